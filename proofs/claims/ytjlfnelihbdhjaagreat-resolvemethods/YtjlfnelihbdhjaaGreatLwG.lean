import Derived.Test.YtjlfnelihbdhjaaGreatTyC
import Derived.Test.YtjlfnelihbdhjaaGreatRfF
import Derived.Test.YtjlfnelihbdhjaaGreatSoE
import Derived.Test.YtjlfnelihbdhjaaGreatRwB
import Derived.Test.YtjlfnelihbdhjaaGreatRsC
import Derived.Test.YtjlfnelihbdhjaaGreatOwnL
import Derived.Test.YtjlfnelihbdhjaaGreatRsB
import Derived.Test.YtjlfnelihbdhjaaGreatRfL
import Derived.Deep.LoopGhost
import Derived.Deep.RegionHeld3
set_option maxRecDepth 100000
namespace Go.Proofs.YtjlfnelihbdhjaaGreat
open Go.RowKit Go.Maps
theorem isOverInt_c (d:Int) (s:ByteArray) (W:World):Calls Tryz.prog 228 #[.agg #[.int .i64 d,.string s]] W fun e w'=>e=.returned (.bool s.toList.isEmpty)∧Below W.heap.size W w':=by
  cases he:s.toList.isEmpty
  all_goals
    go_enter Tryz.func228,Tryz.ntmps228
    go_wp2
    go_ret
    exact ⟨by first|rfl|simp_all,(by repeat (first|exact Below.refl _ _|refine Below.setCell ?_ (by simp;try omega) _|refine Below.alloc ?_ (by simp;try omega) _|refine Below.drew ?_))⟩
def ldI (ps:List Plc) (d:Int) (s:ByteArray):Int:=if sndB d s.data.toList then (if s.toList.isEmpty then 0 else match lookL ps s.data.toList with
  | some _=>0
  | none=>20) else 1
theorem loaded_c {b:Nat} {ps:List Plc} {W:World} (h:WAt b ps W) (d:Int) (s:ByteArray) (hs:s.size≤maxLen):Calls Tryz.prog 165 #[.pointer (some ⟨b,0,none⟩),.agg #[.int .i64 d,.string s]] W fun e w'=>e=.returned (.int .i64 (ldI ps d s))∧Below W.heap.size W w':=by
  have HC:Hid (∀ w:World,Calls Tryz.prog 227 #[.agg #[.int .i64 d,.string s]] w fun e w'=>e=.returned (.int .i64 (chkI (sndB d s.data.toList)))∧Below w.heap.size w w'):=tyCheck_any d s hs
  have HO:Hid (∀ w:World,Calls Tryz.prog 228 #[.agg #[.int .i64 d,.string s]] w fun e w'=>e=.returned (.bool s.toList.isEmpty)∧Below w.heap.size w w'):=isOverInt_c d s
  have HN:Hid (∀ w:World,Below W.heap.size W w→Calls Tryz.prog 167 #[.pointer (some ⟨b,0,none⟩),.string s] w fun e w'=>e=.returned (bnV (lookL ps s.data.toList))∧Below w.heap.size w w'):=fun w hb=>byName_c (h.below hb) s hs
  obtain ⟨R,hR⟩:∃ R,ldI ps d s=R:=⟨_,rfl⟩
  rw [hR]
  have HR:Hid (ldI ps d s=R):=hR
  clear hR h
  unfold ldI at HR
  generalize sndB d s.data.toList=sn at *
  generalize s.toList.isEmpty=em at *
  generalize lookL ps s.data.toList=lk at *
  cases sn with
  | false =>
    have e:chkI false=1:=rfl
    rw [e] at HC
    have HS:Hid (R=1):=HR.out.symm
    clear HR
    go_enter Tryz.func165,Tryz.ntmps165
    go_wp2_with (go_at_call 227;refine (HC.out _).mono ?_;rintro e w1 ⟨rfl,hb⟩;have B1:Hid (Below W.heap.size W w1):=bstep (by repeat (first|exact Below.refl _ _|refine Below.setCell ?_ (by simp;try omega) _|refine Below.alloc ?_ (by simp;try omega) _|refine Below.drew ?_)) hb;clear hb HC)
    exact bodyPost_ret (results_tmp rfl _ _ _) rfl ⟨by rw [HS.out];rfl,B1.out⟩
  | true =>
    have e:chkI true=0:=rfl
    rw [e] at HC
    cases em with
    | true =>
      have HS:Hid (R=0):=HR.out.symm
      clear HR
      go_enter Tryz.func165,Tryz.ntmps165
      go_wp2_with (first
        | (go_at_call 227;refine (HC.out _).mono ?_;rintro e w1 ⟨rfl,hb⟩;have h0:=(hb.block W.heap.size (by simp)).trans (halloc1 W _);have r0:=cell_of_row w1 W.heap.size 0 _ _ _ h0;have r1:=cell_of_row w1 W.heap.size 1 _ _ _ h0;simp only [List.getElem?_toArray,List.getElem?_cons_zero,List.getElem?_cons_succ] at r0 r1;have B1:Hid (Below W.heap.size W w1):=bstep (by repeat (first|exact Below.refl _ _|refine Below.setCell ?_ (by simp;try omega) _|refine Below.alloc ?_ (by simp;try omega) _|refine Below.drew ?_)) hb;clear hb HC h0)
        | (go_at_call 228;refine (HO.out _).mono ?_;rintro e w2 ⟨rfl,hb⟩;have B2:Hid (Below W.heap.size W w2):=bstep B1.out hb;clear hb HO))
      exact bodyPost_ret (results_tmp rfl _ _ _) rfl ⟨by rw [HS.out];rfl,B2.out⟩
    | false =>
      cases lk
      all_goals
        first|have HS:Hid (R=20):=HR.out.symm|have HS:Hid (R=0):=HR.out.symm
        clear HR
        simp only [bnV] at HN
        go_enter Tryz.func165,Tryz.ntmps165
        go_wp2_with (first
          | (go_at_call 227;refine (HC.out _).mono ?_;rintro e w1 ⟨rfl,hb⟩;have h0:=(hb.block W.heap.size (by simp)).trans (halloc1 W _);have r0:=cell_of_row w1 W.heap.size 0 _ _ _ h0;have r1:=cell_of_row w1 W.heap.size 1 _ _ _ h0;simp only [List.getElem?_toArray,List.getElem?_cons_zero,List.getElem?_cons_succ] at r0 r1;have hl:W.heap.size<w1.heap.size:=(Array.getElem?_eq_some_iff.1 h0).1;have B1:Hid (Below W.heap.size W w1):=bstep (by repeat (first|exact Below.refl _ _|refine Below.setCell ?_ (by simp;try omega) _|refine Below.alloc ?_ (by simp;try omega) _|refine Below.drew ?_)) hb;clear hb HC h0)
          | (go_at_call 228;refine (HO.out _).mono ?_;rintro e w2 ⟨rfl,hb⟩;have B2:Hid (Below W.heap.size W w2):=bstep B1.out hb;replace r0:=(hb.cell (p:=⟨W.heap.size,0,none⟩) hl).trans r0;replace r1:=(hb.cell (p:=⟨W.heap.size,1,none⟩) hl).trans r1;clear hb HO)
          | (go_at_call 167;refine (HN.out _ B2.out).mono ?_;rintro e w3 ⟨rfl,hb⟩;have B3:Hid (Below W.heap.size W w3):=bstep B2.out hb;clear hb HN))
        exact bodyPost_ret (results_tmp rfl _ _ _) rfl ⟨by rw [HS.out];rfl,B3.out⟩
def tyO (ps:List Plc) (p:Plc) (s:ByteArray):Bool:=if s.toList.isEmpty then true else match lookL ps s.data.toList with
  | some k=>(match ps[k]? with|some q=>clsO q p|none=>false)
  | none=>false
theorem aTy_c {b:Nat} {ps:List Plc} {W:World} (h:WAt b ps W) (hB:∀ q∈ps,PlcB q) (d:Nat) (p:Plc) (hd:ps[d]?=some p) (x:Int) (s:ByteArray) (hs:s.size≤maxLen) (hl:ldI ps x s=0):Calls Tryz.prog 226 #[.pointer (some ⟨b,0,none⟩),.int .i64 (d:Int),.agg #[.int .i64 x,.string s]] W fun e w'=>e=.returned (.bool (tyO ps p s))∧Below W.heap.size W w':=by
  cases he:s.toList.isEmpty with
  | true =>
    have e:tyO ps p s=true:=by rw [tyO,he];rfl
    rw [e]
    clear h e hl
    go_enter Tryz.func226,Tryz.ntmps226
    go_wp2
    exact bodyPost_ret (results_tmp rfl _ _ _) rfl ⟨rfl,(by repeat (first|exact Below.refl _ _|refine Below.setCell ?_ (by simp;try omega) _|refine Below.alloc ?_ (by simp;try omega) _|refine Below.drew ?_))⟩
  | false =>
    obtain ⟨k,hk⟩:∃ k,lookL ps s.data.toList=some k:=by
      unfold ldI at hl
      rw [he] at hl
      cases hl2:lookL ps s.data.toList with
      | some k=>exact ⟨k,rfl⟩
      | none=>rw [hl2] at hl;exfalso;revert hl;cases sndB x s.data.toList <;> simp
    obtain ⟨q,hq,_⟩:=look_place hk
    have e:tyO ps p s=clsO q p:=by rw [tyO,he,hk];simp only [hq];rfl
    rw [e]
    have HN:Hid (∀ w:World,Below W.heap.size W w→Calls Tryz.prog 167 #[.pointer (some ⟨b,0,none⟩),.string s] w fun e w'=>e=.returned (.tuple #[.int .i64 (k:Int),.int .i64 0])∧Below W.heap.size W w'):=fun w hb=>(byName_c (h.below hb) s hs).mono fun e w' zz=>⟨by rw [zz.1,hk];rfl,bstep hb zz.2⟩
    have HI:Hid (∀ w,Below W.heap.size W w→Calls Tryz.prog 278 #[.pointer (some ⟨b,0,none⟩),.int .i64 (d:Int),.int .i64 (k:Int)] w fun e w'=>e=.returned (.bool (clsO q p))∧Below W.heap.size W w'):=fun w hb=>(aCls_c (h.below hb) hB d k p q hd hq).mono fun e w' zz=>⟨zz.1,bstep hb zz.2⟩
    generalize clsO q p=R at *
    clear h hB hd hl hk hq e hs
    go_enter Tryz.func226,Tryz.ntmps226
    go_wp2_with (first
      | (go_at_call 167;refine (HN.out _ (by repeat (first|exact Below.refl _ _|refine Below.setCell ?_ (by simp;try omega) _|refine Below.alloc ?_ (by simp;try omega) _|refine Below.drew ?_))).mono ?_;rintro e w1 ⟨rfl,hb⟩;have B1:Hid (Below W.heap.size W w1):=hb;clear hb HN)
      | (go_at_call 278;refine (HI.out _ B1.out).mono ?_;rintro e w2 ⟨rfl,hb⟩;have B2:Hid (Below W.heap.size W w2):=hb;clear hb HI))
    exact bodyPost_ret (results_tmp rfl _ _ _) rfl ⟨rfl,B2.out⟩
def toI (ps:List Plc) (d x:Int) (s:ByteArray):Value:=match plcI ps d with
  | some p=>if ldI ps x s=0 then .tuple #[.bool (tyO ps p s),.int .i64 0] else .tuple #[.bool false,.int .i64 (ldI ps x s)]
  | none=>.tuple #[.bool false,.int .i64 3]
theorem typeOpen_c {b:Nat} {ps:List Plc} {W:World} (h:WAt b ps W) (hB:∀ q∈ps,PlcB q) (d x:Int) (s:ByteArray) (hs:s.size≤maxLen):Calls Tryz.prog 164 #[.pointer (some ⟨b,0,none⟩),.int .i64 d,.agg #[.int .i64 x,.string s]] W fun e w'=>e=.returned (toI ps d x s)∧Below W.heap.size W w':=by
  have HC:Hid (∀ (w:World) (v:Value),Below W.heap.size W w→Rds w v 1 1 [.int .i64 d]→Calls Tryz.prog 170 #[.pointer (some ⟨b,0,none⟩),v] w fun e w'=>e=.returned (.int .i64 (if (plcI ps d).isSome then 0 else 3))∧Below w.heap.size w w'):=fun w v hb hv=>(check_c (h.below hb) v [d] hv (by simp)).mono fun e w' zz=>⟨by rw [zz.1,inNs_iff];simp,zz.2⟩
  have HL:Hid (∀ w,Below W.heap.size W w→Calls Tryz.prog 165 #[.pointer (some ⟨b,0,none⟩),.agg #[.int .i64 x,.string s]] w fun e w'=>e=.returned (.int .i64 (ldI ps x s))∧Below w.heap.size w w'):=fun w hb=>loaded_c (h.below hb) x s hs
  rcases plcI_cases ps d with ⟨d1,_⟩|⟨d,p,rfl,d2,d1⟩
  · have e:toI ps d x s=.tuple #[.bool false,.int .i64 3]:=by rw [toI,d1]
    rw [e]
    rw [d1] at HC
    simp only [Option.isSome_none,Bool.false_eq_true,if_false] at HC
    clear h d1 e HL
    go_enter Tryz.func164,Tryz.ntmps164
    go_wp2_with (first
      | (go_at_call 170;refine (HC.out _ _ (by repeat (first|exact Below.refl _ _|refine Below.setCell ?_ (by simp;try omega) _|refine Below.alloc ?_ (by simp;try omega) _|refine Below.drew ?_)) (rds_at _ _ (by simp) _ 3 1 1 rfl (by decide))).mono ?_;rintro e w1 ⟨rfl,hb⟩;have B1:Hid (Below W.heap.size W w1):=bstep (by repeat (first|exact Below.refl _ _|refine Below.setCell ?_ (by simp;try omega) _|refine Below.alloc ?_ (by simp;try omega) _|refine Below.drew ?_)) hb;clear hb HC))
    exact bodyPost_ret (results_tmp2 rfl _ _ _) rfl ⟨rfl,B1.out⟩
  · rw [d1] at HC
    simp only [Option.isSome_some,if_true] at HC
    by_cases hl:ldI ps x s=0
    · have e:toI ps d x s=.tuple #[.bool (tyO ps p s),.int .i64 0]:=by rw [toI,d1];simp only [if_pos hl]
      rw [e]
      have HT:Hid (∀ w,Below W.heap.size W w→Calls Tryz.prog 226 #[.pointer (some ⟨b,0,none⟩),.int .i64 (d:Int),.agg #[.int .i64 x,.string s]] w fun e w'=>e=.returned (.bool (tyO ps p s))∧Below w.heap.size w w'):=fun w hb=>aTy_c (h.below hb) hB d p d2 x s hs hl
      rw [hl] at HL
      generalize tyO ps p s=R at *
      clear h d1 e d2 hl hB hs
      go_enter Tryz.func164,Tryz.ntmps164
      go_wp2_with (first
        | (go_at_call 170;refine (HC.out _ _ (by repeat (first|exact Below.refl _ _|refine Below.setCell ?_ (by simp;try omega) _|refine Below.alloc ?_ (by simp;try omega) _|refine Below.drew ?_)) (rds_at _ _ (by simp) _ 3 1 1 rfl (by decide))).mono ?_;rintro e w1 ⟨rfl,hb⟩;have h0:=(hb.block W.heap.size (by simp;omega)).trans (heap_alloc2_old W _ _);have r0:=cell_of_row w1 W.heap.size 0 _ _ _ h0;have r1:=cell_of_row w1 W.heap.size 1 _ _ _ h0;simp only [List.getElem?_toArray,List.getElem?_cons_zero,List.getElem?_cons_succ] at r0 r1;have hl0:W.heap.size<w1.heap.size:=(Array.getElem?_eq_some_iff.1 h0).1;have B1:Hid (Below W.heap.size W w1):=bstep (by repeat (first|exact Below.refl _ _|refine Below.setCell ?_ (by simp;try omega) _|refine Below.alloc ?_ (by simp;try omega) _|refine Below.drew ?_)) hb;clear hb HC h0)
        | (go_at_call 165;refine (HL.out _ B1.out).mono ?_;rintro e w2 ⟨rfl,hb⟩;replace r0:=(hb.cell (p:=⟨W.heap.size,0,none⟩) hl0).trans r0;replace r1:=(hb.cell (p:=⟨W.heap.size,1,none⟩) hl0).trans r1;have B2:Hid (Below W.heap.size W w2):=bstep B1.out hb;clear hb HL)
        | (go_at_call 226;refine (HT.out _ B2.out).mono ?_;rintro e w3 ⟨rfl,hb⟩;have B3:Hid (Below W.heap.size W w3):=bstep B2.out hb;clear hb HT))
      exact bodyPost_ret (results_tmp2 rfl _ _ _) rfl ⟨rfl,B3.out⟩
    · have e:toI ps d x s=.tuple #[.bool false,.int .i64 (ldI ps x s)]:=by rw [toI,d1];simp only [if_neg hl]
      rw [e]
      generalize ldI ps x s=R at *
      clear h d1 e d2 hB hs
      go_enter Tryz.func164,Tryz.ntmps164
      go_wp2_with (first
        | (go_at_call 170;refine (HC.out _ _ (by repeat (first|exact Below.refl _ _|refine Below.setCell ?_ (by simp;try omega) _|refine Below.alloc ?_ (by simp;try omega) _|refine Below.drew ?_)) (rds_at _ _ (by simp) _ 3 1 1 rfl (by decide))).mono ?_;rintro e w1 ⟨rfl,hb⟩;have h0:=(hb.block W.heap.size (by simp;omega)).trans (heap_alloc2_old W _ _);have r0:=cell_of_row w1 W.heap.size 0 _ _ _ h0;have r1:=cell_of_row w1 W.heap.size 1 _ _ _ h0;simp only [List.getElem?_toArray,List.getElem?_cons_zero,List.getElem?_cons_succ] at r0 r1;have hl0:W.heap.size<w1.heap.size:=(Array.getElem?_eq_some_iff.1 h0).1;have B1:Hid (Below W.heap.size W w1):=bstep (by repeat (first|exact Below.refl _ _|refine Below.setCell ?_ (by simp;try omega) _|refine Below.alloc ?_ (by simp;try omega) _|refine Below.drew ?_)) hb;clear hb HC h0)
        | (go_at_call 165;refine (HL.out _ B1.out).mono ?_;rintro e w2 ⟨rfl,hb⟩;have B2:Hid (Below W.heap.size W w2):=bstep B1.out hb;clear hb HL))
      exact bodyPost_ret (results_tmp2 rfl _ _ _) rfl ⟨rfl,B2.out⟩
def intB (d:Int) (s:ByteArray):Bool:=(d == 0)&&s.toList.isEmpty
theorem isInt_c (d:Int) (s:ByteArray) (W:World):Calls Tryz.prog 166 #[.agg #[.int .i64 d,.string s]] W fun e w'=>e=.returned (.bool (intB d s))∧Below W.heap.size W w':=by
  obtain ⟨R,hR⟩:∃ R,intB d s=R:=⟨_,rfl⟩
  have HR:Hid (((d == 0)&&s.toList.isEmpty)=R):=hR
  rw [hR]
  clear hR
  go_enter Tryz.func166,Tryz.ntmps166
  go_wp2
  all_goals go_ret
  all_goals exact ⟨retB (by rw [← HR.out];simp [*]),(by repeat (first|exact Below.refl _ _|refine Below.setCell ?_ (by simp;try omega) _|refine Below.alloc ?_ (by simp;try omega) _|refine Below.drew ?_))⟩
theorem lby_c {b:Nat} {ps:List Plc} {W:World} (h:WAt b ps W) (hi:WI ps) (c:Int) (y:Bool) (cn nm ds:ByteArray):Calls Tryz.prog 86 #[.pointer (some ⟨b,0,none⟩),.int .i64 c,.agg #[.bool y,.string cn,.string nm,.string ds]] W fun e w'=>e=.returned (idE (lbyR ps y nm ds c))∧Below W.heap.size W w':=by
  have HL:Hid (∀ w,Below W.heap.size W w→Calls Tryz.prog 169 #[.pointer (some ⟨b,0,none⟩),.int .i64 c,.string nm,.string ds] w fun e w'=>e=.returned (idE (lookR ps nm ds c))∧Below w.heap.size w w'):=fun w hb=>look_c (h.below hb) hi c nm ds
  have HF:Hid (∀ w,Below W.heap.size W w→Calls Tryz.prog 168 #[.pointer (some ⟨b,0,none⟩),.int .i64 c,.string nm,.string ds] w fun e w'=>e=.returned (idE (lifR ps nm ds c))∧Below w.heap.size w w'):=fun w hb=>lif_c (h.below hb) hi c nm ds
  unfold lbyR
  generalize lookR ps nm ds c=R at *
  generalize lifR ps nm ds c=S at *
  obtain ⟨⟨R1,R2⟩,R3⟩:=R
  obtain ⟨⟨S1,S2⟩,S3⟩:=S
  simp only [idE] at HL HF
  clear h hi
  cases y with
  | true =>
    rw [if_pos rfl]
    go_enter Tryz.func86,Tryz.ntmps86
    go_wp2_with (first
      | (go_at_call 168;refine (HF.out _ (by repeat (first|exact Below.refl _ _|refine Below.setCell ?_ (by simp;try omega) _|refine Below.alloc ?_ (by simp;try omega) _|refine Below.drew ?_))).mono ?_;rintro e w2 ⟨rfl,hb⟩;have zd:=kp2 (n:=W.heap.size+1) hb;(try clear zB z0 z1 zf zL zN);obtain ⟨zB,z0,z1,zf,zL,zN⟩:=zd;have B2:Hid (Below W.heap.size W w2):=bstep (by repeat (first|exact Below.refl _ _|refine Below.setCell ?_ (by simp;try omega) _|refine Below.alloc ?_ (by simp;try omega) _|refine Below.drew ?_)) hb;clear hb HF))
    exact bodyPost_ret (v:=idE ((S1,S2),S3)) (by simp [results,Tryz.results86,go_sem,idE, *]) rfl ⟨rfl,(by repeat (first|exact B2.out|refine Below.setCell ?_ (by simp;try omega) _|refine Below.alloc ?_ (by have:=B2.out.size;simp;try omega) _|refine Below.drew ?_))⟩
  | false =>
    rw [if_neg (by simp)]
    go_enter Tryz.func86,Tryz.ntmps86
    go_wp2_with (first
      | (go_at_call 169;refine (HL.out _ (by repeat (first|exact Below.refl _ _|refine Below.setCell ?_ (by simp;try omega) _|refine Below.alloc ?_ (by simp;try omega) _|refine Below.drew ?_))).mono ?_;rintro e w2 ⟨rfl,hb⟩;have zd:=kp2 (n:=W.heap.size+1) hb;(try clear zB z0 z1 zf zL zN);obtain ⟨zB,z0,z1,zf,zL,zN⟩:=zd;have B2:Hid (Below W.heap.size W w2):=bstep (by repeat (first|exact Below.refl _ _|refine Below.setCell ?_ (by simp;try omega) _|refine Below.alloc ?_ (by simp;try omega) _|refine Below.drew ?_)) hb;clear hb HL))
    exact bodyPost_ret (v:=idE ((R1,R2),R3)) (by simp [results,Tryz.results86,go_sem,idE, *]) rfl ⟨rfl,(by repeat (first|exact B2.out|refine Below.setCell ?_ (by simp;try omega) _|refine Below.alloc ?_ (by have:=B2.out.size;simp;try omega) _|refine Below.drew ?_))⟩
def toP (ps:List Plc) (d x:Int) (s:ByteArray):Bool×Int:=match plcI ps d with
  | some p=>if ldI ps x s=0 then (tyO ps p s,0) else (false,ldI ps x s)
  | none=>(false,3)
theorem toI_eq (ps:List Plc) (d x:Int) (s:ByteArray):toI ps d x s=.tuple #[.bool (toP ps d x s).1,.int .i64 (toP ps d x s).2]:=by
  unfold toI toP
  cases plcI ps d with
  | none=>rfl
  | some p=>by_cases h:ldI ps x s=0 <;> simp [h]
def tyE (x:(Int×ByteArray)×Int):Value:=.tuple #[.agg #[.int .i64 x.1.1,.string x.1.2],.int .i64 x.2]
def tyS (l:List UInt8):ByteArray:=⟨(prfT l).2.toArray⟩
def tyX (ps:List Plc) (d:Int) (l:List UInt8):Int:=shuI (toP ps d (prfT l).1 (tyS l)).1 (toP ps d (prfT l).1 (tyS l)).2
def clsR (ps:List Plc) (d:Int) (l:List UInt8):(Int×ByteArray)×Int :=
  if rckI ps d=0 then (if prfE l=0 then (if tyX ps d l=0 then ((((prfT l).1:Int),tyS l),0) else ((0,⟨#[]⟩),tyX ps d l)) else ((0,⟨#[]⟩),4)) else ((0,⟨#[]⟩),rckI ps d)
theorem prf_len2 (l:List UInt8) (h:prfE l=0):(prfT l).2.length≤2000∧(prfT l).1≤2000:=by
  unfold prfE at h
  unfold prfT
  by_cases h1:2000<l.length
  · rw [if_pos h1] at h;exact absurd h (by decide)
  · rw [if_neg h1] at h
    rw [if_neg h1]
    by_cases h2:l.head?=some 91
    · rw [if_pos h2] at h
      rw [if_pos h2]
      unfold parT
      rw [if_pos h]
      split
      · rename_i t r e
        have hw:=(write_read e).1
        have hl:=congrArg List.length hw
        rw [List.length_append,writeT_length] at hl
        split at hl
        · rename_i e0;rw [e0];simp;omega
        · omega
      all_goals simp
    · rw [if_neg h2] at h
      rw [if_neg h2]
      split
      · simp;omega
      · simp
set_option maxHeartbeats 1000000 in
theorem cls_c {b:Nat} {ps:List Plc} {W:World} (h:WAt b ps W) (hi:WI ps) (d:Int) (s:ByteArray) (hs:s.size≤maxLen):Calls Tryz.prog 84 #[.pointer (some ⟨b,0,none⟩),.int .i64 d,.string s] W fun e w'=>e=.returned (tyE (clsR ps d s.data.toList))∧Below W.heap.size W w':=by
  have HC:Hid (∀ w,Below W.heap.size W w→Calls Tryz.prog 82 #[.pointer (some ⟨b,0,none⟩),.int .i64 d] w fun e w'=>e=.returned (.int .i64 (rckI ps d))∧Below w.heap.size w w'):=fun w hb=>(rck_c (h.below hb) d).mono fun e w' zz=>⟨zz.1,by rw [zz.2];exact Below.refl _ _⟩
  have HP:Hid (∀ w:World,Calls Tryz.prog 161 #[.string s] w fun e w'=>e=.returned (.tuple #[.agg #[.int .i64 ((prfT s.data.toList).1:Int),.string (tyS s.data.toList)],.int .i64 (prfE s.data.toList)])∧Below w.heap.size w w'):=parseRef_any s hs
  have HS:Hid (∀ o x (w:World),Calls Tryz.prog 87 #[.bool o,.int .i64 x] w fun e w'=>e=.returned (.int .i64 (shuI o x))∧w'=w):=shut_c
  have HT:Hid (prfE s.data.toList=0→∀ w,Below W.heap.size W w→Calls Tryz.prog 164 #[.pointer (some ⟨b,0,none⟩),.int .i64 d,.agg #[.int .i64 ((prfT s.data.toList).1:Int),.string (tyS s.data.toList)]] w fun e w'=>e=.returned (.tuple #[.bool (toP ps d (prfT s.data.toList).1 (tyS s.data.toList)).1,.int .i64 (toP ps d (prfT s.data.toList).1 (tyS s.data.toList)).2])∧Below w.heap.size w w'):=fun h0 w hb=>by
    have hl:=(prf_len2 _ h0).1
    refine (typeOpen_c (h.below hb) hi.pb d _ _ ?_).mono fun e w' zz=>⟨by rw [zz.1,toI_eq],zz.2⟩
    have:(tyS s.data.toList).size=(prfT s.data.toList).2.length:=by simp [tyS,ByteArray.size]
    rw [this];unfold maxLen;omega
  unfold clsR tyX
  generalize ((prfT s.data.toList).1:Int)=x at *
  generalize tyS s.data.toList=t at *
  generalize toP ps d x t=P at *
  obtain ⟨P1,P2⟩:=P
  simp only at HT ⊢
  generalize prfE s.data.toList=pe at *
  generalize rckI ps d=ck at *
  replace HS:Hid (∀ (w:World),Calls Tryz.prog 87 #[.bool P1,.int .i64 P2] w fun e w'=>e=.returned (.int .i64 (shuI P1 P2))∧w'=w):=HS.out P1 P2
  generalize shuI P1 P2=sh at *
  clear h hi hs
  by_cases h0:ck=0
  · subst h0
    rw [if_pos rfl]
    by_cases h1:pe=0
    · subst h1
      rw [if_pos rfl]
      replace HT:Hid (∀ w,Below W.heap.size W w→Calls Tryz.prog 164 #[.pointer (some ⟨b,0,none⟩),.int .i64 d,.agg #[.int .i64 x,.string t]] w fun e w'=>e=.returned (.tuple #[.bool P1,.int .i64 P2])∧Below w.heap.size w w'):=HT.out rfl
      by_cases h2:sh=0
      · subst h2
        rw [if_pos rfl]
        go_enter Tryz.func84,Tryz.ntmps84
        go_wp2_with (first
          | (go_at_call 82;refine (HC.out _ (by repeat (first|exact Below.refl _ _|refine Below.setCell ?_ (by simp;try omega) _|refine Below.alloc ?_ (by simp;try omega) _|refine Below.drew ?_))).mono ?_;rintro e w1 ⟨rfl,hb⟩;have zd:=kp2 (n:=W.heap.size) hb;(try clear zB z0 z1 zf zL zN);obtain ⟨zB,z0,z1,zf,zL,zN⟩:=zd;have B1:Hid (Below W.heap.size W w1):=bstep (by repeat (first|exact Below.refl _ _|refine Below.setCell ?_ (by simp;try omega) _|refine Below.alloc ?_ (by simp;try omega) _|refine Below.drew ?_)) hb;clear hb HC)
          | (go_at_call 161;refine (HP.out _).mono ?_;rintro e w2 ⟨rfl,hb⟩;have zd:=kp2 (n:=W.heap.size) hb;(try clear zB z0 z1 zf zL zN);obtain ⟨zB,z0,z1,zf,zL,zN⟩:=zd;have B2:Hid (Below W.heap.size W w2):=bstep B1.out hb;clear hb HP)
          | (go_at_call 164;refine (HT.out _ (B2.out.alloc B2.out.size _)).mono ?_;rintro e w3 ⟨rfl,hb⟩;have hn3:¬ w2.heap.size=W.heap.size:=(by omega);have hm3:¬ W.heap.size=w2.heap.size:=(by omega);have zd:=kp2 (n:=W.heap.size) hb;(try clear zB z0 z1 zf zL zN);obtain ⟨zB,z0,z1,zf,zL,zN⟩:=zd;have gd:=kp2 (n:=w2.heap.size) hb;(try clear gB g0 g1 gf gL gN);obtain ⟨gB,g0,g1,gf,gL,gN⟩:=gd;have B3:Hid (Below W.heap.size W w3):=bstep (B2.out.alloc B2.out.size _) hb;clear hb HT)
          | (go_at_call 87;refine (HS.out _).mono ?_;rintro e w9 ⟨rfl,hw9⟩;rw [hw9];clear hw9 w9))
        exact bodyPost_ret (v:=tyE ((x,t),0)) (by simp [results,Tryz.results84,go_sem,tyE, *]) rfl ⟨rfl,(by repeat (first|exact B3.out|refine Below.setCell ?_ (by simp;try omega) _|refine Below.alloc ?_ (by have:=B3.out.size;simp;try omega) _|refine Below.drew ?_))⟩
      · rw [if_neg h2]
        go_enter Tryz.func84,Tryz.ntmps84
        go_wp2_with (first
          | (go_at_call 82;refine (HC.out _ (by repeat (first|exact Below.refl _ _|refine Below.setCell ?_ (by simp;try omega) _|refine Below.alloc ?_ (by simp;try omega) _|refine Below.drew ?_))).mono ?_;rintro e w1 ⟨rfl,hb⟩;have zd:=kp2 (n:=W.heap.size) hb;(try clear zB z0 z1 zf zL zN);obtain ⟨zB,z0,z1,zf,zL,zN⟩:=zd;have B1:Hid (Below W.heap.size W w1):=bstep (by repeat (first|exact Below.refl _ _|refine Below.setCell ?_ (by simp;try omega) _|refine Below.alloc ?_ (by simp;try omega) _|refine Below.drew ?_)) hb;clear hb HC)
          | (go_at_call 161;refine (HP.out _).mono ?_;rintro e w2 ⟨rfl,hb⟩;have zd:=kp2 (n:=W.heap.size) hb;(try clear zB z0 z1 zf zL zN);obtain ⟨zB,z0,z1,zf,zL,zN⟩:=zd;have B2:Hid (Below W.heap.size W w2):=bstep B1.out hb;clear hb HP)
          | (go_at_call 164;refine (HT.out _ (B2.out.alloc B2.out.size _)).mono ?_;rintro e w3 ⟨rfl,hb⟩;have zd:=kp2 (n:=W.heap.size) hb;(try clear zB z0 z1 zf zL zN);obtain ⟨zB,z0,z1,zf,zL,zN⟩:=zd;have B3:Hid (Below W.heap.size W w3):=bstep (B2.out.alloc B2.out.size _) hb;clear hb HT)
          | (go_at_call 87;refine (HS.out _).mono ?_;rintro e w9 ⟨rfl,hw9⟩;rw [hw9];clear hw9 w9))
        exact bodyPost_ret (v:=tyE ((0,⟨#[]⟩),sh)) (by simp [results,Tryz.results84,go_sem,tyE, *]) rfl ⟨rfl,(by repeat (first|exact B3.out|refine Below.setCell ?_ (by simp;try omega) _|refine Below.alloc ?_ (by have:=B3.out.size;simp;try omega) _|refine Below.drew ?_))⟩
    · rw [if_neg h1]
      go_enter Tryz.func84,Tryz.ntmps84
      go_wp2_with (first
        | (go_at_call 82;refine (HC.out _ (by repeat (first|exact Below.refl _ _|refine Below.setCell ?_ (by simp;try omega) _|refine Below.alloc ?_ (by simp;try omega) _|refine Below.drew ?_))).mono ?_;rintro e w1 ⟨rfl,hb⟩;have zd:=kp2 (n:=W.heap.size) hb;(try clear zB z0 z1 zf zL zN);obtain ⟨zB,z0,z1,zf,zL,zN⟩:=zd;have B1:Hid (Below W.heap.size W w1):=bstep (by repeat (first|exact Below.refl _ _|refine Below.setCell ?_ (by simp;try omega) _|refine Below.alloc ?_ (by simp;try omega) _|refine Below.drew ?_)) hb;clear hb HC)
        | (go_at_call 161;refine (HP.out _).mono ?_;rintro e w2 ⟨rfl,hb⟩;have zd:=kp2 (n:=W.heap.size) hb;(try clear zB z0 z1 zf zL zN);obtain ⟨zB,z0,z1,zf,zL,zN⟩:=zd;have B2:Hid (Below W.heap.size W w2):=bstep B1.out hb;clear hb HP))
      exact bodyPost_ret (v:=tyE ((0,⟨#[]⟩),4)) (by simp [results,Tryz.results84,go_sem,tyE, *]) rfl ⟨rfl,(by repeat (first|exact B2.out|refine Below.setCell ?_ (by simp;try omega) _|refine Below.alloc ?_ (by have:=B2.out.size;simp;try omega) _|refine Below.drew ?_))⟩
  · rw [if_neg h0]
    go_enter Tryz.func84,Tryz.ntmps84
    go_wp2_with (first
      | (go_at_call 82;refine (HC.out _ (by repeat (first|exact Below.refl _ _|refine Below.setCell ?_ (by simp;try omega) _|refine Below.alloc ?_ (by simp;try omega) _|refine Below.drew ?_))).mono ?_;rintro e w2 ⟨rfl,hb⟩;have zd:=kp2 (n:=W.heap.size) hb;(try clear zB z0 z1 zf zL zN);obtain ⟨zB,z0,z1,zf,zL,zN⟩:=zd;have B2:Hid (Below W.heap.size W w2):=bstep (by repeat (first|exact Below.refl _ _|refine Below.setCell ?_ (by simp;try omega) _|refine Below.alloc ?_ (by simp;try omega) _|refine Below.drew ?_)) hb;clear hb HC))
    exact bodyPost_ret (v:=tyE ((0,⟨#[]⟩),ck)) (by simp [results,Tryz.results84,go_sem,tyE, *]) rfl ⟨rfl,(by repeat (first|exact B2.out|refine Below.setCell ?_ (by simp;try omega) _|refine Below.alloc ?_ (by have:=B2.out.size;simp;try omega) _|refine Below.drew ?_))⟩
def hldR (ps:List Plc) (x:Int) (s:ByteArray):Int×Int:=if ldI ps x s=0 then (if intB x s then (0,2) else if 0<x then (0,0) else match lookL ps s.data.toList with
  | some k=>((k:Int),0)
  | none=>(0,6)) else (0,ldI ps x s)
set_option maxHeartbeats 1000000 in
theorem hld_c {b:Nat} {ps:List Plc} {W:World} (h:WAt b ps W) (x:Int) (s:ByteArray) (hs:s.size≤maxLen):Calls Tryz.prog 85 #[.pointer (some ⟨b,0,none⟩),.agg #[.int .i64 x,.string s]] W fun e w'=>e=.returned (.tuple #[.int .i64 (hldR ps x s).1,.int .i64 (hldR ps x s).2])∧Below W.heap.size W w':=by
  have HL:Hid (∀ w,Below W.heap.size W w→Calls Tryz.prog 165 #[.pointer (some ⟨b,0,none⟩),.agg #[.int .i64 x,.string s]] w fun e w'=>e=.returned (.int .i64 (ldI ps x s))∧Below w.heap.size w w'):=fun w hb=>loaded_c (h.below hb) x s hs
  have HI:Hid (∀ w:World,Calls Tryz.prog 166 #[.agg #[.int .i64 x,.string s]] w fun e w'=>e=.returned (.bool (intB x s))∧Below w.heap.size w w'):=isInt_c x s
  have HN:Hid (∀ w:World,Below W.heap.size W w→Calls Tryz.prog 167 #[.pointer (some ⟨b,0,none⟩),.string s] w fun e w'=>e=.returned (bnV (lookL ps s.data.toList))∧Below w.heap.size w w'):=fun w hb=>byName_c (h.below hb) s hs
  unfold hldR
  generalize ldI ps x s=ld at *
  generalize intB x s=iB at *
  generalize lookL ps s.data.toList=lk at *
  clear h hs
  by_cases h0:ld=0
  · subst h0
    rw [if_pos rfl]
    cases iB with
    | true =>
      rw [if_pos rfl]
      go_enter Tryz.func85,Tryz.ntmps85
      go_wp2_with (first
        | (go_at_call 165;refine (HL.out _ (by repeat (first|exact Below.refl _ _|refine Below.setCell ?_ (by simp;try omega) _|refine Below.alloc ?_ (by simp;try omega) _|refine Below.drew ?_))).mono ?_;rintro e w1 ⟨rfl,hb⟩;have gd:=kp2 (n:=W.heap.size) hb;(try clear gB g0 g1 gf gL gN);obtain ⟨gB,g0,g1,gf,gL,gN⟩:=gd;have B1:Hid (Below W.heap.size W w1):=bstep (by repeat (first|exact Below.refl _ _|refine Below.setCell ?_ (by simp;try omega) _|refine Below.alloc ?_ (by simp;try omega) _|refine Below.drew ?_)) hb;clear hb HL)
        | (go_at_call 166;refine (HI.out _).mono ?_;rintro e w2 ⟨rfl,hb⟩;have B2:Hid (Below W.heap.size W w2):=bstep B1.out hb;clear hb HI))
      exact bodyPost_ret (results_tmp2 rfl _ _ _) rfl ⟨rfl,B2.out⟩
    | false =>
      rw [if_neg (by simp)]
      by_cases hx:0<x
      · rw [if_pos hx]
        go_enter Tryz.func85,Tryz.ntmps85
        go_wp2_with (first
          | (go_at_call 165;refine (HL.out _ (by repeat (first|exact Below.refl _ _|refine Below.setCell ?_ (by simp;try omega) _|refine Below.alloc ?_ (by simp;try omega) _|refine Below.drew ?_))).mono ?_;rintro e w1 ⟨rfl,hb⟩;have gd:=kp2 (n:=W.heap.size) hb;(try clear gB g0 g1 gf gL gN);obtain ⟨gB,g0,g1,gf,gL,gN⟩:=gd;have B1:Hid (Below W.heap.size W w1):=bstep (by repeat (first|exact Below.refl _ _|refine Below.setCell ?_ (by simp;try omega) _|refine Below.alloc ?_ (by simp;try omega) _|refine Below.drew ?_)) hb;clear hb HL)
          | (go_at_call 166;refine (HI.out _).mono ?_;rintro e w2 ⟨rfl,hb⟩;have gd:=kp2 (n:=W.heap.size) hb;(try clear gB g0 g1 gf gL gN);obtain ⟨gB,g0,g1,gf,gL,gN⟩:=gd;have B2:Hid (Below W.heap.size W w2):=bstep B1.out hb;clear hb HI))
        exact bodyPost_ret (results_tmp2 rfl _ _ _) rfl ⟨rfl,B2.out⟩
      · rw [if_neg hx]
        cases lk with
        | none =>
          simp only [bnV] at HN
          go_enter Tryz.func85,Tryz.ntmps85
          go_wp2_with (first
            | (go_at_call 165;refine (HL.out _ (by repeat (first|exact Below.refl _ _|refine Below.setCell ?_ (by simp;try omega) _|refine Below.alloc ?_ (by simp;try omega) _|refine Below.drew ?_))).mono ?_;rintro e w1 ⟨rfl,hb⟩;have gd:=kp2 (n:=W.heap.size) hb;(try clear gB g0 g1 gf gL gN);obtain ⟨gB,g0,g1,gf,gL,gN⟩:=gd;have B1:Hid (Below W.heap.size W w1):=bstep (by repeat (first|exact Below.refl _ _|refine Below.setCell ?_ (by simp;try omega) _|refine Below.alloc ?_ (by simp;try omega) _|refine Below.drew ?_)) hb;clear hb HL)
            | (go_at_call 166;refine (HI.out _).mono ?_;rintro e w2 ⟨rfl,hb⟩;have gd:=kp2 (n:=W.heap.size) hb;(try clear gB g0 g1 gf gL gN);obtain ⟨gB,g0,g1,gf,gL,gN⟩:=gd;have B2:Hid (Below W.heap.size W w2):=bstep B1.out hb;clear hb HI)
            | (go_at_call 167;refine (HN.out _ B2.out).mono ?_;rintro e w3 ⟨rfl,hb⟩;have B3:Hid (Below W.heap.size W w3):=bstep B2.out hb;clear hb HN))
          exact bodyPost_ret (results_tmp2 rfl _ _ _) rfl ⟨rfl,B3.out⟩
        | some k =>
          simp only [bnV] at HN
          go_enter Tryz.func85,Tryz.ntmps85
          go_wp2_with (first
            | (go_at_call 165;refine (HL.out _ (by repeat (first|exact Below.refl _ _|refine Below.setCell ?_ (by simp;try omega) _|refine Below.alloc ?_ (by simp;try omega) _|refine Below.drew ?_))).mono ?_;rintro e w1 ⟨rfl,hb⟩;have gd:=kp2 (n:=W.heap.size) hb;(try clear gB g0 g1 gf gL gN);obtain ⟨gB,g0,g1,gf,gL,gN⟩:=gd;have B1:Hid (Below W.heap.size W w1):=bstep (by repeat (first|exact Below.refl _ _|refine Below.setCell ?_ (by simp;try omega) _|refine Below.alloc ?_ (by simp;try omega) _|refine Below.drew ?_)) hb;clear hb HL)
            | (go_at_call 166;refine (HI.out _).mono ?_;rintro e w2 ⟨rfl,hb⟩;have gd:=kp2 (n:=W.heap.size) hb;(try clear gB g0 g1 gf gL gN);obtain ⟨gB,g0,g1,gf,gL,gN⟩:=gd;have B2:Hid (Below W.heap.size W w2):=bstep B1.out hb;clear hb HI)
            | (go_at_call 167;refine (HN.out _ B2.out).mono ?_;rintro e w3 ⟨rfl,hb⟩;have B3:Hid (Below W.heap.size W w3):=bstep B2.out hb;clear hb HN))
          exact bodyPost_ret (results_tmp2 rfl _ _ _) rfl ⟨rfl,B3.out⟩
  · rw [if_neg h0]
    go_enter Tryz.func85,Tryz.ntmps85
    go_wp2_with (first
      | (go_at_call 165;refine (HL.out _ (by repeat (first|exact Below.refl _ _|refine Below.setCell ?_ (by simp;try omega) _|refine Below.alloc ?_ (by simp;try omega) _|refine Below.drew ?_))).mono ?_;rintro e w1 ⟨rfl,hb⟩;have gd:=kp2 (n:=W.heap.size) hb;(try clear gB g0 g1 gf gL gN);obtain ⟨gB,g0,g1,gf,gL,gN⟩:=gd;have B1:Hid (Below W.heap.size W w1):=bstep (by repeat (first|exact Below.refl _ _|refine Below.setCell ?_ (by simp;try omega) _|refine Below.alloc ?_ (by simp;try omega) _|refine Below.drew ?_)) hb;clear hb HL))
    exact bodyPost_ret (results_tmp2 rfl _ _ _) rfl ⟨rfl,B1.out⟩
def moP (ps:List Plc) (d c i n:Int):Bool×Int:=match plcI ps d,plcI ps n,plcI ps c,methI ps c i with
  | some p,some _,some q,some m=>(mOpen ps d c n m.fl (samePk q p),0)
  | _,_,_,_=>(false,3)
theorem moI_eq (ps:List Plc) (d c i n:Int):moI ps d c i n=.tuple #[.bool (moP ps d c i n).1,.int .i64 (moP ps d c i n).2]:=by
  unfold moI moP
  cases plcI ps d <;> cases plcI ps n <;> cases plcI ps c <;> cases methI ps c i <;> rfl
def metS (ps:List Plc) (d:Int) (y:Bool) (c n ds:ByteArray):(Int×Int)×Int :=
  if (clsR ps d c.data.toList).2=0 then
    (if (hldR ps (clsR ps d c.data.toList).1.1 (clsR ps d c.data.toList).1.2).2=0 then
      (if (lbyR ps y n ds (hldR ps (clsR ps d c.data.toList).1.1 (clsR ps d c.data.toList).1.2).1).2=0 then
        (if shuI (moP ps d (lbyR ps y n ds (hldR ps (clsR ps d c.data.toList).1.1 (clsR ps d c.data.toList).1.2).1).1.1 (lbyR ps y n ds (hldR ps (clsR ps d c.data.toList).1.1 (clsR ps d c.data.toList).1.2).1).1.2 (hldR ps (clsR ps d c.data.toList).1.1 (clsR ps d c.data.toList).1.2).1).1 (moP ps d (lbyR ps y n ds (hldR ps (clsR ps d c.data.toList).1.1 (clsR ps d c.data.toList).1.2).1).1.1 (lbyR ps y n ds (hldR ps (clsR ps d c.data.toList).1.1 (clsR ps d c.data.toList).1.2).1).1.2 (hldR ps (clsR ps d c.data.toList).1.1 (clsR ps d c.data.toList).1.2).1).2=0 then ((lbyR ps y n ds (hldR ps (clsR ps d c.data.toList).1.1 (clsR ps d c.data.toList).1.2).1).1,0)
          else ((0,0),shuI (moP ps d (lbyR ps y n ds (hldR ps (clsR ps d c.data.toList).1.1 (clsR ps d c.data.toList).1.2).1).1.1 (lbyR ps y n ds (hldR ps (clsR ps d c.data.toList).1.1 (clsR ps d c.data.toList).1.2).1).1.2 (hldR ps (clsR ps d c.data.toList).1.1 (clsR ps d c.data.toList).1.2).1).1 (moP ps d (lbyR ps y n ds (hldR ps (clsR ps d c.data.toList).1.1 (clsR ps d c.data.toList).1.2).1).1.1 (lbyR ps y n ds (hldR ps (clsR ps d c.data.toList).1.1 (clsR ps d c.data.toList).1.2).1).1.2 (hldR ps (clsR ps d c.data.toList).1.1 (clsR ps d c.data.toList).1.2).1).2))
        else ((0,0),(lbyR ps y n ds (hldR ps (clsR ps d c.data.toList).1.1 (clsR ps d c.data.toList).1.2).1).2))
      else ((0,0),(hldR ps (clsR ps d c.data.toList).1.1 (clsR ps d c.data.toList).1.2).2))
    else ((0,0),(clsR ps d c.data.toList).2)
def metR (ps:List Plc) (d:Int) (y:Bool) (c n ds:ByteArray):(Int×Int)×Int :=
  if rckI ps d=0 then (if rckE c.data.toList n.data.toList ds.data.toList=0 then metS ps d y c n ds else ((0,0),1)) else ((0,0),rckI ps d)
theorem cls_size (ps:List Plc) (d:Int) (l:List UInt8):(clsR ps d l).1.2.size≤maxLen:=by
  unfold clsR
  split
  · split
    · rename_i h0
      split
      · have hl:=(prf_len2 _ h0).1
        have:(tyS l).size=(prfT l).2.length:=by simp [tyS,ByteArray.size]
        show (tyS l).size≤_
        rw [this];unfold maxLen;omega
      · exact Nat.zero_le _
    · exact Nat.zero_le _
  · exact Nat.zero_le _
set_option maxHeartbeats 4000000 in
theorem met_c {b:Nat} {ps:List Plc} {W:World} (h:WAt b ps W) (hi:WI ps) (d:Int) (y:Bool) (c n ds:ByteArray) (hc:c.size≤maxLen) (hn:n.size≤maxLen) (hd:ds.size≤maxLen):Calls Tryz.prog 31 #[.pointer (some ⟨b,0,none⟩),.int .i64 d,.agg #[.bool y,.string c,.string n,.string ds]] W fun e w'=>e=.returned (idE (metR ps d y c n ds))∧Below W.heap.size W w':=by
  have HC:Hid (∀ w,Below W.heap.size W w→Calls Tryz.prog 82 #[.pointer (some ⟨b,0,none⟩),.int .i64 d] w fun e w'=>e=.returned (.int .i64 (rckI ps d))∧Below w.heap.size w w'):=fun w hb=>(rck_c (h.below hb) d).mono fun e w' zz=>⟨zz.1,by rw [zz.2];exact Below.refl _ _⟩
  have HR:Hid (∀ w:World,Calls Tryz.prog 83 #[.agg #[.bool y,.string c,.string n,.string ds]] w fun e w'=>e=.returned (.int .i64 (rckE c.data.toList n.data.toList ds.data.toList))∧Below w.heap.size w w'):=refCheck_any y c n ds hc hn hd
  have HK:Hid (∀ w,Below W.heap.size W w→Calls Tryz.prog 84 #[.pointer (some ⟨b,0,none⟩),.int .i64 d,.string c] w fun e w'=>e=.returned (tyE (clsR ps d c.data.toList))∧Below w.heap.size w w'):=fun w hb=>cls_c (h.below hb) hi d c hc
  have hsz:=cls_size ps d c.data.toList
  have HS:Hid (∀ o x (w:World),Calls Tryz.prog 87 #[.bool o,.int .i64 x] w fun e w'=>e=.returned (.int .i64 (shuI o x))∧w'=w):=shut_c
  unfold metR metS
  generalize clsR ps d c.data.toList=K at *
  obtain ⟨⟨t1,t2⟩,t3⟩:=K
  simp only [tyE] at HK hsz ⊢
  have HH:Hid (∀ w,Below W.heap.size W w→Calls Tryz.prog 85 #[.pointer (some ⟨b,0,none⟩),.agg #[.int .i64 t1,.string t2]] w fun e w'=>e=.returned (.tuple #[.int .i64 (hldR ps t1 t2).1,.int .i64 (hldR ps t1 t2).2])∧Below w.heap.size w w'):=fun w hb=>hld_c (h.below hb) t1 t2 hsz
  generalize hldR ps t1 t2=H at *
  obtain ⟨h1,h2⟩:=H
  simp only at HH ⊢
  have HB:Hid (∀ w,Below W.heap.size W w→Calls Tryz.prog 86 #[.pointer (some ⟨b,0,none⟩),.int .i64 h1,.agg #[.bool y,.string c,.string n,.string ds]] w fun e w'=>e=.returned (idE (lbyR ps y n ds h1))∧Below w.heap.size w w'):=fun w hb=>lby_c (h.below hb) hi h1 y c n ds
  generalize lbyR ps y n ds h1=M at *
  obtain ⟨⟨m1,m2⟩,m3⟩:=M
  simp only [idE] at HB ⊢
  have HO:Hid (∀ w,Below W.heap.size W w→Calls Tryz.prog 88 #[.pointer (some ⟨b,0,none⟩),.int .i64 d,.agg #[.int .i64 m1,.int .i64 m2],.int .i64 h1] w fun e w'=>e=.returned (.tuple #[.bool (moP ps d m1 m2 h1).1,.int .i64 (moP ps d m1 m2 h1).2])∧Below w.heap.size w w'):=fun w hb=>(methodOpen_c (h.below hb) hi d m1 m2 h1).mono fun e w' zz=>⟨by rw [zz.1,moI_eq],zz.2⟩
  generalize moP ps d m1 m2 h1=O at *
  obtain ⟨o1,o2⟩:=O
  simp only at HO ⊢
  replace HS:Hid (∀ (w:World),Calls Tryz.prog 87 #[.bool o1,.int .i64 o2] w fun e w'=>e=.returned (.int .i64 (shuI o1 o2))∧w'=w):=HS.out o1 o2
  generalize shuI o1 o2=sh at *
  generalize rckI ps d=ck at *
  generalize rckE c.data.toList n.data.toList ds.data.toList=rc at *
  clear h hi hc hn hd hsz
  by_cases h0:ck=0
  · subst h0
    rw [if_pos rfl]
    by_cases h3:rc=0
    · subst h3
      rw [if_pos rfl]
      by_cases h4:t3=0
      · subst h4
        rw [if_pos rfl]
        by_cases h5:h2=0
        · subst h5
          rw [if_pos rfl]
          by_cases h6:m3=0
          · subst h6
            rw [if_pos rfl]
            by_cases h7:sh=0
            · subst h7
              rw [if_pos rfl]
              go_enter Tryz.func31,Tryz.ntmps31
              go_wp2_with (first
                | (go_at_call 82;refine (HC.out _ (by repeat (first|exact Below.refl _ _|refine Below.setCell ?_ (by simp;try omega) _|refine Below.alloc ?_ (by simp;try omega) _|refine Below.drew ?_))).mono ?_;rintro e w1 ⟨rfl,hb⟩;have rd:=kp4 (n:=W.heap.size) hb;(try clear rB r0 r1 r2 r3 rf rL rN);obtain ⟨rB,r0,r1,r2,r3,rf,rL,rN⟩:=rd;have zd:=kp2 (n:=W.heap.size+1) hb;(try clear zB z0 z1 zf zL zN);obtain ⟨zB,z0,z1,zf,zL,zN⟩:=zd;have B1:Hid (Below W.heap.size W w1):=bstep (by repeat (first|exact Below.refl _ _|refine Below.setCell ?_ (by simp;try omega) _|refine Below.alloc ?_ (by simp;try omega) _|refine Below.drew ?_)) hb;clear hb HC)
                | (go_at_call 83;refine (HR.out _).mono ?_;rintro e w2 ⟨rfl,hb⟩;have rd:=kp4 (n:=W.heap.size) hb;(try clear rB r0 r1 r2 r3 rf rL rN);obtain ⟨rB,r0,r1,r2,r3,rf,rL,rN⟩:=rd;have zd:=kp2 (n:=W.heap.size+1) hb;(try clear zB z0 z1 zf zL zN);obtain ⟨zB,z0,z1,zf,zL,zN⟩:=zd;have B2:Hid (Below W.heap.size W w2):=bstep B1.out hb;clear hb HR)
                | (go_at_call 84;refine (HK.out _ B2.out).mono ?_;rintro e w3 ⟨rfl,hb⟩;have rd:=kp4 (n:=W.heap.size) hb;(try clear rB r0 r1 r2 r3 rf rL rN);obtain ⟨rB,r0,r1,r2,r3,rf,rL,rN⟩:=rd;have zd:=kp2 (n:=W.heap.size+1) hb;(try clear zB z0 z1 zf zL zN);obtain ⟨zB,z0,z1,zf,zL,zN⟩:=zd;have B3:Hid (Below W.heap.size W w3):=bstep B2.out hb;clear hb HK)
                | (go_at_call 85;refine (HH.out _ (B3.out.alloc B3.out.size _)).mono ?_;rintro e w4 ⟨rfl,hb⟩;have rd:=kp4 (n:=W.heap.size) hb;(try clear rB r0 r1 r2 r3 rf rL rN);obtain ⟨rB,r0,r1,r2,r3,rf,rL,rN⟩:=rd;have zd:=kp2 (n:=W.heap.size+1) hb;(try clear zB z0 z1 zf zL zN);obtain ⟨zB,z0,z1,zf,zL,zN⟩:=zd;have B4:Hid (Below W.heap.size W w4):=bstep (B3.out.alloc B3.out.size _) hb;clear hb HH)
                | (go_at_call 86;refine (HB.out _ B4.out).mono ?_;rintro e w5 ⟨rfl,hb⟩;have zd:=kp2 (n:=W.heap.size+1) hb;(try clear zB z0 z1 zf zL zN);obtain ⟨zB,z0,z1,zf,zL,zN⟩:=zd;have B5:Hid (Below W.heap.size W w5):=bstep B4.out hb;clear hb HB)
                | (go_at_call 88;refine (HO.out _ (B5.out.alloc B5.out.size _)).mono ?_;rintro e w6 ⟨rfl,hb⟩;have hn6:¬ w5.heap.size=W.heap.size+1:=(by omega);have hm6:¬ W.heap.size+1=w5.heap.size:=(by omega);have zd:=kp2 (n:=W.heap.size+1) hb;(try clear zB z0 z1 zf zL zN);obtain ⟨zB,z0,z1,zf,zL,zN⟩:=zd;have gd:=kp2 (n:=w5.heap.size) hb;(try clear gB g0 g1 gf gL gN);obtain ⟨gB,g0,g1,gf,gL,gN⟩:=gd;have B6:Hid (Below W.heap.size W w6):=bstep (B5.out.alloc B5.out.size _) hb;clear hb HO)
                | (go_at_call 87;refine (HS.out _).mono ?_;rintro e w9 ⟨rfl,hw9⟩;rw [hw9];clear hw9 w9))
              exact bodyPost_ret (v:=idE ((m1,m2),0)) (by simp [results,Tryz.results31,go_sem,idE, *]) rfl ⟨rfl,(by repeat (first|exact B6.out|refine Below.setCell ?_ (by simp;try omega) _|refine Below.alloc ?_ (by have:=B6.out.size;simp;try omega) _|refine Below.drew ?_))⟩
            · rw [if_neg h7]
              go_enter Tryz.func31,Tryz.ntmps31
              go_wp2_with (first
                | (go_at_call 82;refine (HC.out _ (by repeat (first|exact Below.refl _ _|refine Below.setCell ?_ (by simp;try omega) _|refine Below.alloc ?_ (by simp;try omega) _|refine Below.drew ?_))).mono ?_;rintro e w1 ⟨rfl,hb⟩;have rd:=kp4 (n:=W.heap.size) hb;(try clear rB r0 r1 r2 r3 rf rL rN);obtain ⟨rB,r0,r1,r2,r3,rf,rL,rN⟩:=rd;have zd:=kp2 (n:=W.heap.size+1) hb;(try clear zB z0 z1 zf zL zN);obtain ⟨zB,z0,z1,zf,zL,zN⟩:=zd;have B1:Hid (Below W.heap.size W w1):=bstep (by repeat (first|exact Below.refl _ _|refine Below.setCell ?_ (by simp;try omega) _|refine Below.alloc ?_ (by simp;try omega) _|refine Below.drew ?_)) hb;clear hb HC)
                | (go_at_call 83;refine (HR.out _).mono ?_;rintro e w2 ⟨rfl,hb⟩;have rd:=kp4 (n:=W.heap.size) hb;(try clear rB r0 r1 r2 r3 rf rL rN);obtain ⟨rB,r0,r1,r2,r3,rf,rL,rN⟩:=rd;have zd:=kp2 (n:=W.heap.size+1) hb;(try clear zB z0 z1 zf zL zN);obtain ⟨zB,z0,z1,zf,zL,zN⟩:=zd;have B2:Hid (Below W.heap.size W w2):=bstep B1.out hb;clear hb HR)
                | (go_at_call 84;refine (HK.out _ B2.out).mono ?_;rintro e w3 ⟨rfl,hb⟩;have rd:=kp4 (n:=W.heap.size) hb;(try clear rB r0 r1 r2 r3 rf rL rN);obtain ⟨rB,r0,r1,r2,r3,rf,rL,rN⟩:=rd;have zd:=kp2 (n:=W.heap.size+1) hb;(try clear zB z0 z1 zf zL zN);obtain ⟨zB,z0,z1,zf,zL,zN⟩:=zd;have B3:Hid (Below W.heap.size W w3):=bstep B2.out hb;clear hb HK)
                | (go_at_call 85;refine (HH.out _ (B3.out.alloc B3.out.size _)).mono ?_;rintro e w4 ⟨rfl,hb⟩;have rd:=kp4 (n:=W.heap.size) hb;(try clear rB r0 r1 r2 r3 rf rL rN);obtain ⟨rB,r0,r1,r2,r3,rf,rL,rN⟩:=rd;have zd:=kp2 (n:=W.heap.size+1) hb;(try clear zB z0 z1 zf zL zN);obtain ⟨zB,z0,z1,zf,zL,zN⟩:=zd;have B4:Hid (Below W.heap.size W w4):=bstep (B3.out.alloc B3.out.size _) hb;clear hb HH)
                | (go_at_call 86;refine (HB.out _ B4.out).mono ?_;rintro e w5 ⟨rfl,hb⟩;have zd:=kp2 (n:=W.heap.size+1) hb;(try clear zB z0 z1 zf zL zN);obtain ⟨zB,z0,z1,zf,zL,zN⟩:=zd;have B5:Hid (Below W.heap.size W w5):=bstep B4.out hb;clear hb HB)
                | (go_at_call 88;refine (HO.out _ (B5.out.alloc B5.out.size _)).mono ?_;rintro e w6 ⟨rfl,hb⟩;have hn6:¬ w5.heap.size=W.heap.size+1:=(by omega);have hm6:¬ W.heap.size+1=w5.heap.size:=(by omega);have zd:=kp2 (n:=W.heap.size+1) hb;(try clear zB z0 z1 zf zL zN);obtain ⟨zB,z0,z1,zf,zL,zN⟩:=zd;have gd:=kp2 (n:=w5.heap.size) hb;(try clear gB g0 g1 gf gL gN);obtain ⟨gB,g0,g1,gf,gL,gN⟩:=gd;have B6:Hid (Below W.heap.size W w6):=bstep (B5.out.alloc B5.out.size _) hb;clear hb HO)
                | (go_at_call 87;refine (HS.out _).mono ?_;rintro e w9 ⟨rfl,hw9⟩;rw [hw9];clear hw9 w9))
              exact bodyPost_ret (v:=idE ((0,0),sh)) (by simp [results,Tryz.results31,go_sem,idE, *]) rfl ⟨rfl,(by repeat (first|exact B6.out|refine Below.setCell ?_ (by simp;try omega) _|refine Below.alloc ?_ (by have:=B6.out.size;simp;try omega) _|refine Below.drew ?_))⟩
          · rw [if_neg h6]
            go_enter Tryz.func31,Tryz.ntmps31
            go_wp2_with (first
              | (go_at_call 82;refine (HC.out _ (by repeat (first|exact Below.refl _ _|refine Below.setCell ?_ (by simp;try omega) _|refine Below.alloc ?_ (by simp;try omega) _|refine Below.drew ?_))).mono ?_;rintro e w1 ⟨rfl,hb⟩;have rd:=kp4 (n:=W.heap.size) hb;(try clear rB r0 r1 r2 r3 rf rL rN);obtain ⟨rB,r0,r1,r2,r3,rf,rL,rN⟩:=rd;have zd:=kp2 (n:=W.heap.size+1) hb;(try clear zB z0 z1 zf zL zN);obtain ⟨zB,z0,z1,zf,zL,zN⟩:=zd;have B1:Hid (Below W.heap.size W w1):=bstep (by repeat (first|exact Below.refl _ _|refine Below.setCell ?_ (by simp;try omega) _|refine Below.alloc ?_ (by simp;try omega) _|refine Below.drew ?_)) hb;clear hb HC)
              | (go_at_call 83;refine (HR.out _).mono ?_;rintro e w2 ⟨rfl,hb⟩;have rd:=kp4 (n:=W.heap.size) hb;(try clear rB r0 r1 r2 r3 rf rL rN);obtain ⟨rB,r0,r1,r2,r3,rf,rL,rN⟩:=rd;have zd:=kp2 (n:=W.heap.size+1) hb;(try clear zB z0 z1 zf zL zN);obtain ⟨zB,z0,z1,zf,zL,zN⟩:=zd;have B2:Hid (Below W.heap.size W w2):=bstep B1.out hb;clear hb HR)
              | (go_at_call 84;refine (HK.out _ B2.out).mono ?_;rintro e w3 ⟨rfl,hb⟩;have rd:=kp4 (n:=W.heap.size) hb;(try clear rB r0 r1 r2 r3 rf rL rN);obtain ⟨rB,r0,r1,r2,r3,rf,rL,rN⟩:=rd;have zd:=kp2 (n:=W.heap.size+1) hb;(try clear zB z0 z1 zf zL zN);obtain ⟨zB,z0,z1,zf,zL,zN⟩:=zd;have B3:Hid (Below W.heap.size W w3):=bstep B2.out hb;clear hb HK)
              | (go_at_call 85;refine (HH.out _ (B3.out.alloc B3.out.size _)).mono ?_;rintro e w4 ⟨rfl,hb⟩;have rd:=kp4 (n:=W.heap.size) hb;(try clear rB r0 r1 r2 r3 rf rL rN);obtain ⟨rB,r0,r1,r2,r3,rf,rL,rN⟩:=rd;have zd:=kp2 (n:=W.heap.size+1) hb;(try clear zB z0 z1 zf zL zN);obtain ⟨zB,z0,z1,zf,zL,zN⟩:=zd;have B4:Hid (Below W.heap.size W w4):=bstep (B3.out.alloc B3.out.size _) hb;clear hb HH)
              | (go_at_call 86;refine (HB.out _ B4.out).mono ?_;rintro e w5 ⟨rfl,hb⟩;have zd:=kp2 (n:=W.heap.size+1) hb;(try clear zB z0 z1 zf zL zN);obtain ⟨zB,z0,z1,zf,zL,zN⟩:=zd;have B5:Hid (Below W.heap.size W w5):=bstep B4.out hb;clear hb HB))
            exact bodyPost_ret (v:=idE ((0,0),m3)) (by simp [results,Tryz.results31,go_sem,idE, *]) rfl ⟨rfl,(by repeat (first|exact B5.out|refine Below.setCell ?_ (by simp;try omega) _|refine Below.alloc ?_ (by have:=B5.out.size;simp;try omega) _|refine Below.drew ?_))⟩
        · rw [if_neg h5]
          go_enter Tryz.func31,Tryz.ntmps31
          go_wp2_with (first
            | (go_at_call 82;refine (HC.out _ (by repeat (first|exact Below.refl _ _|refine Below.setCell ?_ (by simp;try omega) _|refine Below.alloc ?_ (by simp;try omega) _|refine Below.drew ?_))).mono ?_;rintro e w1 ⟨rfl,hb⟩;have rd:=kp4 (n:=W.heap.size) hb;(try clear rB r0 r1 r2 r3 rf rL rN);obtain ⟨rB,r0,r1,r2,r3,rf,rL,rN⟩:=rd;have zd:=kp2 (n:=W.heap.size+1) hb;(try clear zB z0 z1 zf zL zN);obtain ⟨zB,z0,z1,zf,zL,zN⟩:=zd;have B1:Hid (Below W.heap.size W w1):=bstep (by repeat (first|exact Below.refl _ _|refine Below.setCell ?_ (by simp;try omega) _|refine Below.alloc ?_ (by simp;try omega) _|refine Below.drew ?_)) hb;clear hb HC)
            | (go_at_call 83;refine (HR.out _).mono ?_;rintro e w2 ⟨rfl,hb⟩;have rd:=kp4 (n:=W.heap.size) hb;(try clear rB r0 r1 r2 r3 rf rL rN);obtain ⟨rB,r0,r1,r2,r3,rf,rL,rN⟩:=rd;have zd:=kp2 (n:=W.heap.size+1) hb;(try clear zB z0 z1 zf zL zN);obtain ⟨zB,z0,z1,zf,zL,zN⟩:=zd;have B2:Hid (Below W.heap.size W w2):=bstep B1.out hb;clear hb HR)
            | (go_at_call 84;refine (HK.out _ B2.out).mono ?_;rintro e w3 ⟨rfl,hb⟩;have rd:=kp4 (n:=W.heap.size) hb;(try clear rB r0 r1 r2 r3 rf rL rN);obtain ⟨rB,r0,r1,r2,r3,rf,rL,rN⟩:=rd;have zd:=kp2 (n:=W.heap.size+1) hb;(try clear zB z0 z1 zf zL zN);obtain ⟨zB,z0,z1,zf,zL,zN⟩:=zd;have B3:Hid (Below W.heap.size W w3):=bstep B2.out hb;clear hb HK)
            | (go_at_call 85;refine (HH.out _ (B3.out.alloc B3.out.size _)).mono ?_;rintro e w4 ⟨rfl,hb⟩;have rd:=kp4 (n:=W.heap.size) hb;(try clear rB r0 r1 r2 r3 rf rL rN);obtain ⟨rB,r0,r1,r2,r3,rf,rL,rN⟩:=rd;have zd:=kp2 (n:=W.heap.size+1) hb;(try clear zB z0 z1 zf zL zN);obtain ⟨zB,z0,z1,zf,zL,zN⟩:=zd;have B4:Hid (Below W.heap.size W w4):=bstep (B3.out.alloc B3.out.size _) hb;clear hb HH))
          exact bodyPost_ret (v:=idE ((0,0),h2)) (by simp [results,Tryz.results31,go_sem,idE, *]) rfl ⟨rfl,(by repeat (first|exact B4.out|refine Below.setCell ?_ (by simp;try omega) _|refine Below.alloc ?_ (by have:=B4.out.size;simp;try omega) _|refine Below.drew ?_))⟩
      · rw [if_neg h4]
        go_enter Tryz.func31,Tryz.ntmps31
        go_wp2_with (first
          | (go_at_call 82;refine (HC.out _ (by repeat (first|exact Below.refl _ _|refine Below.setCell ?_ (by simp;try omega) _|refine Below.alloc ?_ (by simp;try omega) _|refine Below.drew ?_))).mono ?_;rintro e w1 ⟨rfl,hb⟩;have rd:=kp4 (n:=W.heap.size) hb;(try clear rB r0 r1 r2 r3 rf rL rN);obtain ⟨rB,r0,r1,r2,r3,rf,rL,rN⟩:=rd;have zd:=kp2 (n:=W.heap.size+1) hb;(try clear zB z0 z1 zf zL zN);obtain ⟨zB,z0,z1,zf,zL,zN⟩:=zd;have B1:Hid (Below W.heap.size W w1):=bstep (by repeat (first|exact Below.refl _ _|refine Below.setCell ?_ (by simp;try omega) _|refine Below.alloc ?_ (by simp;try omega) _|refine Below.drew ?_)) hb;clear hb HC)
          | (go_at_call 83;refine (HR.out _).mono ?_;rintro e w2 ⟨rfl,hb⟩;have rd:=kp4 (n:=W.heap.size) hb;(try clear rB r0 r1 r2 r3 rf rL rN);obtain ⟨rB,r0,r1,r2,r3,rf,rL,rN⟩:=rd;have zd:=kp2 (n:=W.heap.size+1) hb;(try clear zB z0 z1 zf zL zN);obtain ⟨zB,z0,z1,zf,zL,zN⟩:=zd;have B2:Hid (Below W.heap.size W w2):=bstep B1.out hb;clear hb HR)
          | (go_at_call 84;refine (HK.out _ B2.out).mono ?_;rintro e w3 ⟨rfl,hb⟩;have rd:=kp4 (n:=W.heap.size) hb;(try clear rB r0 r1 r2 r3 rf rL rN);obtain ⟨rB,r0,r1,r2,r3,rf,rL,rN⟩:=rd;have zd:=kp2 (n:=W.heap.size+1) hb;(try clear zB z0 z1 zf zL zN);obtain ⟨zB,z0,z1,zf,zL,zN⟩:=zd;have B3:Hid (Below W.heap.size W w3):=bstep B2.out hb;clear hb HK))
        exact bodyPost_ret (v:=idE ((0,0),t3)) (by simp [results,Tryz.results31,go_sem,idE, *]) rfl ⟨rfl,(by repeat (first|exact B3.out|refine Below.setCell ?_ (by simp;try omega) _|refine Below.alloc ?_ (by have:=B3.out.size;simp;try omega) _|refine Below.drew ?_))⟩
    · rw [if_neg h3]
      go_enter Tryz.func31,Tryz.ntmps31
      go_wp2_with (first
        | (go_at_call 82;refine (HC.out _ (by repeat (first|exact Below.refl _ _|refine Below.setCell ?_ (by simp;try omega) _|refine Below.alloc ?_ (by simp;try omega) _|refine Below.drew ?_))).mono ?_;rintro e w1 ⟨rfl,hb⟩;have rd:=kp4 (n:=W.heap.size) hb;(try clear rB r0 r1 r2 r3 rf rL rN);obtain ⟨rB,r0,r1,r2,r3,rf,rL,rN⟩:=rd;have zd:=kp2 (n:=W.heap.size+1) hb;(try clear zB z0 z1 zf zL zN);obtain ⟨zB,z0,z1,zf,zL,zN⟩:=zd;have B1:Hid (Below W.heap.size W w1):=bstep (by repeat (first|exact Below.refl _ _|refine Below.setCell ?_ (by simp;try omega) _|refine Below.alloc ?_ (by simp;try omega) _|refine Below.drew ?_)) hb;clear hb HC)
        | (go_at_call 83;refine (HR.out _).mono ?_;rintro e w2 ⟨rfl,hb⟩;have rd:=kp4 (n:=W.heap.size) hb;(try clear rB r0 r1 r2 r3 rf rL rN);obtain ⟨rB,r0,r1,r2,r3,rf,rL,rN⟩:=rd;have zd:=kp2 (n:=W.heap.size+1) hb;(try clear zB z0 z1 zf zL zN);obtain ⟨zB,z0,z1,zf,zL,zN⟩:=zd;have B2:Hid (Below W.heap.size W w2):=bstep B1.out hb;clear hb HR))
      exact bodyPost_ret (v:=idE ((0,0),1)) (by simp [results,Tryz.results31,go_sem,idE, *]) rfl ⟨rfl,(by repeat (first|exact B2.out|refine Below.setCell ?_ (by simp;try omega) _|refine Below.alloc ?_ (by have:=B2.out.size;simp;try omega) _|refine Below.drew ?_))⟩
  · rw [if_neg h0]
    go_enter Tryz.func31,Tryz.ntmps31
    go_wp2_with (first
      | (go_at_call 82;refine (HC.out _ (by repeat (first|exact Below.refl _ _|refine Below.setCell ?_ (by simp;try omega) _|refine Below.alloc ?_ (by simp;try omega) _|refine Below.drew ?_))).mono ?_;rintro e w1 ⟨rfl,hb⟩;have rd:=kp4 (n:=W.heap.size) hb;(try clear rB r0 r1 r2 r3 rf rL rN);obtain ⟨rB,r0,r1,r2,r3,rf,rL,rN⟩:=rd;have zd:=kp2 (n:=W.heap.size+1) hb;(try clear zB z0 z1 zf zL zN);obtain ⟨zB,z0,z1,zf,zL,zN⟩:=zd;have B1:Hid (Below W.heap.size W w1):=bstep (by repeat (first|exact Below.refl _ _|refine Below.setCell ?_ (by simp;try omega) _|refine Below.alloc ?_ (by simp;try omega) _|refine Below.drew ?_)) hb;clear hb HC))
    exact bodyPost_ret (v:=idE ((0,0),ck)) (by simp [results,Tryz.results31,go_sem,idE, *]) rfl ⟨rfl,(by repeat (first|exact B1.out|refine Below.setCell ?_ (by simp;try omega) _|refine Below.alloc ?_ (by have:=B1.out.size;simp;try omega) _|refine Below.drew ?_))⟩
theorem spC_eq {cs:List Cls} {ps:List Plc} (ht:TwW cs ps) (a b:Int):spC cs a b=spI ps a b:=by
  unfold spC spI
  rcases ht.tw.clsI a with ⟨h1,h2⟩|⟨k,c,q,rfl,hc,hq,hcq,h1,h2⟩
  · rw [h1,h2]
  · rw [h1,h2]
    rcases ht.tw.clsI b with ⟨g1,g2⟩|⟨k',c',q',rfl,hc',hq',hcq',g1,g2⟩
    · rw [g1,g2]
    · rw [g1,g2]
      show togB c c'=samePk q q'
      unfold togB samePk
      rw [hcq,hcq'];rfl
theorem ifcC_eq {cs:List Cls} {ps:List Plc} (ht:TwW cs ps) (a:Int):ifcC cs a=ifcI ps a:=by
  unfold ifcC ifcI
  rcases ht.tw.clsI a with ⟨h1,h2⟩|⟨k,c,q,rfl,hc,hq,hcq,h1,h2⟩
  · rw [h1,h2]
  · rw [h1,h2]
    simp only
    rw [hcq];rfl
theorem rOpen3_c (f:Int) (W:World):Calls Tryz.prog 145 #[.int .i64 f] W fun e w'=>e=.returned (.int .i64 (openI f))∧w'=W:=by
  have H1:Hid (∀ (z:Int) (w:World),z=1→Calls Tryz.prog 101 #[.int .i64 f,.int .i64 z] w fun e w'=>e=.returned (.bool (hasI f 1))∧w'=w):=fun z w hz=>by rw [hz];exact has_any f 1 w
  have H4:Hid (∀ (z:Int) (w:World),z=4→Calls Tryz.prog 101 #[.int .i64 f,.int .i64 z] w fun e w'=>e=.returned (.bool (hasI f 4))∧w'=w):=fun z w hz=>by rw [hz];exact has_any f 4 w
  have H2:Hid (∀ (z:Int) (w:World),z=2→Calls Tryz.prog 101 #[.int .i64 f,.int .i64 z] w fun e w'=>e=.returned (.bool (hasI f 2))∧w'=w):=fun z w hz=>by rw [hz];exact has_any f 2 w
  unfold openI
  generalize hasI f 1=a1 at *
  generalize hasI f 4=a4 at *
  generalize hasI f 2=a2 at *
  cases a1 <;> cases a4 <;> cases a2
  all_goals
    go_enter Tryz.func145,Tryz.ntmps145
    go_wp2_with (first
      | (go_at_call 101;refine (H1.out _ _ (by rfl)).mono ?_;rintro e w9 ⟨rfl,hw9⟩;rw [hw9];clear hw9 w9)
      | (go_at_call 101;refine (H4.out _ _ (by rfl)).mono ?_;rintro e w9 ⟨rfl,hw9⟩;rw [hw9];clear hw9 w9)
      | (go_at_call 101;refine (H2.out _ _ (by rfl)).mono ?_;rintro e w9 ⟨rfl,hw9⟩;rw [hw9];clear hw9 w9))
    exact bodyPost_ret (results_tmp rfl _ _ _) rfl ⟨rfl,rfl⟩
set_option maxHeartbeats 4000000 in
theorem rMO_yes {b:Nat} {cs:List Cls} {ps:List Plc} {W:World} (h:RAt b cs W) (ht:TwW cs ps) (hJ:WJ ps) (k:Nat) (d i n:Int) (p q:Plc) (x:HM) (hd:plcI ps d=some p) (hq:plcI ps (k:Int)=some q) (hn:(plcI ps n).isSome=true) (hm:methI ps (k:Int) i=some x):Calls Tryz.prog 94 #[.pointer (some ⟨b,0,none⟩),.int .i64 d,.agg #[.int .i64 (k:Int),.int .i64 i],.int .i64 n] W fun e w'=>e=.returned (.tuple #[.bool (mOpen ps d k n x.fl (samePk q p)),.int .i64 0])∧Below W.heap.size W w':=by
  have HMe:Hid (∀ w,Below W.heap.size W w→Calls Tryz.prog 179 #[.pointer (some ⟨b,0,none⟩),.agg #[.int .i64 (k:Int),.int .i64 i]] w fun e w'=>(∃ xn xd xl xs xa xk xc,e=.returned (.tuple #[.agg #[.string xn,.string xd,.int .i64 x.fl,.int .i64 xl,.int .i64 xs,.slice xa xk xc],.int .i64 0]))∧Below w.heap.size w w'):=fun w hb=>by
    have:=rMethod_c (h.below hb) ht (k:Int) i
    rw [hm] at this
    refine this.mono fun e w' zz=>⟨?_,zz.2⟩
    obtain ⟨a,m,c,rfl⟩:=zz.1
    exact ⟨_,_,_,_,a,m,c,rfl⟩
  have HD:Hid (∀ (z:Int) w,Below W.heap.size W w→z=d→Calls Tryz.prog 76 #[.pointer (some ⟨b,0,none⟩),.int .i64 z] w fun e w'=>e=.returned (.bool true)∧w'=w):=fun z w hb hz=>by rw [hz];exact (rIn_t (h.below hb) ht d).mono fun e w' zz=>⟨by rw [zz.1,hd];rfl,zz.2⟩
  have HN:Hid (∀ (z:Int) w,Below W.heap.size W w→z=n→Calls Tryz.prog 76 #[.pointer (some ⟨b,0,none⟩),.int .i64 z] w fun e w'=>e=.returned (.bool true)∧w'=w):=fun z w hb hz=>by rw [hz];exact (rIn_t (h.below hb) ht n).mono fun e w' zz=>⟨by rw [zz.1,hn],zz.2⟩
  have HS:Hid (∀ w,Below W.heap.size W w→Calls Tryz.prog 146 #[.pointer (some ⟨b,0,none⟩),.int .i64 (k:Int),.int .i64 d] w fun e w'=>e=.returned (.bool (samePk q p))∧Below w.heap.size w w'):=fun w hb=>(rSame_c (h.below hb) (ht.tw.sz ht.wi) k d).mono fun e w' zz=>⟨by rw [zz.1,spC_eq ht,spI,hq,hd],zz.2⟩
  have HO:Hid (∀ w:World,Calls Tryz.prog 145 #[.int .i64 x.fl] w fun e w'=>e=.returned (.int .i64 (openI x.fl))∧w'=w):=rOpen3_c x.fl
  have HI:Hid (∀ w,Below W.heap.size W w→Calls Tryz.prog 99 #[.pointer (some ⟨b,0,none⟩),.int .i64 (k:Int)] w fun e w'=>e=.returned (.bool (ifcI ps k))∧w'=w):=fun w hb=>(rIsIface_c (h.below hb) k).mono fun e w' zz=>⟨by rw [zz.1,ifcC_eq ht],zz.2⟩
  have H8:Hid (∀ w:World,Calls Tryz.prog 101 #[.int .i64 x.fl,.int .i64 8] w fun e w'=>e=.returned (.bool (hasI x.fl 8))∧w'=w):=has_any x.fl 8
  have E1:Hid (∀ (u v:Int) w,Below W.heap.size W w→u=d→v=(k:Int)→Calls Tryz.prog 116 #[.pointer (some ⟨b,0,none⟩),.int .i64 u,.int .i64 v] w fun e w'=>e=.returned (.bool (extI ps d k))∧Below w.heap.size w w'):=fun u v w hb hu hv=>by rw [hu,hv];exact rExtends_c (h.below hb) ht hJ d k
  have E2:Hid (∀ (u v:Int) w,Below W.heap.size W w→u=n→v=d→Calls Tryz.prog 116 #[.pointer (some ⟨b,0,none⟩),.int .i64 u,.int .i64 v] w fun e w'=>e=.returned (.bool (extI ps n d))∧Below w.heap.size w w'):=fun u v w hb hu hv=>by rw [hu,hv];exact rExtends_c (h.below hb) ht hJ n d
  have E3:Hid (∀ (u v:Int) w,Below W.heap.size W w→u=d→v=n→Calls Tryz.prog 116 #[.pointer (some ⟨b,0,none⟩),.int .i64 u,.int .i64 v] w fun e w'=>e=.returned (.bool (extI ps d n))∧Below w.heap.size w w'):=fun u v w hb hu hv=>by rw [hu,hv];exact rExtends_c (h.below hb) ht hJ d n
  have HR:Hid (mOpen ps d k n x.fl (samePk q p)=(if openI x.fl=1 then true else if openI x.fl=2 then (k:Int) == d else if samePk q p then true else if openI x.fl=4 then extI ps d k&&!ifcI ps k&&(hasI x.fl 8||extI ps n d||extI ps d n) else false)):=rfl
  generalize mOpen ps d k n x.fl (samePk q p)=R at *
  generalize samePk q p=sp at *
  have hop:=open_cases x.fl
  generalize openI x.fl=op at *
  generalize hasI x.fl 8=h8 at *
  generalize x.fl=fl at *
  generalize extI ps d (k:Int)=e1 at *
  generalize ifcI ps (k:Int)=i1 at *
  generalize extI ps n d=e2 at *
  generalize extI ps d n=e3 at *
  clear h ht hJ hd hq hn hm
  rcases hop with rfl|rfl|rfl|rfl
  · have eR:R=true:=by rw [HR.out];rfl
    subst eR
    clear HR HI H8 E1 E2 E3
    go_enter Tryz.func94,Tryz.ntmps94
    go_wp2_with (first
      | (go_at_call 179;refine (HMe.out _ (by repeat (first|exact Below.refl _ _|refine Below.setCell ?_ (by simp;try omega) _|refine Below.alloc ?_ (by simp;try omega) _|refine Below.drew ?_))).mono ?_;rintro e w1 ⟨⟨xn,xd,xl,xs,xa,xk,xc,rfl⟩,hb⟩;have md:=kp2 (n:=W.heap.size) hb;(try clear mB m0 m1 mf mL mN);obtain ⟨mB,m0,m1,mf,mL,mN⟩:=md;have B1:Hid (Below W.heap.size W w1):=bstep (by repeat (first|exact Below.refl _ _|refine Below.setCell ?_ (by simp;try omega) _|refine Below.alloc ?_ (by simp;try omega) _|refine Below.drew ?_)) hb;clear hb HMe)
      | (go_at_call 76;refine (HD.out _ _ (B1.out.alloc B1.out.size _) (by rfl)).mono ?_;rintro e w9 ⟨rfl,hw9⟩;rw [hw9];clear hw9 w9 HD)
      | (go_at_call 76;refine (HN.out _ _ (B1.out.alloc B1.out.size _) (by rfl)).mono ?_;rintro e w9 ⟨rfl,hw9⟩;rw [hw9];clear hw9 w9 HN)
      | (go_at_call 146;refine (HS.out _ (B1.out.alloc B1.out.size _)).mono ?_;rintro e w2 ⟨rfl,hb⟩;have xxd:=kp6 (n:=w1.heap.size) hb;(try clear xxB xx0 xx1 xx2 xx3 xx4 xx5 xxf xxL xxN);obtain ⟨xxB,xx0,xx1,xx2,xx3,xx4,xx5,xxf,xxL,xxN⟩:=xxd;have B2:Hid (Below W.heap.size W w2):=bstep (B1.out.alloc B1.out.size _) hb;clear hb HS)
      | (go_at_call 145;refine (HO.out _).mono ?_;rintro e w9 ⟨rfl,hw9⟩;rw [hw9];clear hw9 w9 HO))
    exact bodyPost_ret (results_tmp2 rfl _ _ _) rfl ⟨rfl,B2.out⟩
  · have eR:R=((k:Int) == d):=by rw [HR.out];rfl
    subst eR
    clear HR HI H8 E1 E2 E3
    go_enter Tryz.func94,Tryz.ntmps94
    go_wp2_with (first
      | (go_at_call 179;refine (HMe.out _ (by repeat (first|exact Below.refl _ _|refine Below.setCell ?_ (by simp;try omega) _|refine Below.alloc ?_ (by simp;try omega) _|refine Below.drew ?_))).mono ?_;rintro e w1 ⟨⟨xn,xd,xl,xs,xa,xk,xc,rfl⟩,hb⟩;have md:=kp2 (n:=W.heap.size) hb;(try clear mB m0 m1 mf mL mN);obtain ⟨mB,m0,m1,mf,mL,mN⟩:=md;have B1:Hid (Below W.heap.size W w1):=bstep (by repeat (first|exact Below.refl _ _|refine Below.setCell ?_ (by simp;try omega) _|refine Below.alloc ?_ (by simp;try omega) _|refine Below.drew ?_)) hb;clear hb HMe)
      | (go_at_call 76;refine (HD.out _ _ (B1.out.alloc B1.out.size _) (by rfl)).mono ?_;rintro e w9 ⟨rfl,hw9⟩;rw [hw9];clear hw9 w9 HD)
      | (go_at_call 76;refine (HN.out _ _ (B1.out.alloc B1.out.size _) (by rfl)).mono ?_;rintro e w9 ⟨rfl,hw9⟩;rw [hw9];clear hw9 w9 HN)
      | (go_at_call 146;refine (HS.out _ (B1.out.alloc B1.out.size _)).mono ?_;rintro e w2 ⟨rfl,hb⟩;have xxd:=kp6 (n:=w1.heap.size) hb;(try clear xxB xx0 xx1 xx2 xx3 xx4 xx5 xxf xxL xxN);obtain ⟨xxB,xx0,xx1,xx2,xx3,xx4,xx5,xxf,xxL,xxN⟩:=xxd;have B2:Hid (Below W.heap.size W w2):=bstep (B1.out.alloc B1.out.size _) hb;clear hb HS)
      | (go_at_call 145;refine (HO.out _).mono ?_;rintro e w9 ⟨rfl,hw9⟩;rw [hw9];clear hw9 w9 HO))
    all_goals go_ret2
    all_goals exact ⟨by simp,B2.out⟩
  · cases sp with
    | true =>
      have eR:R=true:=by rw [HR.out];rfl
      subst eR
      clear HR HI H8 E1 E2 E3
      go_enter Tryz.func94,Tryz.ntmps94
      go_wp2_with (first
        | (go_at_call 179;refine (HMe.out _ (by repeat (first|exact Below.refl _ _|refine Below.setCell ?_ (by simp;try omega) _|refine Below.alloc ?_ (by simp;try omega) _|refine Below.drew ?_))).mono ?_;rintro e w1 ⟨⟨xn,xd,xl,xs,xa,xk,xc,rfl⟩,hb⟩;have md:=kp2 (n:=W.heap.size) hb;(try clear mB m0 m1 mf mL mN);obtain ⟨mB,m0,m1,mf,mL,mN⟩:=md;have B1:Hid (Below W.heap.size W w1):=bstep (by repeat (first|exact Below.refl _ _|refine Below.setCell ?_ (by simp;try omega) _|refine Below.alloc ?_ (by simp;try omega) _|refine Below.drew ?_)) hb;clear hb HMe)
        | (go_at_call 76;refine (HD.out _ _ (B1.out.alloc B1.out.size _) (by rfl)).mono ?_;rintro e w9 ⟨rfl,hw9⟩;rw [hw9];clear hw9 w9 HD)
        | (go_at_call 76;refine (HN.out _ _ (B1.out.alloc B1.out.size _) (by rfl)).mono ?_;rintro e w9 ⟨rfl,hw9⟩;rw [hw9];clear hw9 w9 HN)
        | (go_at_call 146;refine (HS.out _ (B1.out.alloc B1.out.size _)).mono ?_;rintro e w2 ⟨rfl,hb⟩;have xxd:=kp6 (n:=w1.heap.size) hb;(try clear xxB xx0 xx1 xx2 xx3 xx4 xx5 xxf xxL xxN);obtain ⟨xxB,xx0,xx1,xx2,xx3,xx4,xx5,xxf,xxL,xxN⟩:=xxd;have B2:Hid (Below W.heap.size W w2):=bstep (B1.out.alloc B1.out.size _) hb;clear hb HS)
        | (go_at_call 145;refine (HO.out _).mono ?_;rintro e w9 ⟨rfl,hw9⟩;rw [hw9];clear hw9 w9 HO))
      exact bodyPost_ret (results_tmp2 rfl _ _ _) rfl ⟨rfl,B2.out⟩
    | false =>
      have HR2:Hid (R=(e1&&!i1&&(h8||e2||e3))):=by rw [Hid,HR.out];rfl
      clear HR
      cases i1
      all_goals cases e1
      all_goals cases h8
      all_goals cases e2
      all_goals
        have eR:=HR2.out
        simp only [Bool.not_true,Bool.not_false,Bool.and_true,Bool.and_false,Bool.false_and,Bool.true_and,Bool.true_or,Bool.or_true,Bool.false_or,Bool.or_false,Bool.or_self,Bool.and_self] at eR
        subst eR
        clear HR2
        go_enter Tryz.func94,Tryz.ntmps94
        go_wp2_with (first
          | (go_at_call 179;refine (HMe.out _ (by repeat (first|exact Below.refl _ _|refine Below.setCell ?_ (by simp;try omega) _|refine Below.alloc ?_ (by simp;try omega) _|refine Below.drew ?_))).mono ?_;rintro e w1 ⟨⟨xn,xd,xl,xs,xa,xk,xc,rfl⟩,hb⟩;have md:=kp2 (n:=W.heap.size) hb;(try clear mB m0 m1 mf mL mN);obtain ⟨mB,m0,m1,mf,mL,mN⟩:=md;have B1:Hid (Below W.heap.size W w1):=bstep (by repeat (first|exact Below.refl _ _|refine Below.setCell ?_ (by simp;try omega) _|refine Below.alloc ?_ (by simp;try omega) _|refine Below.drew ?_)) hb;clear hb HMe)
          | (go_at_call 76;refine (HD.out _ _ (B1.out.alloc B1.out.size _) (by rfl)).mono ?_;rintro e w9 ⟨rfl,hw9⟩;rw [hw9];clear hw9 w9 HD)
          | (go_at_call 76;refine (HN.out _ _ (B1.out.alloc B1.out.size _) (by rfl)).mono ?_;rintro e w9 ⟨rfl,hw9⟩;rw [hw9];clear hw9 w9 HN)
          | (go_at_call 146;refine (HS.out _ (B1.out.alloc B1.out.size _)).mono ?_;rintro e w2 ⟨rfl,hb⟩;have xxd:=kp6 (n:=w1.heap.size) hb;(try clear xxB xx0 xx1 xx2 xx3 xx4 xx5 xxf xxL xxN);obtain ⟨xxB,xx0,xx1,xx2,xx3,xx4,xx5,xxf,xxL,xxN⟩:=xxd;have B2:Hid (Below W.heap.size W w2):=bstep (B1.out.alloc B1.out.size _) hb;clear hb HS)
          | (go_at_call 145;refine (HO.out _).mono ?_;rintro e w9 ⟨rfl,hw9⟩;rw [hw9];clear hw9 w9 HO)
          | (go_at_call 99;refine (HI.out _ B2.out).mono ?_;rintro e w9 ⟨rfl,hw9⟩;rw [hw9];clear hw9 w9 HI)
          | (go_at_call 116;refine (E1.out _ _ _ B2.out (by rfl) (by rfl)).mono ?_;rintro e w3 ⟨rfl,hb⟩;have xxd:=kp6 (n:=w1.heap.size) hb;(try clear xxB xx0 xx1 xx2 xx3 xx4 xx5 xxf xxL xxN);obtain ⟨xxB,xx0,xx1,xx2,xx3,xx4,xx5,xxf,xxL,xxN⟩:=xxd;have B3:Hid (Below W.heap.size W w3):=bstep B2.out hb;clear hb E1)
          | (go_at_call 101;refine (H8.out _).mono ?_;rintro e w9 ⟨rfl,hw9⟩;rw [hw9];clear hw9 w9 H8)
          | (go_at_call 116;refine (E2.out _ _ _ B3.out (by rfl) (by rfl)).mono ?_;rintro e w4 ⟨rfl,hb⟩;have B4:Hid (Below W.heap.size W w4):=bstep B3.out hb;clear hb E2)
          | (go_at_call 116;refine (E3.out _ _ _ B4.out (by rfl) (by rfl)).mono ?_;rintro e w5 ⟨rfl,hb⟩;have B5:Hid (Below W.heap.size W w5):=bstep B4.out hb;clear hb E3))
        all_goals first|exact bodyPost_ret (results_tmp2 rfl _ _ _) rfl ⟨rfl,B2.out⟩|exact bodyPost_ret (results_tmp2 rfl _ _ _) rfl ⟨rfl,B3.out⟩|exact bodyPost_ret (results_tmp2 rfl _ _ _) rfl ⟨rfl,B4.out⟩|exact bodyPost_ret (results_tmp2 rfl _ _ _) rfl ⟨rfl,B5.out⟩
  · have eR:R=sp:=by rw [HR.out];cases sp <;> rfl
    subst eR
    clear HR HI H8 E1 E2 E3
    go_enter Tryz.func94,Tryz.ntmps94
    go_wp2_with (first
      | (go_at_call 179;refine (HMe.out _ (by repeat (first|exact Below.refl _ _|refine Below.setCell ?_ (by simp;try omega) _|refine Below.alloc ?_ (by simp;try omega) _|refine Below.drew ?_))).mono ?_;rintro e w1 ⟨⟨xn,xd,xl,xs,xa,xk,xc,rfl⟩,hb⟩;have md:=kp2 (n:=W.heap.size) hb;(try clear mB m0 m1 mf mL mN);obtain ⟨mB,m0,m1,mf,mL,mN⟩:=md;have B1:Hid (Below W.heap.size W w1):=bstep (by repeat (first|exact Below.refl _ _|refine Below.setCell ?_ (by simp;try omega) _|refine Below.alloc ?_ (by simp;try omega) _|refine Below.drew ?_)) hb;clear hb HMe)
      | (go_at_call 76;refine (HD.out _ _ (B1.out.alloc B1.out.size _) (by rfl)).mono ?_;rintro e w9 ⟨rfl,hw9⟩;rw [hw9];clear hw9 w9 HD)
      | (go_at_call 76;refine (HN.out _ _ (B1.out.alloc B1.out.size _) (by rfl)).mono ?_;rintro e w9 ⟨rfl,hw9⟩;rw [hw9];clear hw9 w9 HN)
      | (go_at_call 146;refine (HS.out _ (B1.out.alloc B1.out.size _)).mono ?_;rintro e w2 ⟨rfl,hb⟩;have xxd:=kp6 (n:=w1.heap.size) hb;(try clear xxB xx0 xx1 xx2 xx3 xx4 xx5 xxf xxL xxN);obtain ⟨xxB,xx0,xx1,xx2,xx3,xx4,xx5,xxf,xxL,xxN⟩:=xxd;have B2:Hid (Below W.heap.size W w2):=bstep (B1.out.alloc B1.out.size _) hb;clear hb HS)
      | (go_at_call 145;refine (HO.out _).mono ?_;rintro e w9 ⟨rfl,hw9⟩;rw [hw9];clear hw9 w9 HO))
    exact bodyPost_ret (results_tmp2 rfl _ _ _) rfl ⟨rfl,B2.out⟩
set_option maxHeartbeats 1000000 in
theorem rMO_c {b:Nat} {cs:List Cls} {ps:List Plc} {W:World} (h:RAt b cs W) (ht:TwW cs ps) (hJ:WJ ps) (d c i n:Int):Calls Tryz.prog 94 #[.pointer (some ⟨b,0,none⟩),.int .i64 d,.agg #[.int .i64 c,.int .i64 i],.int .i64 n] W fun e w'=>e=.returned (.tuple #[.bool (moP ps d c i n).1,.int .i64 (moP ps d c i n).2])∧Below W.heap.size W w':=by
  have HD:Hid (∀ (z:Int) w,Below W.heap.size W w→z=d→Calls Tryz.prog 76 #[.pointer (some ⟨b,0,none⟩),.int .i64 z] w fun e w'=>e=.returned (.bool (plcI ps d).isSome)∧w'=w):=fun z w hb hz=>by rw [hz];exact rIn_t (h.below hb) ht d
  have HN:Hid (∀ (z:Int) w,Below W.heap.size W w→z=n→Calls Tryz.prog 76 #[.pointer (some ⟨b,0,none⟩),.int .i64 z] w fun e w'=>e=.returned (.bool (plcI ps n).isSome)∧w'=w):=fun z w hb hz=>by rw [hz];exact rIn_t (h.below hb) ht n
  have HMe:Hid (∀ w,Below W.heap.size W w→Calls Tryz.prog 179 #[.pointer (some ⟨b,0,none⟩),.agg #[.int .i64 c,.int .i64 i]] w fun e w'=>MthS (methI ps c i) e∧Below w.heap.size w w'):=fun w hb=>rMethod_c (h.below hb) ht c i
  cases hm:methI ps c i with
  | none =>
    have e:moP ps d c i n=(false,3):=by
      unfold moP;rw [hm]
      cases plcI ps d <;> cases plcI ps n <;> cases plcI ps c <;> rfl
    rw [e]
    rw [hm] at HMe
    clear h ht hJ e hm HD HN
    go_enter Tryz.func94,Tryz.ntmps94
    go_wp2_with (first
      | (go_at_call 179;refine (HMe.out _ (by repeat (first|exact Below.refl _ _|refine Below.setCell ?_ (by simp;try omega) _|refine Below.alloc ?_ (by simp;try omega) _|refine Below.drew ?_))).mono ?_;rintro e w1 ⟨hr,hb⟩;simp only [MthS,noM] at hr;subst hr;have B1:Hid (Below W.heap.size W w1):=bstep (by repeat (first|exact Below.refl _ _|refine Below.setCell ?_ (by simp;try omega) _|refine Below.alloc ?_ (by simp;try omega) _|refine Below.drew ?_)) hb;clear hb HMe))
    exact bodyPost_ret (results_tmp2 rfl _ _ _) rfl ⟨rfl,B1.out.alloc B1.out.size _⟩
  | some x =>
    obtain ⟨k,q,rfl,hq,hqI,_⟩:=meth_plc hm
    have HMf:Hid (∀ w,Below W.heap.size W w→Calls Tryz.prog 179 #[.pointer (some ⟨b,0,none⟩),.agg #[.int .i64 (k:Int),.int .i64 i]] w fun e w'=>(∃ xn xd xl xs xa xk xc,e=.returned (.tuple #[.agg #[.string xn,.string xd,.int .i64 x.fl,.int .i64 xl,.int .i64 xs,.slice xa xk xc],.int .i64 0]))∧Below w.heap.size w w'):=fun w hb=>by
      have:=HMe.out w hb
      rw [hm] at this
      refine this.mono fun e w' zz=>⟨?_,zz.2⟩
      obtain ⟨a,m,c,rfl⟩:=zz.1
      exact ⟨_,_,_,_,a,m,c,rfl⟩
    clear HMe
    have HMe:=HMf
    clear HMf
    cases hd:plcI ps d with
    | none =>
      have e:moP ps d k i n=(false,3):=by unfold moP;rw [hd]
      rw [e]
      rw [hd] at HD
      simp only [Option.isSome_none] at HD
      clear h ht hJ e hm hd hq hqI HN
      go_enter Tryz.func94,Tryz.ntmps94
      go_wp2_with (first
        | (go_at_call 179;refine (HMe.out _ (by repeat (first|exact Below.refl _ _|refine Below.setCell ?_ (by simp;try omega) _|refine Below.alloc ?_ (by simp;try omega) _|refine Below.drew ?_))).mono ?_;rintro e w1 ⟨⟨xn,xd,xl,xs,xa,xk,xc,rfl⟩,hb⟩;have B1:Hid (Below W.heap.size W w1):=bstep (by repeat (first|exact Below.refl _ _|refine Below.setCell ?_ (by simp;try omega) _|refine Below.alloc ?_ (by simp;try omega) _|refine Below.drew ?_)) hb;clear hb HMe)
        | (go_at_call 76;refine (HD.out _ _ (B1.out.alloc B1.out.size _) (by rfl)).mono ?_;rintro e w9 ⟨rfl,hw9⟩;rw [hw9];clear hw9 w9 HD))
      exact bodyPost_ret (results_tmp2 rfl _ _ _) rfl ⟨rfl,B1.out.alloc B1.out.size _⟩
    | some p =>
      cases hn:plcI ps n with
      | none =>
        have e:moP ps d k i n=(false,3):=by unfold moP;rw [hd,hn]
        rw [e]
        rw [hd] at HD
        rw [hn] at HN
        simp only [Option.isSome_none,Option.isSome_some] at HN HD
        clear h ht hJ e hm hd hq hqI hn
        go_enter Tryz.func94,Tryz.ntmps94
        go_wp2_with (first
          | (go_at_call 179;refine (HMe.out _ (by repeat (first|exact Below.refl _ _|refine Below.setCell ?_ (by simp;try omega) _|refine Below.alloc ?_ (by simp;try omega) _|refine Below.drew ?_))).mono ?_;rintro e w1 ⟨⟨xn,xd,xl,xs,xa,xk,xc,rfl⟩,hb⟩;have B1:Hid (Below W.heap.size W w1):=bstep (by repeat (first|exact Below.refl _ _|refine Below.setCell ?_ (by simp;try omega) _|refine Below.alloc ?_ (by simp;try omega) _|refine Below.drew ?_)) hb;clear hb HMe)
          | (go_at_call 76;refine (HD.out _ _ (B1.out.alloc B1.out.size _) (by rfl)).mono ?_;rintro e w9 ⟨rfl,hw9⟩;rw [hw9];clear hw9 w9 HD)
          | (go_at_call 76;refine (HN.out _ _ (B1.out.alloc B1.out.size _) (by rfl)).mono ?_;rintro e w9 ⟨rfl,hw9⟩;rw [hw9];clear hw9 w9 HN))
        exact bodyPost_ret (results_tmp2 rfl _ _ _) rfl ⟨rfl,B1.out.alloc B1.out.size _⟩
      | some r =>
        have e:moP ps d k i n=(mOpen ps d k n x.fl (samePk q p),0):=by unfold moP;rw [hd,hn,hqI,hm]
        rw [e]
        exact rMO_yes h ht hJ k d i n p q x hd hqI (by rw [hn];rfl) hm
def coC (cs:List Cls) (d c:Int):Value:=match clsI cs d,clsI cs c with
  | some p,some q=>.tuple #[.bool (hasI q.fl 1||togB p q),.int .i64 0]
  | _,_=>.tuple #[.bool false,.int .i64 3]
set_option maxHeartbeats 1000000 in
theorem rClassOpen_c {b:Nat} {cs:List Cls} {W:World} (h:RAt b cs W) (hz:∀ c∈cs,c.nm.size≤maxLen) (d c:Int):Calls Tryz.prog 239 #[.pointer (some ⟨b,0,none⟩),.int .i64 d,.int .i64 c] W fun e w'=>e=.returned (coC cs d c)∧Below W.heap.size W w':=by
  have HI:Hid (∀ i y w,Below W.heap.size W w→(clsI cs i).isSome=y→Calls Tryz.prog 76 #[.pointer (some ⟨b,0,none⟩),.int .i64 i] w fun e w'=>e=.returned (.bool y)∧w'=w):=fun i y w hb hy=>by rw [← hy];exact rIn_c (h.below hb) i
  rcases clsI_cases cs d with ⟨d1,d2⟩|⟨k,p,rfl,d2,d1⟩
  · have e:coC cs d c=.tuple #[.bool false,.int .i64 3]:=by rw [coC,d1]
    rw [e]
    have HI2:Hid (∀ i w,Below W.heap.size W w→i=d→Calls Tryz.prog 76 #[.pointer (some ⟨b,0,none⟩),.int .i64 i] w fun e w'=>e=.returned (.bool false)∧w'=w):=fun i w hb hi=>by rw [hi];exact HI.out d false w hb (by rw [d1];rfl)
    clear h d1 e HI hz
    go_enter Tryz.func239,Tryz.ntmps239
    go_wp2_with (go_at_call 76;refine (HI2.out _ _ (Below.refl _ _) (by rfl)).mono ?_;rintro e w9 ⟨rfl,hw9⟩;rw [hw9];clear hw9 w9)
    exact bodyPost_ret (results_tmp2 rfl _ _ _) rfl ⟨rfl,Below.refl _ _⟩
  · have HD:Hid (∀ i w,Below W.heap.size W w→i=(k:Int)→Calls Tryz.prog 76 #[.pointer (some ⟨b,0,none⟩),.int .i64 i] w fun e w'=>e=.returned (.bool true)∧w'=w):=fun i w hb hi=>by rw [hi];exact HI.out k true w hb (by rw [d1];rfl)
    rcases clsI_cases cs c with ⟨c1,c2⟩|⟨j,q,rfl,c2,c1⟩
    · have e:coC cs k c=.tuple #[.bool false,.int .i64 3]:=by rw [coC,d1,c1]
      rw [e]
      have HE:Hid (∀ i w,Below W.heap.size W w→i=c→Calls Tryz.prog 76 #[.pointer (some ⟨b,0,none⟩),.int .i64 i] w fun e w'=>e=.returned (.bool false)∧w'=w):=fun i w hb hi=>by rw [hi];exact HI.out c false w hb (by rw [c1];rfl)
      clear h d1 c1 e HI hz d2
      go_enter Tryz.func239,Tryz.ntmps239
      go_wp2_with (first
        | (go_at_call 76;refine (HD.out _ _ (Below.refl _ _) (by rfl)).mono ?_;rintro e w9 ⟨rfl,hw9⟩;rw [hw9];clear hw9 w9)
        | (go_at_call 76;refine (HE.out _ _ (Below.refl _ _) (by rfl)).mono ?_;rintro e w9 ⟨rfl,hw9⟩;rw [hw9];clear hw9 w9))
      exact bodyPost_ret (results_tmp2 rfl _ _ _) rfl ⟨rfl,Below.refl _ _⟩
    · have e:coC cs k j=.tuple #[.bool (hasI q.fl 1||togB p q),.int .i64 0]:=by rw [coC,d1,c1]
      rw [e]
      have HE:Hid (∀ i w,Below W.heap.size W w→i=(j:Int)→Calls Tryz.prog 76 #[.pointer (some ⟨b,0,none⟩),.int .i64 i] w fun e w'=>e=.returned (.bool true)∧w'=w):=fun i w hb hi=>by rw [hi];exact HI.out j true w hb (by rw [c1];rfl)
      have HF:Hid (∀ w:World,Calls Tryz.prog 101 #[.int .i64 q.fl,.int .i64 1] w fun e w'=>e=.returned (.bool (hasI q.fl 1))∧w'=w):=has_any q.fl 1
      have HS:Hid (Calls Tryz.prog 146 #[.pointer (some ⟨b,0,none⟩),.int .i64 (k:Int),.int .i64 (j:Int)] W fun e w'=>e=.returned (.bool (togB p q))∧Below W.heap.size W w'):=by
        have:=rSame_c h hz k j
        rw [spC,d1,c1] at this
        exact this
      obtain ⟨g,cap,vi,vm,b0,hlt,hgl,f0,f1,f2,f3,f4,f5,_,_⟩:=h.cells c2
      have hxI:(j:Int)<(cs.length:Int):=by have:=(List.getElem?_eq_some_iff.1 c2).1;omega
      generalize hasI q.fl 1=z1 at *
      generalize togB p q=z2 at *
      clear h d1 c1 e HI hz d2 c2 f0 f1 f2 f4 f5
      cases z1
      all_goals
        go_enter Tryz.func239,Tryz.ntmps239
        go_wp2_with (first
          | (go_at_call 76;refine (HD.out _ _ (Below.refl _ _) (by rfl)).mono ?_;rintro e w9 ⟨rfl,hw9⟩;rw [hw9];clear hw9 w9)
          | (go_at_call 76;refine (HE.out _ _ (Below.refl _ _) (by rfl)).mono ?_;rintro e w9 ⟨rfl,hw9⟩;rw [hw9];clear hw9 w9)
          | (go_at_call 101;refine (HF.out _).mono ?_;rintro e w9 ⟨rfl,hw9⟩;rw [hw9];clear hw9 w9)
          | (go_at_call 146;refine HS.out.mono ?_;rintro e w1 ⟨rfl,hb⟩;have B1:Hid (Below W.heap.size W w1):=hb;clear hb HS))
        first
          | exact bodyPost_ret (results_tmp2 rfl _ _ _) rfl ⟨rfl,B1.out⟩
          | exact bodyPost_ret (results_tmp2 rfl _ _ _) rfl ⟨rfl,Below.refl _ _⟩
def ldC (cs:List Cls) (d:Int) (s:ByteArray):Int:=if sndB d s.data.toList then (if s.toList.isEmpty then 0 else if nmdI s.toList cs 0<0 then 20 else 0) else 1
set_option maxHeartbeats 1000000 in
theorem rLoaded_c {b:Nat} {cs:List Cls} {W:World} (h:RAt b cs W) (hn:cs.length≤300) (d:Int) (s:ByteArray) (hs:s.size≤maxLen):Calls Tryz.prog 174 #[.pointer (some ⟨b,0,none⟩),.agg #[.int .i64 d,.string s]] W fun e w'=>e=.returned (.int .i64 (ldC cs d s))∧Below W.heap.size W w':=by
  have HC:Hid (∀ w:World,Calls Tryz.prog 238 #[.agg #[.int .i64 d,.string s]] w fun e w'=>e=.returned (.int .i64 (chkI (sndB d s.data.toList)))∧Below w.heap.size w w'):=tyRCheck_any d s hs
  have HN:Hid (∀ w,Below W.heap.size W w→Calls Tryz.prog 177 #[.pointer (some ⟨b,0,none⟩),.string s] w fun e w'=>e=.returned (bnC (nmdI s.toList cs 0))∧w'=w):=fun w hb=>rByName_c (h.below hb) s hn
  have HR:Hid (ldC cs d s=if sndB d s.data.toList then (if s.toList.isEmpty then 0 else if nmdI s.toList cs 0<0 then 20 else 0) else 1):=rfl
  generalize ldC cs d s=R at *
  generalize sndB d s.data.toList=z at *
  generalize nmdI s.toList cs 0=k at *
  clear h
  cases z with
  | false =>
    have hR:R=1:=HR.out
    subst hR
    clear HR
    go_enter Tryz.func174,Tryz.ntmps174
    go_wp2_with (first
      | (go_at_call 238;refine (HC.out _).mono ?_;rintro e w1 ⟨rfl,hb⟩;simp only [chkI];have B1:Hid (Below W.heap.size W w1):=bstep (by repeat (first|exact Below.refl _ _|refine Below.setCell ?_ (by simp;try omega) _|refine Below.alloc ?_ (by simp;try omega) _|refine Below.drew ?_)) hb;clear hb HC))
    exact bodyPost_ret (results_tmp rfl _ _ _) rfl ⟨rfl,B1.out⟩
  | true =>
    cases he:s.toList.isEmpty with
    | true =>
      have hR:R=0:=by rw [HR.out,he];rfl
      subst hR
      clear HR
      go_enter Tryz.func174,Tryz.ntmps174
      go_wp2_with (first
        | (go_at_call 238;refine (HC.out _).mono ?_;rintro e w1 ⟨rfl,hb⟩;simp only [chkI];have t1:w1.cell? ⟨W.heap.size,1,none⟩=some (.string s):=(hb.cell (p:=⟨W.heap.size,1,none⟩) (by simp)).trans (by simp [go_sem]);have B1:Hid (Below W.heap.size W w1):=bstep (by repeat (first|exact Below.refl _ _|refine Below.setCell ?_ (by simp;try omega) _|refine Below.alloc ?_ (by simp;try omega) _|refine Below.drew ?_)) hb;clear hb HC))
      exact bodyPost_ret (results_tmp rfl _ _ _) rfl ⟨rfl,B1.out⟩
    | false =>
      have hR:R=if k<0 then 20 else 0:=by rw [HR.out,he];rfl
      clear HR
      by_cases hk:k<0
      · rw [if_pos hk] at hR
        subst hR
        go_enter Tryz.func174,Tryz.ntmps174
        go_wp2_with (first
          | (go_at_call 238;refine (HC.out _).mono ?_;rintro e w1 ⟨rfl,hb⟩;simp only [chkI];have t1:w1.cell? ⟨W.heap.size,1,none⟩=some (.string s):=(hb.cell (p:=⟨W.heap.size,1,none⟩) (by simp)).trans (by simp [go_sem]);have B1:Hid (Below W.heap.size W w1):=bstep (by repeat (first|exact Below.refl _ _|refine Below.setCell ?_ (by simp;try omega) _|refine Below.alloc ?_ (by simp;try omega) _|refine Below.drew ?_)) hb;clear hb HC)
          | (go_at_call 177;refine (HN.out _ B1.out).mono ?_;rintro e w9 ⟨rfl,hw9⟩;rw [bnC,if_pos hk,hw9];clear hw9 w9))
        exact bodyPost_ret (results_tmp rfl _ _ _) rfl ⟨rfl,B1.out⟩
      · rw [if_neg hk] at hR
        subst hR
        go_enter Tryz.func174,Tryz.ntmps174
        go_wp2_with (first
          | (go_at_call 238;refine (HC.out _).mono ?_;rintro e w1 ⟨rfl,hb⟩;simp only [chkI];have t1:w1.cell? ⟨W.heap.size,1,none⟩=some (.string s):=(hb.cell (p:=⟨W.heap.size,1,none⟩) (by simp)).trans (by simp [go_sem]);have B1:Hid (Below W.heap.size W w1):=bstep (by repeat (first|exact Below.refl _ _|refine Below.setCell ?_ (by simp;try omega) _|refine Below.alloc ?_ (by simp;try omega) _|refine Below.drew ?_)) hb;clear hb HC)
          | (go_at_call 177;refine (HN.out _ B1.out).mono ?_;rintro e w9 ⟨rfl,hw9⟩;rw [bnC,if_neg hk,hw9];clear hw9 w9))
        exact bodyPost_ret (results_tmp rfl _ _ _) rfl ⟨rfl,B1.out⟩
def toC (cs:List Cls) (d x:Int) (s:ByteArray):Value:=if (clsI cs d).isSome then (if ldC cs x s=0 then (if s.toList.isEmpty then .tuple #[.bool true,.int .i64 0] else coC cs d (nmdI s.toList cs 0)) else .tuple #[.bool false,.int .i64 (ldC cs x s)]) else .tuple #[.bool false,.int .i64 3]
theorem ldC_nat {cs:List Cls} {x:Int} {s:ByteArray} (h:ldC cs x s=0) (he:s.toList.isEmpty=false):¬ nmdI s.toList cs 0<0:=by
  intro hk
  rw [ldC,he] at h
  cases hz:sndB x s.data.toList with
  | true=>rw [hz] at h;simp [hk] at h
  | false=>rw [hz] at h;simp at h
set_option maxHeartbeats 1000000 in
theorem rTypeOpen_c {b:Nat} {cs:List Cls} {W:World} (h:RAt b cs W) (hn:cs.length≤300) (hz:∀ c∈cs,c.nm.size≤maxLen) (d x:Int) (s:ByteArray) (hs:s.size≤maxLen):Calls Tryz.prog 175 #[.pointer (some ⟨b,0,none⟩),.int .i64 d,.agg #[.int .i64 x,.string s]] W fun e w'=>e=.returned (toC cs d x s)∧Below W.heap.size W w':=by
  have HI:Hid (∀ w,Below W.heap.size W w→Calls Tryz.prog 76 #[.pointer (some ⟨b,0,none⟩),.int .i64 d] w fun e w'=>e=.returned (.bool (clsI cs d).isSome)∧w'=w):=fun w hb=>rIn_c (h.below hb) d
  have HL:Hid (∀ w,Below W.heap.size W w→Calls Tryz.prog 174 #[.pointer (some ⟨b,0,none⟩),.agg #[.int .i64 x,.string s]] w fun e w'=>e=.returned (.int .i64 (ldC cs x s))∧Below w.heap.size w w'):=fun w hb=>rLoaded_c (h.below hb) hn x s hs
  have HN:Hid (∀ w,Below W.heap.size W w→Calls Tryz.prog 177 #[.pointer (some ⟨b,0,none⟩),.string s] w fun e w'=>e=.returned (bnC (nmdI s.toList cs 0))∧w'=w):=fun w hb=>rByName_c (h.below hb) s hn
  obtain ⟨C0,hC0⟩:∃ C0:Bool×Int,coC cs d (nmdI s.toList cs 0)=.tuple #[.bool C0.1,.int .i64 C0.2]:=by
    unfold coC
    cases clsI cs d <;> cases clsI cs (nmdI s.toList cs 0) <;> exact ⟨(_,_),rfl⟩
  have HO:Hid (∀ w,Below W.heap.size W w→Calls Tryz.prog 239 #[.pointer (some ⟨b,0,none⟩),.int .i64 d,.int .i64 (nmdI s.toList cs 0)] w fun e w'=>e=.returned (.tuple #[.bool C0.1,.int .i64 C0.2])∧Below w.heap.size w w'):=fun w hb=>by rw [← hC0];exact rClassOpen_c (h.below hb) hz d _
  have HR:Hid (toC cs d x s=if (clsI cs d).isSome then (if ldC cs x s=0 then (if s.toList.isEmpty then .tuple #[.bool true,.int .i64 0] else .tuple #[.bool C0.1,.int .i64 C0.2]) else .tuple #[.bool false,.int .i64 (ldC cs x s)]) else .tuple #[.bool false,.int .i64 3]):=by rw [Hid,← hC0];rfl
  have HK:Hid (ldC cs x s=0→s.toList.isEmpty=false→¬ nmdI s.toList cs 0<0):=ldC_nat
  clear hC0 h hz
  generalize toC cs d x s=R at *
  generalize (clsI cs d).isSome=z at *
  generalize ldC cs x s=L at *
  generalize nmdI s.toList cs 0=k at *
  obtain ⟨C1,C2⟩:=C0
  simp only at HO HR
  cases z with
  | false =>
    have hR:R=.tuple #[.bool false,.int .i64 3]:=HR.out
    subst hR
    clear HR
    go_enter Tryz.func175,Tryz.ntmps175
    go_wp2_with (go_at_call 76;refine (HI.out _ (by repeat (first|exact Below.refl _ _|refine Below.setCell ?_ (by simp;try omega) _|refine Below.alloc ?_ (by simp;try omega) _|refine Below.drew ?_))).mono ?_;rintro e w9 ⟨rfl,hw9⟩;rw [hw9];clear hw9 w9)
    exact bodyPost_ret (results_tmp2 rfl _ _ _) rfl ⟨rfl,(by repeat (first|exact Below.refl _ _|refine Below.setCell ?_ (by simp;try omega) _|refine Below.alloc ?_ (by simp;try omega) _|refine Below.drew ?_))⟩
  | true =>
    by_cases hL:L=0
    · cases he:s.toList.isEmpty with
      | true =>
        have hR:R=.tuple #[.bool true,.int .i64 0]:=by rw [HR.out,if_pos rfl,if_pos hL,he];rfl
        subst hR hL
        clear HR
        go_enter Tryz.func175,Tryz.ntmps175
        go_wp2_with (first
          | (go_at_call 76;refine (HI.out _ (by repeat (first|exact Below.refl _ _|refine Below.setCell ?_ (by simp;try omega) _|refine Below.alloc ?_ (by simp;try omega) _|refine Below.drew ?_))).mono ?_;rintro e w9 ⟨rfl,hw9⟩;rw [hw9];clear hw9 w9)
          | (go_at_call 174;refine (HL.out _ (by repeat (first|exact Below.refl _ _|refine Below.setCell ?_ (by simp;try omega) _|refine Below.alloc ?_ (by simp;try omega) _|refine Below.drew ?_))).mono ?_;rintro e w1 ⟨rfl,hb⟩;have t1:w1.cell? ⟨W.heap.size,1,none⟩=some (.string s):=(hb.cell (p:=⟨W.heap.size,1,none⟩) (by simp)).trans (by simp [go_sem]);have B1:Hid (Below W.heap.size W w1):=bstep (by repeat (first|exact Below.refl _ _|refine Below.setCell ?_ (by simp;try omega) _|refine Below.alloc ?_ (by simp;try omega) _|refine Below.drew ?_)) hb;clear hb HL))
        exact bodyPost_ret (results_tmp2 rfl _ _ _) rfl ⟨rfl,B1.out⟩
      | false =>
        have hR:R=.tuple #[.bool C1,.int .i64 C2]:=by rw [HR.out,if_pos rfl,if_pos hL,he];rfl
        have hk:Hid (¬ k<0):=HK.out hL he
        subst hR hL
        clear HR HK
        go_enter Tryz.func175,Tryz.ntmps175
        go_wp2_with (first
          | (go_at_call 76;refine (HI.out _ (by repeat (first|exact Below.refl _ _|refine Below.setCell ?_ (by simp;try omega) _|refine Below.alloc ?_ (by simp;try omega) _|refine Below.drew ?_))).mono ?_;rintro e w9 ⟨rfl,hw9⟩;rw [hw9];clear hw9 w9)
          | (go_at_call 174;refine (HL.out _ (by repeat (first|exact Below.refl _ _|refine Below.setCell ?_ (by simp;try omega) _|refine Below.alloc ?_ (by simp;try omega) _|refine Below.drew ?_))).mono ?_;rintro e w1 ⟨rfl,hb⟩;have t1:w1.cell? ⟨W.heap.size,1,none⟩=some (.string s):=(hb.cell (p:=⟨W.heap.size,1,none⟩) (by simp)).trans (by simp [go_sem]);have B1:Hid (Below W.heap.size W w1):=bstep (by repeat (first|exact Below.refl _ _|refine Below.setCell ?_ (by simp;try omega) _|refine Below.alloc ?_ (by simp;try omega) _|refine Below.drew ?_)) hb;clear hb HL)
          | (go_at_call 177;refine (HN.out _ B1.out).mono ?_;rintro e w9 ⟨rfl,hw9⟩;rw [bnC,if_neg (by have:=hk.out;omega),hw9];clear hw9 w9)
          | (go_at_call 239;refine (HO.out _ B1.out).mono ?_;rintro e w2 ⟨rfl,hb⟩;have B2:Hid (Below W.heap.size W w2):=bstep B1.out hb;clear hb HO))
        exact bodyPost_ret (results_tmp2 rfl _ _ _) rfl ⟨rfl,B2.out⟩
    · have hR:R=.tuple #[.bool false,.int .i64 L]:=by rw [HR.out,if_pos rfl,if_neg hL]
      subst hR
      clear HR HK
      go_enter Tryz.func175,Tryz.ntmps175
      go_wp2_with (first
        | (go_at_call 76;refine (HI.out _ (by repeat (first|exact Below.refl _ _|refine Below.setCell ?_ (by simp;try omega) _|refine Below.alloc ?_ (by simp;try omega) _|refine Below.drew ?_))).mono ?_;rintro e w9 ⟨rfl,hw9⟩;rw [hw9];clear hw9 w9)
        | (go_at_call 174;refine (HL.out _ (by repeat (first|exact Below.refl _ _|refine Below.setCell ?_ (by simp;try omega) _|refine Below.alloc ?_ (by simp;try omega) _|refine Below.drew ?_))).mono ?_;rintro e w1 ⟨rfl,hb⟩;have B1:Hid (Below W.heap.size W w1):=bstep (by repeat (first|exact Below.refl _ _|refine Below.setCell ?_ (by simp;try omega) _|refine Below.alloc ?_ (by simp;try omega) _|refine Below.drew ?_)) hb;clear hb HL))
      exact bodyPost_ret (results_tmp2 rfl _ _ _) rfl ⟨rfl,B1.out⟩
theorem ld_facts {ps:List Plc} {x:Int} {s:ByteArray} (h:ldI ps x s=0):0≤x∧x≤255∧(s.toList.isEmpty=false→∃ k,lookL ps s.data.toList=some k):=by
  unfold ldI at h
  cases hs:sndB x s.data.toList with
  | false=>rw [hs] at h;revert h;simp
  | true =>
    rw [hs] at h
    have hs2:=hs
    unfold sndB at hs2
    simp only [Bool.and_eq_true,decide_eq_true_eq] at hs2
    refine ⟨hs2.1.1,hs2.1.2,fun he=>?_⟩
    rw [he] at h
    cases hl:lookL ps s.data.toList with
    | some k=>exact ⟨k,rfl⟩
    | none=>rw [hl] at h;revert h;simp
theorem rIsInt_c (d:Int) (s:ByteArray) (W:World):Calls Tryz.prog 176 #[.agg #[.int .i64 d,.string s]] W fun e w'=>e=.returned (.bool (intB d s))∧Below W.heap.size W w':=by
  obtain ⟨R,hR⟩:∃ R,intB d s=R:=⟨_,rfl⟩
  have HR:Hid (((d == 0)&&s.toList.isEmpty)=R):=hR
  rw [hR]
  clear hR
  go_enter Tryz.func176,Tryz.ntmps176
  go_wp2
  all_goals go_ret
  all_goals exact ⟨retB (by rw [← HR.out];simp [*]),(by repeat (first|exact Below.refl _ _|refine Below.setCell ?_ (by simp;try omega) _|refine Below.alloc ?_ (by simp;try omega) _|refine Below.drew ?_))⟩
theorem rByName_t {b:Nat} {cs:List Cls} {ps:List Plc} {W:World} (h:RAt b cs W) (ht:TwW cs ps) (s:ByteArray) (x:Nat) (hx:lookL ps s.data.toList=some x):Calls Tryz.prog 177 #[.pointer (some ⟨b,0,none⟩),.string s] W fun e w'=>e=.returned (.tuple #[.int .i64 (x:Int),.int .i64 0])∧w'=W:=by
  have hn:cs.length≤300:=by rw [ht.tw.len];exact ht.wi.hi
  refine (rByName_c h s hn).mono fun e w' zz=>⟨?_,zz.2⟩
  rw [zz.1,Lib.toList_data,look_nmd ht.tw ht.nm,hx]
  show Ending.returned (bnC (x:Int))=_
  rw [bnC,if_neg (by omega)]
theorem ldC_eq {cs:List Cls} {ps:List Plc} (ht:TwW cs ps) (x:Int) (s:ByteArray):ldC cs x s=ldI ps x s:=by
  unfold ldC ldI
  rw [Lib.toList_data s,look_nmd ht.tw ht.nm]
  cases lookL ps s.data.toList with
  | none=>rfl
  | some k =>
    have:¬ lkI (some k)<0:=by show ¬ ((k:Nat):Int)<0;omega
    simp only [this,if_false]
    try (split <;> split <;> rfl)
theorem clss_keep {w w':World} {v:Value} {l:List Cls} (h:IsClss w v l) (hb:Below w.heap.size w w'):IsClss w' v l:=by
  obtain ⟨ao,cap,rfl,h1,h2,h3⟩:=h
  refine ⟨ao,cap,rfl,h1,h2,fun hne=>?_⟩
  obtain ⟨bk,o,e,hlt,hc⟩:=h3 hne
  refine ⟨bk,o,e,Nat.lt_of_lt_of_le hlt hb.size,fun k c hk=>?_⟩
  obtain ⟨vi,vm,h4,h5⟩:=hc k c hk
  exact ⟨vi,vm,fun j u hj=>(hb.cell hlt).trans (h4 j u hj),h5.keep hb⟩
theorem open_pub2 (f:Int):(openI f == 1)=hasI f 1:=by
  unfold openI
  cases h1:hasI f 1
  · cases h4:hasI f 4
    · cases h2:hasI f 2 <;> rfl
    · rfl
  · rfl
theorem tog_pk (p q:Cls) (p' q':Plc) (hp:p'.c=hcOf p) (hq:q'.c=hcOf q):togB p q=samePk q' p':=by
  rw [togB,samePk,hp,hq,Bool.eq_iff_iff]
  simp only [Bool.and_eq_true,beq_iff_eq]
  exact ⟨fun ⟨a,b⟩=>⟨a.symm,b.symm⟩,fun ⟨a,b⟩=>⟨a.symm,b.symm⟩⟩
theorem co_eq {cs:List Cls} {ps:List Plc} (h:Twin cs ps) (d c:Int):coC cs d c=coI ps d c:=by
  rcases h.clsI d with ⟨h1,h2⟩|⟨k,p,p',rfl,_,_,h4,h1,h2⟩
  · rw [coC,h1,coI,h2]
  · rcases h.clsI c with ⟨g1,g2⟩|⟨j,q,q',rfl,_,_,g4,g1,g2⟩
    · rw [coC,h1,g1,coI,h2,g2]
    · rw [coC,h1,g1,coI,h2,g2]
      have e:(hasI q.fl 1||togB p q)=clsO q' p':=by rw [clsO,open_pub2,tog_pk p q p' q' h4 g4,g4];rfl
      simp only [e]
theorem ld_eq {cs:List Cls} {ps:List Plc} (h:Twin cs ps) (hn:NmW ps) (x:Int) (s:ByteArray):ldC cs x s=ldI ps x s:=by
  rw [ldC,ldI,look_nmd h hn,Lib.toList_data]
  cases lookL ps s.data.toList with
  | none =>
    have e:lkI none<0:=by decide
    simp only [e,if_true]
  | some k =>
    have e:¬ lkI (some k)<0:=by simp only [lkI];omega
    simp only [e,if_false]
theorem to_eq {cs:List Cls} {ps:List Plc} (h:Twin cs ps) (hn:NmW ps) (d x:Int) (s:ByteArray):toC cs d x s=toI ps d x s:=by
  rw [toC,toI,ld_eq h hn,co_eq h,look_nmd h hn]
  rcases h.clsI d with ⟨h1,h2⟩|⟨k,p,p',rfl,_,_,h4,h1,h2⟩
  · rw [h1,h2];rfl
  · rw [h1,h2]
    simp only [Option.isSome_some,if_true]
    by_cases hl:ldI ps x s=0
    · rw [if_pos hl,if_pos hl,tyO]
      cases he:s.toList.isEmpty with
      | true=>rfl
      | false =>
        rw [Lib.toList_data] at *
        cases hk:lookL ps s.data.toList with
        | none =>
          exfalso
          rw [ldI,Lib.toList_data,he,hk] at hl
          cases hz:sndB x s.data.toList <;> rw [hz] at hl <;> simp at hl
        | some j =>
          obtain ⟨q,hq,_⟩:=look_place hk
          simp only [Bool.false_eq_true,if_false]
          rw [lkI,coI,h2,plcI_nat,hq]
    · rw [if_neg hl,if_neg hl]
end Go.Proofs.YtjlfnelihbdhjaaGreat
