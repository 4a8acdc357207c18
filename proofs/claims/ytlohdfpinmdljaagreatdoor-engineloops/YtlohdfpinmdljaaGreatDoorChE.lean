import Derived.Test.YtlohdfpinmdljaaGreatDoorTyC
import Derived.Test.YtlohdfpinmdljaaGreatDoorRsC
import Derived.Test.YtlohdfpinmdljaaGreatDoorSoE
import Derived.Test.YtlohdfpinmdljaaGreatDoorOwnC
import Derived.Test.YtlohdfpinmdljaaGreatDoorAcC
import Derived.Test.YtlohdfpinmdljaaGreatDoorHrS
import Derived.Test.YtlohdfpinmdljaaGreatDoorHrR
import Derived.Deep.LoopGhost
import Derived.Deep.DeepCutAuto
import Derived.Laws.AppendOwn
import Derived.Lib.SmallJoins
import Derived.WalkSmall
import Derived.Deep.AppendLies
set_option maxRecDepth 100000
namespace Go.Proofs.YtlohdfpinmdljaaGreatDoor
open Go.RowKit Go.Maps
theorem isOverInt_c (d:Int) (s:ByteArray) (W:World):Calls Tryz.prog 207 #[.agg #[.int .i64 d,.string s]] W fun e w'=>e=.returned (.bool s.toList.isEmpty)∧Below W.heap.size W w':=by
  cases he:s.toList.isEmpty
  all_goals
    go_enter Tryz.func207,Tryz.ntmps207
    go_wp2
    go_ret
    exact ⟨by first|rfl|simp_all,(by repeat (first|exact Below.refl _ _|refine Below.setCell ?_ (by simp;try omega) _|refine Below.alloc ?_ (by simp;try omega) _|refine Below.drew ?_))⟩
def ldI (ps:List Plc) (d:Int) (s:ByteArray):Int:=if sndB d s.data.toList then (if s.toList.isEmpty then 0 else match lookL ps s.data.toList with
  | some _=>0
  | none=>20) else 1
theorem loaded_c {b:Nat} {ps:List Plc} {W:World} (h:WAt b ps W) (d:Int) (s:ByteArray) (hs:s.size≤maxLen):Calls Tryz.prog 138 #[.pointer (some ⟨b,0,none⟩),.agg #[.int .i64 d,.string s]] W fun e w'=>e=.returned (.int .i64 (ldI ps d s))∧Below W.heap.size W w':=by
  have HC:Hid (∀ w:World,Calls Tryz.prog 206 #[.agg #[.int .i64 d,.string s]] w fun e w'=>e=.returned (.int .i64 (chkI (sndB d s.data.toList)))∧Below w.heap.size w w'):=tyCheck_any d s hs
  have HO:Hid (∀ w:World,Calls Tryz.prog 207 #[.agg #[.int .i64 d,.string s]] w fun e w'=>e=.returned (.bool s.toList.isEmpty)∧Below w.heap.size w w'):=isOverInt_c d s
  have HN:Hid (∀ w:World,Below W.heap.size W w→Calls Tryz.prog 140 #[.pointer (some ⟨b,0,none⟩),.string s] w fun e w'=>e=.returned (bnV (lookL ps s.data.toList))∧Below w.heap.size w w'):=fun w hb=>byName_c (h.below hb) s hs
  obtain ⟨R,hR⟩:∃ R,ldI ps d s=R:=⟨_,rfl⟩
  rw [hR]
  have HR:Hid (ldI ps d s=R):=hR
  clear hR h
  unfold ldI at HR
  generalize sndB d s.data.toList=sn at *
  generalize s.toList.isEmpty=em at *
  generalize lookL ps s.data.toList=lk at *
  cases sn with
  | false =>
    have e:chkI false=1:=rfl
    rw [e] at HC
    have HS:Hid (R=1):=HR.out.symm
    clear HR
    go_enter Tryz.func138,Tryz.ntmps138
    go_wp2_with (go_at_call 206;refine (HC.out _).mono ?_;rintro e w1 ⟨rfl,hb⟩;have B1:Hid (Below W.heap.size W w1):=bstep (by repeat (first|exact Below.refl _ _|refine Below.setCell ?_ (by simp;try omega) _|refine Below.alloc ?_ (by simp;try omega) _|refine Below.drew ?_)) hb;clear hb HC)
    exact bodyPost_ret (results_tmp rfl _ _ _) rfl ⟨by rw [HS.out];rfl,B1.out⟩
  | true =>
    have e:chkI true=0:=rfl
    rw [e] at HC
    cases em with
    | true =>
      have HS:Hid (R=0):=HR.out.symm
      clear HR
      go_enter Tryz.func138,Tryz.ntmps138
      go_wp2_with (first
        | (go_at_call 206;refine (HC.out _).mono ?_;rintro e w1 ⟨rfl,hb⟩;have h0:=(hb.block W.heap.size (by simp)).trans (halloc1 W _);have r0:=cell_of_row w1 W.heap.size 0 _ _ _ h0;have r1:=cell_of_row w1 W.heap.size 1 _ _ _ h0;simp only [List.getElem?_toArray,List.getElem?_cons_zero,List.getElem?_cons_succ] at r0 r1;have B1:Hid (Below W.heap.size W w1):=bstep (by repeat (first|exact Below.refl _ _|refine Below.setCell ?_ (by simp;try omega) _|refine Below.alloc ?_ (by simp;try omega) _|refine Below.drew ?_)) hb;clear hb HC h0)
        | (go_at_call 207;refine (HO.out _).mono ?_;rintro e w2 ⟨rfl,hb⟩;have B2:Hid (Below W.heap.size W w2):=bstep B1.out hb;clear hb HO))
      exact bodyPost_ret (results_tmp rfl _ _ _) rfl ⟨by rw [HS.out];rfl,B2.out⟩
    | false =>
      cases lk
      all_goals
        first|have HS:Hid (R=20):=HR.out.symm|have HS:Hid (R=0):=HR.out.symm
        clear HR
        simp only [bnV] at HN
        go_enter Tryz.func138,Tryz.ntmps138
        go_wp2_with (first
          | (go_at_call 206;refine (HC.out _).mono ?_;rintro e w1 ⟨rfl,hb⟩;have h0:=(hb.block W.heap.size (by simp)).trans (halloc1 W _);have r0:=cell_of_row w1 W.heap.size 0 _ _ _ h0;have r1:=cell_of_row w1 W.heap.size 1 _ _ _ h0;simp only [List.getElem?_toArray,List.getElem?_cons_zero,List.getElem?_cons_succ] at r0 r1;have hl:W.heap.size<w1.heap.size:=(Array.getElem?_eq_some_iff.1 h0).1;have B1:Hid (Below W.heap.size W w1):=bstep (by repeat (first|exact Below.refl _ _|refine Below.setCell ?_ (by simp;try omega) _|refine Below.alloc ?_ (by simp;try omega) _|refine Below.drew ?_)) hb;clear hb HC h0)
          | (go_at_call 207;refine (HO.out _).mono ?_;rintro e w2 ⟨rfl,hb⟩;have B2:Hid (Below W.heap.size W w2):=bstep B1.out hb;replace r0:=(hb.cell (p:=⟨W.heap.size,0,none⟩) hl).trans r0;replace r1:=(hb.cell (p:=⟨W.heap.size,1,none⟩) hl).trans r1;clear hb HO)
          | (go_at_call 140;refine (HN.out _ B2.out).mono ?_;rintro e w3 ⟨rfl,hb⟩;have B3:Hid (Below W.heap.size W w3):=bstep B2.out hb;clear hb HN))
        exact bodyPost_ret (results_tmp rfl _ _ _) rfl ⟨by rw [HS.out];rfl,B3.out⟩
def tyO (ps:List Plc) (p:Plc) (s:ByteArray):Bool:=if s.toList.isEmpty then true else match lookL ps s.data.toList with
  | some k=>(match ps[k]? with|some q=>clsO q p|none=>false)
  | none=>false
theorem aTy_c {b:Nat} {ps:List Plc} {W:World} (h:WAt b ps W) (hB:∀ q∈ps,PlcB q) (d:Nat) (p:Plc) (hd:ps[d]?=some p) (x:Int) (s:ByteArray) (hs:s.size≤maxLen) (hl:ldI ps x s=0):Calls Tryz.prog 254 #[.pointer (some ⟨b,0,none⟩),.int .i64 (d:Int),.agg #[.int .i64 x,.string s]] W fun e w'=>e=.returned (.bool (tyO ps p s))∧Below W.heap.size W w':=by
  cases he:s.toList.isEmpty with
  | true =>
    have e:tyO ps p s=true:=by rw [tyO,he];rfl
    rw [e]
    clear h e hl
    go_enter Tryz.func254,Tryz.ntmps254
    go_wp2
    exact bodyPost_ret (results_tmp rfl _ _ _) rfl ⟨rfl,(by repeat (first|exact Below.refl _ _|refine Below.setCell ?_ (by simp;try omega) _|refine Below.alloc ?_ (by simp;try omega) _|refine Below.drew ?_))⟩
  | false =>
    obtain ⟨k,hk⟩:∃ k,lookL ps s.data.toList=some k:=by
      unfold ldI at hl
      rw [he] at hl
      cases hl2:lookL ps s.data.toList with
      | some k=>exact ⟨k,rfl⟩
      | none=>rw [hl2] at hl;exfalso;revert hl;cases sndB x s.data.toList <;> simp
    obtain ⟨q,hq,_⟩:=look_place hk
    have e:tyO ps p s=clsO q p:=by rw [tyO,he,hk];simp only [hq];rfl
    rw [e]
    have HN:Hid (∀ w:World,Below W.heap.size W w→Calls Tryz.prog 140 #[.pointer (some ⟨b,0,none⟩),.string s] w fun e w'=>e=.returned (.tuple #[.int .i64 (k:Int),.int .i64 0])∧Below W.heap.size W w'):=fun w hb=>(byName_c (h.below hb) s hs).mono fun e w' zz=>⟨by rw [zz.1,hk];rfl,bstep hb zz.2⟩
    have HI:Hid (∀ w,Below W.heap.size W w→Calls Tryz.prog 304 #[.pointer (some ⟨b,0,none⟩),.int .i64 (d:Int),.int .i64 (k:Int)] w fun e w'=>e=.returned (.bool (clsO q p))∧Below W.heap.size W w'):=fun w hb=>(aCls_c (h.below hb) hB d k p q hd hq).mono fun e w' zz=>⟨zz.1,bstep hb zz.2⟩
    generalize clsO q p=R at *
    clear h hB hd hl hk hq e hs
    go_enter Tryz.func254,Tryz.ntmps254
    go_wp2_with (first
      | (go_at_call 140;refine (HN.out _ (by repeat (first|exact Below.refl _ _|refine Below.setCell ?_ (by simp;try omega) _|refine Below.alloc ?_ (by simp;try omega) _|refine Below.drew ?_))).mono ?_;rintro e w1 ⟨rfl,hb⟩;have B1:Hid (Below W.heap.size W w1):=hb;clear hb HN)
      | (go_at_call 304;refine (HI.out _ B1.out).mono ?_;rintro e w2 ⟨rfl,hb⟩;have B2:Hid (Below W.heap.size W w2):=hb;clear hb HI))
    exact bodyPost_ret (results_tmp rfl _ _ _) rfl ⟨rfl,B2.out⟩
def toI (ps:List Plc) (d x:Int) (s:ByteArray):Value:=match plcI ps d with
  | some p=>if ldI ps x s=0 then .tuple #[.bool (tyO ps p s),.int .i64 0] else .tuple #[.bool false,.int .i64 (ldI ps x s)]
  | none=>.tuple #[.bool false,.int .i64 3]
theorem typeOpen_c {b:Nat} {ps:List Plc} {W:World} (h:WAt b ps W) (hB:∀ q∈ps,PlcB q) (d x:Int) (s:ByteArray) (hs:s.size≤maxLen):Calls Tryz.prog 200 #[.pointer (some ⟨b,0,none⟩),.int .i64 d,.agg #[.int .i64 x,.string s]] W fun e w'=>e=.returned (toI ps d x s)∧Below W.heap.size W w':=by
  have HC:Hid (∀ (w:World) (v:Value),Below W.heap.size W w→Rds w v 1 1 [.int .i64 d]→Calls Tryz.prog 203 #[.pointer (some ⟨b,0,none⟩),v] w fun e w'=>e=.returned (.int .i64 (if (plcI ps d).isSome then 0 else 3))∧Below w.heap.size w w'):=fun w v hb hv=>(check_c (h.below hb) v [d] hv (by simp)).mono fun e w' zz=>⟨by rw [zz.1,inNs_iff];simp,zz.2⟩
  have HL:Hid (∀ w,Below W.heap.size W w→Calls Tryz.prog 138 #[.pointer (some ⟨b,0,none⟩),.agg #[.int .i64 x,.string s]] w fun e w'=>e=.returned (.int .i64 (ldI ps x s))∧Below w.heap.size w w'):=fun w hb=>loaded_c (h.below hb) x s hs
  rcases plcI_cases ps d with ⟨d1,_⟩|⟨d,p,rfl,d2,d1⟩
  · have e:toI ps d x s=.tuple #[.bool false,.int .i64 3]:=by rw [toI,d1]
    rw [e]
    rw [d1] at HC
    simp only [Option.isSome_none,Bool.false_eq_true,if_false] at HC
    clear h d1 e HL
    go_enter Tryz.func200,Tryz.ntmps200
    go_wp2_with (first
      | (go_at_call 203;refine (HC.out _ _ (by repeat (first|exact Below.refl _ _|refine Below.setCell ?_ (by simp;try omega) _|refine Below.alloc ?_ (by simp;try omega) _|refine Below.drew ?_)) (rds_at _ _ (by simp) _ 3 1 1 rfl (by decide))).mono ?_;rintro e w1 ⟨rfl,hb⟩;have B1:Hid (Below W.heap.size W w1):=bstep (by repeat (first|exact Below.refl _ _|refine Below.setCell ?_ (by simp;try omega) _|refine Below.alloc ?_ (by simp;try omega) _|refine Below.drew ?_)) hb;clear hb HC))
    exact bodyPost_ret (results_tmp2 rfl _ _ _) rfl ⟨rfl,B1.out⟩
  · rw [d1] at HC
    simp only [Option.isSome_some,if_true] at HC
    by_cases hl:ldI ps x s=0
    · have e:toI ps d x s=.tuple #[.bool (tyO ps p s),.int .i64 0]:=by rw [toI,d1];simp only [if_pos hl]
      rw [e]
      have HT:Hid (∀ w,Below W.heap.size W w→Calls Tryz.prog 254 #[.pointer (some ⟨b,0,none⟩),.int .i64 (d:Int),.agg #[.int .i64 x,.string s]] w fun e w'=>e=.returned (.bool (tyO ps p s))∧Below w.heap.size w w'):=fun w hb=>aTy_c (h.below hb) hB d p d2 x s hs hl
      rw [hl] at HL
      generalize tyO ps p s=R at *
      clear h d1 e d2 hl hB hs
      go_enter Tryz.func200,Tryz.ntmps200
      go_wp2_with (first
        | (go_at_call 203;refine (HC.out _ _ (by repeat (first|exact Below.refl _ _|refine Below.setCell ?_ (by simp;try omega) _|refine Below.alloc ?_ (by simp;try omega) _|refine Below.drew ?_)) (rds_at _ _ (by simp) _ 3 1 1 rfl (by decide))).mono ?_;rintro e w1 ⟨rfl,hb⟩;have h0:=(hb.block W.heap.size (by simp;omega)).trans (heap_alloc2_old W _ _);have r0:=cell_of_row w1 W.heap.size 0 _ _ _ h0;have r1:=cell_of_row w1 W.heap.size 1 _ _ _ h0;simp only [List.getElem?_toArray,List.getElem?_cons_zero,List.getElem?_cons_succ] at r0 r1;have hl0:W.heap.size<w1.heap.size:=(Array.getElem?_eq_some_iff.1 h0).1;have B1:Hid (Below W.heap.size W w1):=bstep (by repeat (first|exact Below.refl _ _|refine Below.setCell ?_ (by simp;try omega) _|refine Below.alloc ?_ (by simp;try omega) _|refine Below.drew ?_)) hb;clear hb HC h0)
        | (go_at_call 138;refine (HL.out _ B1.out).mono ?_;rintro e w2 ⟨rfl,hb⟩;replace r0:=(hb.cell (p:=⟨W.heap.size,0,none⟩) hl0).trans r0;replace r1:=(hb.cell (p:=⟨W.heap.size,1,none⟩) hl0).trans r1;have B2:Hid (Below W.heap.size W w2):=bstep B1.out hb;clear hb HL)
        | (go_at_call 254;refine (HT.out _ B2.out).mono ?_;rintro e w3 ⟨rfl,hb⟩;have B3:Hid (Below W.heap.size W w3):=bstep B2.out hb;clear hb HT))
      exact bodyPost_ret (results_tmp2 rfl _ _ _) rfl ⟨rfl,B3.out⟩
    · have e:toI ps d x s=.tuple #[.bool false,.int .i64 (ldI ps x s)]:=by rw [toI,d1];simp only [if_neg hl]
      rw [e]
      generalize ldI ps x s=R at *
      clear h d1 e d2 hB hs
      go_enter Tryz.func200,Tryz.ntmps200
      go_wp2_with (first
        | (go_at_call 203;refine (HC.out _ _ (by repeat (first|exact Below.refl _ _|refine Below.setCell ?_ (by simp;try omega) _|refine Below.alloc ?_ (by simp;try omega) _|refine Below.drew ?_)) (rds_at _ _ (by simp) _ 3 1 1 rfl (by decide))).mono ?_;rintro e w1 ⟨rfl,hb⟩;have h0:=(hb.block W.heap.size (by simp;omega)).trans (heap_alloc2_old W _ _);have r0:=cell_of_row w1 W.heap.size 0 _ _ _ h0;have r1:=cell_of_row w1 W.heap.size 1 _ _ _ h0;simp only [List.getElem?_toArray,List.getElem?_cons_zero,List.getElem?_cons_succ] at r0 r1;have hl0:W.heap.size<w1.heap.size:=(Array.getElem?_eq_some_iff.1 h0).1;have B1:Hid (Below W.heap.size W w1):=bstep (by repeat (first|exact Below.refl _ _|refine Below.setCell ?_ (by simp;try omega) _|refine Below.alloc ?_ (by simp;try omega) _|refine Below.drew ?_)) hb;clear hb HC h0)
        | (go_at_call 138;refine (HL.out _ B1.out).mono ?_;rintro e w2 ⟨rfl,hb⟩;have B2:Hid (Below W.heap.size W w2):=bstep B1.out hb;clear hb HL))
      exact bodyPost_ret (results_tmp2 rfl _ _ _) rfl ⟨rfl,B2.out⟩
def intB (d:Int) (s:ByteArray):Bool:=(d == 0)&&s.toList.isEmpty
theorem isInt_c (d:Int) (s:ByteArray) (W:World):Calls Tryz.prog 139 #[.agg #[.int .i64 d,.string s]] W fun e w'=>e=.returned (.bool (intB d s))∧Below W.heap.size W w':=by
  obtain ⟨R,hR⟩:∃ R,intB d s=R:=⟨_,rfl⟩
  have HR:Hid (((d == 0)&&s.toList.isEmpty)=R):=hR
  rw [hR]
  clear hR
  go_enter Tryz.func139,Tryz.ntmps139
  go_wp2
  all_goals go_ret
  all_goals exact ⟨retB (by rw [← HR.out];simp [*]),(by repeat (first|exact Below.refl _ _|refine Below.setCell ?_ (by simp;try omega) _|refine Below.alloc ?_ (by simp;try omega) _|refine Below.drew ?_))⟩
theorem lby_c {b:Nat} {ps:List Plc} {W:World} (h:WAt b ps W) (hi:WI ps) (c:Int) (y:Bool) (cn nm ds:ByteArray):Calls Tryz.prog 133 #[.pointer (some ⟨b,0,none⟩),.int .i64 c,.agg #[.bool y,.string cn,.string nm,.string ds]] W fun e w'=>e=.returned (idE (lbyR ps y nm ds c))∧Below W.heap.size W w':=by
  have HL:Hid (∀ w,Below W.heap.size W w→Calls Tryz.prog 202 #[.pointer (some ⟨b,0,none⟩),.int .i64 c,.string nm,.string ds] w fun e w'=>e=.returned (idE (lookR ps nm ds c))∧Below w.heap.size w w'):=fun w hb=>look_c (h.below hb) hi c nm ds
  have HF:Hid (∀ w,Below W.heap.size W w→Calls Tryz.prog 201 #[.pointer (some ⟨b,0,none⟩),.int .i64 c,.string nm,.string ds] w fun e w'=>e=.returned (idE (lifR ps nm ds c))∧Below w.heap.size w w'):=fun w hb=>lif_c (h.below hb) hi c nm ds
  unfold lbyR
  generalize lookR ps nm ds c=R at *
  generalize lifR ps nm ds c=S at *
  obtain ⟨⟨R1,R2⟩,R3⟩:=R
  obtain ⟨⟨S1,S2⟩,S3⟩:=S
  simp only [idE] at HL HF
  clear h hi
  cases y with
  | true =>
    rw [if_pos rfl]
    go_enter Tryz.func133,Tryz.ntmps133
    go_wp2_with (first
      | (go_at_call 201;refine (HF.out _ (by repeat (first|exact Below.refl _ _|refine Below.setCell ?_ (by simp;try omega) _|refine Below.alloc ?_ (by simp;try omega) _|refine Below.drew ?_))).mono ?_;rintro e w2 ⟨rfl,hb⟩;have zd:=kp2 (n:=W.heap.size+1) hb;(try clear zB z0 z1 zf zL zN);obtain ⟨zB,z0,z1,zf,zL,zN⟩:=zd;have B2:Hid (Below W.heap.size W w2):=bstep (by repeat (first|exact Below.refl _ _|refine Below.setCell ?_ (by simp;try omega) _|refine Below.alloc ?_ (by simp;try omega) _|refine Below.drew ?_)) hb;clear hb HF))
    exact bodyPost_ret (v:=idE ((S1,S2),S3)) (by simp [results,Tryz.results133,go_sem,idE, *]) rfl ⟨rfl,(by repeat (first|exact B2.out|refine Below.setCell ?_ (by simp;try omega) _|refine Below.alloc ?_ (by have:=B2.out.size;simp;try omega) _|refine Below.drew ?_))⟩
  | false =>
    rw [if_neg (by simp)]
    go_enter Tryz.func133,Tryz.ntmps133
    go_wp2_with (first
      | (go_at_call 202;refine (HL.out _ (by repeat (first|exact Below.refl _ _|refine Below.setCell ?_ (by simp;try omega) _|refine Below.alloc ?_ (by simp;try omega) _|refine Below.drew ?_))).mono ?_;rintro e w2 ⟨rfl,hb⟩;have zd:=kp2 (n:=W.heap.size+1) hb;(try clear zB z0 z1 zf zL zN);obtain ⟨zB,z0,z1,zf,zL,zN⟩:=zd;have B2:Hid (Below W.heap.size W w2):=bstep (by repeat (first|exact Below.refl _ _|refine Below.setCell ?_ (by simp;try omega) _|refine Below.alloc ?_ (by simp;try omega) _|refine Below.drew ?_)) hb;clear hb HL))
    exact bodyPost_ret (v:=idE ((R1,R2),R3)) (by simp [results,Tryz.results133,go_sem,idE, *]) rfl ⟨rfl,(by repeat (first|exact B2.out|refine Below.setCell ?_ (by simp;try omega) _|refine Below.alloc ?_ (by have:=B2.out.size;simp;try omega) _|refine Below.drew ?_))⟩
def toP (ps:List Plc) (d x:Int) (s:ByteArray):Bool×Int:=match plcI ps d with
  | some p=>if ldI ps x s=0 then (tyO ps p s,0) else (false,ldI ps x s)
  | none=>(false,3)
theorem toI_eq (ps:List Plc) (d x:Int) (s:ByteArray):toI ps d x s=.tuple #[.bool (toP ps d x s).1,.int .i64 (toP ps d x s).2]:=by
  unfold toI toP
  cases plcI ps d with
  | none=>rfl
  | some p=>by_cases h:ldI ps x s=0 <;> simp [h]
def tyE (x:(Int×ByteArray)×Int):Value:=.tuple #[.agg #[.int .i64 x.1.1,.string x.1.2],.int .i64 x.2]
def tyS (l:List UInt8):ByteArray:=⟨(prfT l).2.toArray⟩
def tyX (ps:List Plc) (d:Int) (l:List UInt8):Int:=shuI (toP ps d (prfT l).1 (tyS l)).1 (toP ps d (prfT l).1 (tyS l)).2
def clsR (ps:List Plc) (d:Int) (l:List UInt8):(Int×ByteArray)×Int :=
  if rckI ps d=0 then (if prfE l=0 then (if tyX ps d l=0 then ((((prfT l).1:Int),tyS l),0) else ((0,⟨#[]⟩),tyX ps d l)) else ((0,⟨#[]⟩),4)) else ((0,⟨#[]⟩),rckI ps d)
theorem prf_len2 (l:List UInt8) (h:prfE l=0):(prfT l).2.length≤2000∧(prfT l).1≤2000:=by
  unfold prfE at h
  unfold prfT
  by_cases h1:2000<l.length
  · rw [if_pos h1] at h;exact absurd h (by decide)
  · rw [if_neg h1] at h
    rw [if_neg h1]
    by_cases h2:l.head?=some 91
    · rw [if_pos h2] at h
      rw [if_pos h2]
      unfold parT
      rw [if_pos h]
      split
      · rename_i t r e
        have hw:=(write_read e).1
        have hl:=congrArg List.length hw
        rw [List.length_append,writeT_length] at hl
        split at hl
        · rename_i e0;rw [e0];simp;omega
        · omega
      all_goals simp
    · rw [if_neg h2] at h
      rw [if_neg h2]
      split
      · simp;omega
      · simp
set_option maxHeartbeats 1000000 in
theorem cls_c {b:Nat} {ps:List Plc} {W:World} (h:WAt b ps W) (hi:WI ps) (d:Int) (s:ByteArray) (hs:s.size≤maxLen):Calls Tryz.prog 132 #[.pointer (some ⟨b,0,none⟩),.int .i64 d,.string s] W fun e w'=>e=.returned (tyE (clsR ps d s.data.toList))∧Below W.heap.size W w':=by
  have HC:Hid (∀ w,Below W.heap.size W w→Calls Tryz.prog 131 #[.pointer (some ⟨b,0,none⟩),.int .i64 d] w fun e w'=>e=.returned (.int .i64 (rckI ps d))∧Below w.heap.size w w'):=fun w hb=>(rck_c (h.below hb) d).mono fun e w' zz=>⟨zz.1,by rw [zz.2];exact Below.refl _ _⟩
  have HP:Hid (∀ w:World,Calls Tryz.prog 35 #[.string s] w fun e w'=>e=.returned (.tuple #[.agg #[.int .i64 ((prfT s.data.toList).1:Int),.string (tyS s.data.toList)],.int .i64 (prfE s.data.toList)])∧Below w.heap.size w w'):=parseRef_any s hs
  have HS:Hid (∀ o x (w:World),Calls Tryz.prog 134 #[.bool o,.int .i64 x] w fun e w'=>e=.returned (.int .i64 (shuI o x))∧w'=w):=shut_c
  have HT:Hid (prfE s.data.toList=0→∀ w,Below W.heap.size W w→Calls Tryz.prog 200 #[.pointer (some ⟨b,0,none⟩),.int .i64 d,.agg #[.int .i64 ((prfT s.data.toList).1:Int),.string (tyS s.data.toList)]] w fun e w'=>e=.returned (.tuple #[.bool (toP ps d (prfT s.data.toList).1 (tyS s.data.toList)).1,.int .i64 (toP ps d (prfT s.data.toList).1 (tyS s.data.toList)).2])∧Below w.heap.size w w'):=fun h0 w hb=>by
    have hl:=(prf_len2 _ h0).1
    refine (typeOpen_c (h.below hb) hi.pb d _ _ ?_).mono fun e w' zz=>⟨by rw [zz.1,toI_eq],zz.2⟩
    have:(tyS s.data.toList).size=(prfT s.data.toList).2.length:=by simp [tyS,ByteArray.size]
    rw [this];unfold maxLen;omega
  unfold clsR tyX
  generalize ((prfT s.data.toList).1:Int)=x at *
  generalize tyS s.data.toList=t at *
  generalize toP ps d x t=P at *
  obtain ⟨P1,P2⟩:=P
  simp only at HT ⊢
  generalize prfE s.data.toList=pe at *
  generalize rckI ps d=ck at *
  replace HS:Hid (∀ (w:World),Calls Tryz.prog 134 #[.bool P1,.int .i64 P2] w fun e w'=>e=.returned (.int .i64 (shuI P1 P2))∧w'=w):=HS.out P1 P2
  generalize shuI P1 P2=sh at *
  clear h hi hs
  by_cases h0:ck=0
  · subst h0
    rw [if_pos rfl]
    by_cases h1:pe=0
    · subst h1
      rw [if_pos rfl]
      replace HT:Hid (∀ w,Below W.heap.size W w→Calls Tryz.prog 200 #[.pointer (some ⟨b,0,none⟩),.int .i64 d,.agg #[.int .i64 x,.string t]] w fun e w'=>e=.returned (.tuple #[.bool P1,.int .i64 P2])∧Below w.heap.size w w'):=HT.out rfl
      by_cases h2:sh=0
      · subst h2
        rw [if_pos rfl]
        go_enter Tryz.func132,Tryz.ntmps132
        go_wp2_with (first
          | (go_at_call 131;refine (HC.out _ (by repeat (first|exact Below.refl _ _|refine Below.setCell ?_ (by simp;try omega) _|refine Below.alloc ?_ (by simp;try omega) _|refine Below.drew ?_))).mono ?_;rintro e w1 ⟨rfl,hb⟩;have zd:=kp2 (n:=W.heap.size) hb;(try clear zB z0 z1 zf zL zN);obtain ⟨zB,z0,z1,zf,zL,zN⟩:=zd;have B1:Hid (Below W.heap.size W w1):=bstep (by repeat (first|exact Below.refl _ _|refine Below.setCell ?_ (by simp;try omega) _|refine Below.alloc ?_ (by simp;try omega) _|refine Below.drew ?_)) hb;clear hb HC)
          | (go_at_call 35;refine (HP.out _).mono ?_;rintro e w2 ⟨rfl,hb⟩;have zd:=kp2 (n:=W.heap.size) hb;(try clear zB z0 z1 zf zL zN);obtain ⟨zB,z0,z1,zf,zL,zN⟩:=zd;have B2:Hid (Below W.heap.size W w2):=bstep B1.out hb;clear hb HP)
          | (go_at_call 200;refine (HT.out _ (B2.out.alloc B2.out.size _)).mono ?_;rintro e w3 ⟨rfl,hb⟩;have hn3:¬ w2.heap.size=W.heap.size:=(by omega);have hm3:¬ W.heap.size=w2.heap.size:=(by omega);have zd:=kp2 (n:=W.heap.size) hb;(try clear zB z0 z1 zf zL zN);obtain ⟨zB,z0,z1,zf,zL,zN⟩:=zd;have gd:=kp2 (n:=w2.heap.size) hb;(try clear gB g0 g1 gf gL gN);obtain ⟨gB,g0,g1,gf,gL,gN⟩:=gd;have B3:Hid (Below W.heap.size W w3):=bstep (B2.out.alloc B2.out.size _) hb;clear hb HT)
          | (go_at_call 134;refine (HS.out _).mono ?_;rintro e w9 ⟨rfl,hw9⟩;rw [hw9];clear hw9 w9))
        exact bodyPost_ret (v:=tyE ((x,t),0)) (by simp [results,Tryz.results132,go_sem,tyE, *]) rfl ⟨rfl,(by repeat (first|exact B3.out|refine Below.setCell ?_ (by simp;try omega) _|refine Below.alloc ?_ (by have:=B3.out.size;simp;try omega) _|refine Below.drew ?_))⟩
      · rw [if_neg h2]
        go_enter Tryz.func132,Tryz.ntmps132
        go_wp2_with (first
          | (go_at_call 131;refine (HC.out _ (by repeat (first|exact Below.refl _ _|refine Below.setCell ?_ (by simp;try omega) _|refine Below.alloc ?_ (by simp;try omega) _|refine Below.drew ?_))).mono ?_;rintro e w1 ⟨rfl,hb⟩;have zd:=kp2 (n:=W.heap.size) hb;(try clear zB z0 z1 zf zL zN);obtain ⟨zB,z0,z1,zf,zL,zN⟩:=zd;have B1:Hid (Below W.heap.size W w1):=bstep (by repeat (first|exact Below.refl _ _|refine Below.setCell ?_ (by simp;try omega) _|refine Below.alloc ?_ (by simp;try omega) _|refine Below.drew ?_)) hb;clear hb HC)
          | (go_at_call 35;refine (HP.out _).mono ?_;rintro e w2 ⟨rfl,hb⟩;have zd:=kp2 (n:=W.heap.size) hb;(try clear zB z0 z1 zf zL zN);obtain ⟨zB,z0,z1,zf,zL,zN⟩:=zd;have B2:Hid (Below W.heap.size W w2):=bstep B1.out hb;clear hb HP)
          | (go_at_call 200;refine (HT.out _ (B2.out.alloc B2.out.size _)).mono ?_;rintro e w3 ⟨rfl,hb⟩;have zd:=kp2 (n:=W.heap.size) hb;(try clear zB z0 z1 zf zL zN);obtain ⟨zB,z0,z1,zf,zL,zN⟩:=zd;have B3:Hid (Below W.heap.size W w3):=bstep (B2.out.alloc B2.out.size _) hb;clear hb HT)
          | (go_at_call 134;refine (HS.out _).mono ?_;rintro e w9 ⟨rfl,hw9⟩;rw [hw9];clear hw9 w9))
        exact bodyPost_ret (v:=tyE ((0,⟨#[]⟩),sh)) (by simp [results,Tryz.results132,go_sem,tyE, *]) rfl ⟨rfl,(by repeat (first|exact B3.out|refine Below.setCell ?_ (by simp;try omega) _|refine Below.alloc ?_ (by have:=B3.out.size;simp;try omega) _|refine Below.drew ?_))⟩
    · rw [if_neg h1]
      go_enter Tryz.func132,Tryz.ntmps132
      go_wp2_with (first
        | (go_at_call 131;refine (HC.out _ (by repeat (first|exact Below.refl _ _|refine Below.setCell ?_ (by simp;try omega) _|refine Below.alloc ?_ (by simp;try omega) _|refine Below.drew ?_))).mono ?_;rintro e w1 ⟨rfl,hb⟩;have zd:=kp2 (n:=W.heap.size) hb;(try clear zB z0 z1 zf zL zN);obtain ⟨zB,z0,z1,zf,zL,zN⟩:=zd;have B1:Hid (Below W.heap.size W w1):=bstep (by repeat (first|exact Below.refl _ _|refine Below.setCell ?_ (by simp;try omega) _|refine Below.alloc ?_ (by simp;try omega) _|refine Below.drew ?_)) hb;clear hb HC)
        | (go_at_call 35;refine (HP.out _).mono ?_;rintro e w2 ⟨rfl,hb⟩;have zd:=kp2 (n:=W.heap.size) hb;(try clear zB z0 z1 zf zL zN);obtain ⟨zB,z0,z1,zf,zL,zN⟩:=zd;have B2:Hid (Below W.heap.size W w2):=bstep B1.out hb;clear hb HP))
      exact bodyPost_ret (v:=tyE ((0,⟨#[]⟩),4)) (by simp [results,Tryz.results132,go_sem,tyE, *]) rfl ⟨rfl,(by repeat (first|exact B2.out|refine Below.setCell ?_ (by simp;try omega) _|refine Below.alloc ?_ (by have:=B2.out.size;simp;try omega) _|refine Below.drew ?_))⟩
  · rw [if_neg h0]
    go_enter Tryz.func132,Tryz.ntmps132
    go_wp2_with (first
      | (go_at_call 131;refine (HC.out _ (by repeat (first|exact Below.refl _ _|refine Below.setCell ?_ (by simp;try omega) _|refine Below.alloc ?_ (by simp;try omega) _|refine Below.drew ?_))).mono ?_;rintro e w2 ⟨rfl,hb⟩;have zd:=kp2 (n:=W.heap.size) hb;(try clear zB z0 z1 zf zL zN);obtain ⟨zB,z0,z1,zf,zL,zN⟩:=zd;have B2:Hid (Below W.heap.size W w2):=bstep (by repeat (first|exact Below.refl _ _|refine Below.setCell ?_ (by simp;try omega) _|refine Below.alloc ?_ (by simp;try omega) _|refine Below.drew ?_)) hb;clear hb HC))
    exact bodyPost_ret (v:=tyE ((0,⟨#[]⟩),ck)) (by simp [results,Tryz.results132,go_sem,tyE, *]) rfl ⟨rfl,(by repeat (first|exact B2.out|refine Below.setCell ?_ (by simp;try omega) _|refine Below.alloc ?_ (by have:=B2.out.size;simp;try omega) _|refine Below.drew ?_))⟩
def hldR (ps:List Plc) (x:Int) (s:ByteArray):Int×Int:=if ldI ps x s=0 then (if intB x s then (0,2) else if 0<x then (0,0) else match lookL ps s.data.toList with
  | some k=>((k:Int),0)
  | none=>(0,6)) else (0,ldI ps x s)
set_option maxHeartbeats 1000000 in
theorem hld_c {b:Nat} {ps:List Plc} {W:World} (h:WAt b ps W) (x:Int) (s:ByteArray) (hs:s.size≤maxLen):Calls Tryz.prog 78 #[.pointer (some ⟨b,0,none⟩),.agg #[.int .i64 x,.string s]] W fun e w'=>e=.returned (.tuple #[.int .i64 (hldR ps x s).1,.int .i64 (hldR ps x s).2])∧Below W.heap.size W w':=by
  have HL:Hid (∀ w,Below W.heap.size W w→Calls Tryz.prog 138 #[.pointer (some ⟨b,0,none⟩),.agg #[.int .i64 x,.string s]] w fun e w'=>e=.returned (.int .i64 (ldI ps x s))∧Below w.heap.size w w'):=fun w hb=>loaded_c (h.below hb) x s hs
  have HI:Hid (∀ w:World,Calls Tryz.prog 139 #[.agg #[.int .i64 x,.string s]] w fun e w'=>e=.returned (.bool (intB x s))∧Below w.heap.size w w'):=isInt_c x s
  have HN:Hid (∀ w:World,Below W.heap.size W w→Calls Tryz.prog 140 #[.pointer (some ⟨b,0,none⟩),.string s] w fun e w'=>e=.returned (bnV (lookL ps s.data.toList))∧Below w.heap.size w w'):=fun w hb=>byName_c (h.below hb) s hs
  unfold hldR
  generalize ldI ps x s=ld at *
  generalize intB x s=iB at *
  generalize lookL ps s.data.toList=lk at *
  clear h hs
  by_cases h0:ld=0
  · subst h0
    rw [if_pos rfl]
    cases iB with
    | true =>
      rw [if_pos rfl]
      go_enter Tryz.func78,Tryz.ntmps78
      go_wp2_with (first
        | (go_at_call 138;refine (HL.out _ (by repeat (first|exact Below.refl _ _|refine Below.setCell ?_ (by simp;try omega) _|refine Below.alloc ?_ (by simp;try omega) _|refine Below.drew ?_))).mono ?_;rintro e w1 ⟨rfl,hb⟩;have gd:=kp2 (n:=W.heap.size) hb;(try clear gB g0 g1 gf gL gN);obtain ⟨gB,g0,g1,gf,gL,gN⟩:=gd;have B1:Hid (Below W.heap.size W w1):=bstep (by repeat (first|exact Below.refl _ _|refine Below.setCell ?_ (by simp;try omega) _|refine Below.alloc ?_ (by simp;try omega) _|refine Below.drew ?_)) hb;clear hb HL)
        | (go_at_call 139;refine (HI.out _).mono ?_;rintro e w2 ⟨rfl,hb⟩;have B2:Hid (Below W.heap.size W w2):=bstep B1.out hb;clear hb HI))
      exact bodyPost_ret (results_tmp2 rfl _ _ _) rfl ⟨rfl,B2.out⟩
    | false =>
      rw [if_neg (by simp)]
      by_cases hx:0<x
      · rw [if_pos hx]
        go_enter Tryz.func78,Tryz.ntmps78
        go_wp2_with (first
          | (go_at_call 138;refine (HL.out _ (by repeat (first|exact Below.refl _ _|refine Below.setCell ?_ (by simp;try omega) _|refine Below.alloc ?_ (by simp;try omega) _|refine Below.drew ?_))).mono ?_;rintro e w1 ⟨rfl,hb⟩;have gd:=kp2 (n:=W.heap.size) hb;(try clear gB g0 g1 gf gL gN);obtain ⟨gB,g0,g1,gf,gL,gN⟩:=gd;have B1:Hid (Below W.heap.size W w1):=bstep (by repeat (first|exact Below.refl _ _|refine Below.setCell ?_ (by simp;try omega) _|refine Below.alloc ?_ (by simp;try omega) _|refine Below.drew ?_)) hb;clear hb HL)
          | (go_at_call 139;refine (HI.out _).mono ?_;rintro e w2 ⟨rfl,hb⟩;have gd:=kp2 (n:=W.heap.size) hb;(try clear gB g0 g1 gf gL gN);obtain ⟨gB,g0,g1,gf,gL,gN⟩:=gd;have B2:Hid (Below W.heap.size W w2):=bstep B1.out hb;clear hb HI))
        exact bodyPost_ret (results_tmp2 rfl _ _ _) rfl ⟨rfl,B2.out⟩
      · rw [if_neg hx]
        cases lk with
        | none =>
          simp only [bnV] at HN
          go_enter Tryz.func78,Tryz.ntmps78
          go_wp2_with (first
            | (go_at_call 138;refine (HL.out _ (by repeat (first|exact Below.refl _ _|refine Below.setCell ?_ (by simp;try omega) _|refine Below.alloc ?_ (by simp;try omega) _|refine Below.drew ?_))).mono ?_;rintro e w1 ⟨rfl,hb⟩;have gd:=kp2 (n:=W.heap.size) hb;(try clear gB g0 g1 gf gL gN);obtain ⟨gB,g0,g1,gf,gL,gN⟩:=gd;have B1:Hid (Below W.heap.size W w1):=bstep (by repeat (first|exact Below.refl _ _|refine Below.setCell ?_ (by simp;try omega) _|refine Below.alloc ?_ (by simp;try omega) _|refine Below.drew ?_)) hb;clear hb HL)
            | (go_at_call 139;refine (HI.out _).mono ?_;rintro e w2 ⟨rfl,hb⟩;have gd:=kp2 (n:=W.heap.size) hb;(try clear gB g0 g1 gf gL gN);obtain ⟨gB,g0,g1,gf,gL,gN⟩:=gd;have B2:Hid (Below W.heap.size W w2):=bstep B1.out hb;clear hb HI)
            | (go_at_call 140;refine (HN.out _ B2.out).mono ?_;rintro e w3 ⟨rfl,hb⟩;have B3:Hid (Below W.heap.size W w3):=bstep B2.out hb;clear hb HN))
          exact bodyPost_ret (results_tmp2 rfl _ _ _) rfl ⟨rfl,B3.out⟩
        | some k =>
          simp only [bnV] at HN
          go_enter Tryz.func78,Tryz.ntmps78
          go_wp2_with (first
            | (go_at_call 138;refine (HL.out _ (by repeat (first|exact Below.refl _ _|refine Below.setCell ?_ (by simp;try omega) _|refine Below.alloc ?_ (by simp;try omega) _|refine Below.drew ?_))).mono ?_;rintro e w1 ⟨rfl,hb⟩;have gd:=kp2 (n:=W.heap.size) hb;(try clear gB g0 g1 gf gL gN);obtain ⟨gB,g0,g1,gf,gL,gN⟩:=gd;have B1:Hid (Below W.heap.size W w1):=bstep (by repeat (first|exact Below.refl _ _|refine Below.setCell ?_ (by simp;try omega) _|refine Below.alloc ?_ (by simp;try omega) _|refine Below.drew ?_)) hb;clear hb HL)
            | (go_at_call 139;refine (HI.out _).mono ?_;rintro e w2 ⟨rfl,hb⟩;have gd:=kp2 (n:=W.heap.size) hb;(try clear gB g0 g1 gf gL gN);obtain ⟨gB,g0,g1,gf,gL,gN⟩:=gd;have B2:Hid (Below W.heap.size W w2):=bstep B1.out hb;clear hb HI)
            | (go_at_call 140;refine (HN.out _ B2.out).mono ?_;rintro e w3 ⟨rfl,hb⟩;have B3:Hid (Below W.heap.size W w3):=bstep B2.out hb;clear hb HN))
          exact bodyPost_ret (results_tmp2 rfl _ _ _) rfl ⟨rfl,B3.out⟩
  · rw [if_neg h0]
    go_enter Tryz.func78,Tryz.ntmps78
    go_wp2_with (first
      | (go_at_call 138;refine (HL.out _ (by repeat (first|exact Below.refl _ _|refine Below.setCell ?_ (by simp;try omega) _|refine Below.alloc ?_ (by simp;try omega) _|refine Below.drew ?_))).mono ?_;rintro e w1 ⟨rfl,hb⟩;have gd:=kp2 (n:=W.heap.size) hb;(try clear gB g0 g1 gf gL gN);obtain ⟨gB,g0,g1,gf,gL,gN⟩:=gd;have B1:Hid (Below W.heap.size W w1):=bstep (by repeat (first|exact Below.refl _ _|refine Below.setCell ?_ (by simp;try omega) _|refine Below.alloc ?_ (by simp;try omega) _|refine Below.drew ?_)) hb;clear hb HL))
    exact bodyPost_ret (results_tmp2 rfl _ _ _) rfl ⟨rfl,B1.out⟩
def moP (ps:List Plc) (d c i n:Int):Bool×Int:=match plcI ps d,plcI ps n,plcI ps c,methI ps c i with
  | some p,some _,some q,some m=>(mOpen ps d c n m.fl (samePk q p),0)
  | _,_,_,_=>(false,3)
theorem moI_eq (ps:List Plc) (d c i n:Int):moI ps d c i n=.tuple #[.bool (moP ps d c i n).1,.int .i64 (moP ps d c i n).2]:=by
  unfold moI moP
  cases plcI ps d <;> cases plcI ps n <;> cases plcI ps c <;> cases methI ps c i <;> rfl
def metS (ps:List Plc) (d:Int) (y:Bool) (c n ds:ByteArray):(Int×Int)×Int :=
  if (clsR ps d c.data.toList).2=0 then
    (if (hldR ps (clsR ps d c.data.toList).1.1 (clsR ps d c.data.toList).1.2).2=0 then
      (if (lbyR ps y n ds (hldR ps (clsR ps d c.data.toList).1.1 (clsR ps d c.data.toList).1.2).1).2=0 then
        (if shuI (moP ps d (lbyR ps y n ds (hldR ps (clsR ps d c.data.toList).1.1 (clsR ps d c.data.toList).1.2).1).1.1 (lbyR ps y n ds (hldR ps (clsR ps d c.data.toList).1.1 (clsR ps d c.data.toList).1.2).1).1.2 (hldR ps (clsR ps d c.data.toList).1.1 (clsR ps d c.data.toList).1.2).1).1 (moP ps d (lbyR ps y n ds (hldR ps (clsR ps d c.data.toList).1.1 (clsR ps d c.data.toList).1.2).1).1.1 (lbyR ps y n ds (hldR ps (clsR ps d c.data.toList).1.1 (clsR ps d c.data.toList).1.2).1).1.2 (hldR ps (clsR ps d c.data.toList).1.1 (clsR ps d c.data.toList).1.2).1).2=0 then ((lbyR ps y n ds (hldR ps (clsR ps d c.data.toList).1.1 (clsR ps d c.data.toList).1.2).1).1,0)
          else ((0,0),shuI (moP ps d (lbyR ps y n ds (hldR ps (clsR ps d c.data.toList).1.1 (clsR ps d c.data.toList).1.2).1).1.1 (lbyR ps y n ds (hldR ps (clsR ps d c.data.toList).1.1 (clsR ps d c.data.toList).1.2).1).1.2 (hldR ps (clsR ps d c.data.toList).1.1 (clsR ps d c.data.toList).1.2).1).1 (moP ps d (lbyR ps y n ds (hldR ps (clsR ps d c.data.toList).1.1 (clsR ps d c.data.toList).1.2).1).1.1 (lbyR ps y n ds (hldR ps (clsR ps d c.data.toList).1.1 (clsR ps d c.data.toList).1.2).1).1.2 (hldR ps (clsR ps d c.data.toList).1.1 (clsR ps d c.data.toList).1.2).1).2))
        else ((0,0),(lbyR ps y n ds (hldR ps (clsR ps d c.data.toList).1.1 (clsR ps d c.data.toList).1.2).1).2))
      else ((0,0),(hldR ps (clsR ps d c.data.toList).1.1 (clsR ps d c.data.toList).1.2).2))
    else ((0,0),(clsR ps d c.data.toList).2)
def metR (ps:List Plc) (d:Int) (y:Bool) (c n ds:ByteArray):(Int×Int)×Int :=
  if rckI ps d=0 then (if rckE c.data.toList n.data.toList ds.data.toList=0 then metS ps d y c n ds else ((0,0),1)) else ((0,0),rckI ps d)
theorem cls_size (ps:List Plc) (d:Int) (l:List UInt8):(clsR ps d l).1.2.size≤maxLen:=by
  unfold clsR
  split
  · split
    · rename_i h0
      split
      · have hl:=(prf_len2 _ h0).1
        have:(tyS l).size=(prfT l).2.length:=by simp [tyS,ByteArray.size]
        show (tyS l).size≤_
        rw [this];unfold maxLen;omega
      · exact Nat.zero_le _
    · exact Nat.zero_le _
  · exact Nat.zero_le _
set_option maxHeartbeats 4000000 in
theorem met_c {b:Nat} {ps:List Plc} {W:World} (h:WAt b ps W) (hi:WI ps) (d:Int) (y:Bool) (c n ds:ByteArray) (hc:c.size≤maxLen) (hn:n.size≤maxLen) (hd:ds.size≤maxLen):Calls Tryz.prog 75 #[.pointer (some ⟨b,0,none⟩),.int .i64 d,.agg #[.bool y,.string c,.string n,.string ds]] W fun e w'=>e=.returned (idE (metR ps d y c n ds))∧Below W.heap.size W w':=by
  have HC:Hid (∀ w,Below W.heap.size W w→Calls Tryz.prog 131 #[.pointer (some ⟨b,0,none⟩),.int .i64 d] w fun e w'=>e=.returned (.int .i64 (rckI ps d))∧Below w.heap.size w w'):=fun w hb=>(rck_c (h.below hb) d).mono fun e w' zz=>⟨zz.1,by rw [zz.2];exact Below.refl _ _⟩
  have HR:Hid (∀ w:World,Calls Tryz.prog 17 #[.agg #[.bool y,.string c,.string n,.string ds]] w fun e w'=>e=.returned (.int .i64 (rckE c.data.toList n.data.toList ds.data.toList))∧Below w.heap.size w w'):=refCheck_any y c n ds hc hn hd
  have HK:Hid (∀ w,Below W.heap.size W w→Calls Tryz.prog 132 #[.pointer (some ⟨b,0,none⟩),.int .i64 d,.string c] w fun e w'=>e=.returned (tyE (clsR ps d c.data.toList))∧Below w.heap.size w w'):=fun w hb=>cls_c (h.below hb) hi d c hc
  have hsz:=cls_size ps d c.data.toList
  have HS:Hid (∀ o x (w:World),Calls Tryz.prog 134 #[.bool o,.int .i64 x] w fun e w'=>e=.returned (.int .i64 (shuI o x))∧w'=w):=shut_c
  unfold metR metS
  generalize clsR ps d c.data.toList=K at *
  obtain ⟨⟨t1,t2⟩,t3⟩:=K
  simp only [tyE] at HK hsz ⊢
  have HH:Hid (∀ w,Below W.heap.size W w→Calls Tryz.prog 78 #[.pointer (some ⟨b,0,none⟩),.agg #[.int .i64 t1,.string t2]] w fun e w'=>e=.returned (.tuple #[.int .i64 (hldR ps t1 t2).1,.int .i64 (hldR ps t1 t2).2])∧Below w.heap.size w w'):=fun w hb=>hld_c (h.below hb) t1 t2 hsz
  generalize hldR ps t1 t2=H at *
  obtain ⟨h1,h2⟩:=H
  simp only at HH ⊢
  have HB:Hid (∀ w,Below W.heap.size W w→Calls Tryz.prog 133 #[.pointer (some ⟨b,0,none⟩),.int .i64 h1,.agg #[.bool y,.string c,.string n,.string ds]] w fun e w'=>e=.returned (idE (lbyR ps y n ds h1))∧Below w.heap.size w w'):=fun w hb=>lby_c (h.below hb) hi h1 y c n ds
  generalize lbyR ps y n ds h1=M at *
  obtain ⟨⟨m1,m2⟩,m3⟩:=M
  simp only [idE] at HB ⊢
  have HO:Hid (∀ w,Below W.heap.size W w→Calls Tryz.prog 135 #[.pointer (some ⟨b,0,none⟩),.int .i64 d,.agg #[.int .i64 m1,.int .i64 m2],.int .i64 h1] w fun e w'=>e=.returned (.tuple #[.bool (moP ps d m1 m2 h1).1,.int .i64 (moP ps d m1 m2 h1).2])∧Below w.heap.size w w'):=fun w hb=>(methodOpen_c (h.below hb) hi d m1 m2 h1).mono fun e w' zz=>⟨by rw [zz.1,moI_eq],zz.2⟩
  generalize moP ps d m1 m2 h1=O at *
  obtain ⟨o1,o2⟩:=O
  simp only at HO ⊢
  replace HS:Hid (∀ (w:World),Calls Tryz.prog 134 #[.bool o1,.int .i64 o2] w fun e w'=>e=.returned (.int .i64 (shuI o1 o2))∧w'=w):=HS.out o1 o2
  generalize shuI o1 o2=sh at *
  generalize rckI ps d=ck at *
  generalize rckE c.data.toList n.data.toList ds.data.toList=rc at *
  clear h hi hc hn hd hsz
  by_cases h0:ck=0
  · subst h0
    rw [if_pos rfl]
    by_cases h3:rc=0
    · subst h3
      rw [if_pos rfl]
      by_cases h4:t3=0
      · subst h4
        rw [if_pos rfl]
        by_cases h5:h2=0
        · subst h5
          rw [if_pos rfl]
          by_cases h6:m3=0
          · subst h6
            rw [if_pos rfl]
            by_cases h7:sh=0
            · subst h7
              rw [if_pos rfl]
              go_enter Tryz.func75,Tryz.ntmps75
              go_wp2_with (first
                | (go_at_call 131;refine (HC.out _ (by repeat (first|exact Below.refl _ _|refine Below.setCell ?_ (by simp;try omega) _|refine Below.alloc ?_ (by simp;try omega) _|refine Below.drew ?_))).mono ?_;rintro e w1 ⟨rfl,hb⟩;have rd:=kp4 (n:=W.heap.size) hb;(try clear rB r0 r1 r2 r3 rf rL rN);obtain ⟨rB,r0,r1,r2,r3,rf,rL,rN⟩:=rd;have zd:=kp2 (n:=W.heap.size+1) hb;(try clear zB z0 z1 zf zL zN);obtain ⟨zB,z0,z1,zf,zL,zN⟩:=zd;have B1:Hid (Below W.heap.size W w1):=bstep (by repeat (first|exact Below.refl _ _|refine Below.setCell ?_ (by simp;try omega) _|refine Below.alloc ?_ (by simp;try omega) _|refine Below.drew ?_)) hb;clear hb HC)
                | (go_at_call 17;refine (HR.out _).mono ?_;rintro e w2 ⟨rfl,hb⟩;have rd:=kp4 (n:=W.heap.size) hb;(try clear rB r0 r1 r2 r3 rf rL rN);obtain ⟨rB,r0,r1,r2,r3,rf,rL,rN⟩:=rd;have zd:=kp2 (n:=W.heap.size+1) hb;(try clear zB z0 z1 zf zL zN);obtain ⟨zB,z0,z1,zf,zL,zN⟩:=zd;have B2:Hid (Below W.heap.size W w2):=bstep B1.out hb;clear hb HR)
                | (go_at_call 132;refine (HK.out _ B2.out).mono ?_;rintro e w3 ⟨rfl,hb⟩;have rd:=kp4 (n:=W.heap.size) hb;(try clear rB r0 r1 r2 r3 rf rL rN);obtain ⟨rB,r0,r1,r2,r3,rf,rL,rN⟩:=rd;have zd:=kp2 (n:=W.heap.size+1) hb;(try clear zB z0 z1 zf zL zN);obtain ⟨zB,z0,z1,zf,zL,zN⟩:=zd;have B3:Hid (Below W.heap.size W w3):=bstep B2.out hb;clear hb HK)
                | (go_at_call 78;refine (HH.out _ (B3.out.alloc B3.out.size _)).mono ?_;rintro e w4 ⟨rfl,hb⟩;have rd:=kp4 (n:=W.heap.size) hb;(try clear rB r0 r1 r2 r3 rf rL rN);obtain ⟨rB,r0,r1,r2,r3,rf,rL,rN⟩:=rd;have zd:=kp2 (n:=W.heap.size+1) hb;(try clear zB z0 z1 zf zL zN);obtain ⟨zB,z0,z1,zf,zL,zN⟩:=zd;have B4:Hid (Below W.heap.size W w4):=bstep (B3.out.alloc B3.out.size _) hb;clear hb HH)
                | (go_at_call 133;refine (HB.out _ B4.out).mono ?_;rintro e w5 ⟨rfl,hb⟩;have zd:=kp2 (n:=W.heap.size+1) hb;(try clear zB z0 z1 zf zL zN);obtain ⟨zB,z0,z1,zf,zL,zN⟩:=zd;have B5:Hid (Below W.heap.size W w5):=bstep B4.out hb;clear hb HB)
                | (go_at_call 135;refine (HO.out _ (B5.out.alloc B5.out.size _)).mono ?_;rintro e w6 ⟨rfl,hb⟩;have hn6:¬ w5.heap.size=W.heap.size+1:=(by omega);have hm6:¬ W.heap.size+1=w5.heap.size:=(by omega);have zd:=kp2 (n:=W.heap.size+1) hb;(try clear zB z0 z1 zf zL zN);obtain ⟨zB,z0,z1,zf,zL,zN⟩:=zd;have gd:=kp2 (n:=w5.heap.size) hb;(try clear gB g0 g1 gf gL gN);obtain ⟨gB,g0,g1,gf,gL,gN⟩:=gd;have B6:Hid (Below W.heap.size W w6):=bstep (B5.out.alloc B5.out.size _) hb;clear hb HO)
                | (go_at_call 134;refine (HS.out _).mono ?_;rintro e w9 ⟨rfl,hw9⟩;rw [hw9];clear hw9 w9))
              exact bodyPost_ret (v:=idE ((m1,m2),0)) (by simp [results,Tryz.results75,go_sem,idE, *]) rfl ⟨rfl,(by repeat (first|exact B6.out|refine Below.setCell ?_ (by simp;try omega) _|refine Below.alloc ?_ (by have:=B6.out.size;simp;try omega) _|refine Below.drew ?_))⟩
            · rw [if_neg h7]
              go_enter Tryz.func75,Tryz.ntmps75
              go_wp2_with (first
                | (go_at_call 131;refine (HC.out _ (by repeat (first|exact Below.refl _ _|refine Below.setCell ?_ (by simp;try omega) _|refine Below.alloc ?_ (by simp;try omega) _|refine Below.drew ?_))).mono ?_;rintro e w1 ⟨rfl,hb⟩;have rd:=kp4 (n:=W.heap.size) hb;(try clear rB r0 r1 r2 r3 rf rL rN);obtain ⟨rB,r0,r1,r2,r3,rf,rL,rN⟩:=rd;have zd:=kp2 (n:=W.heap.size+1) hb;(try clear zB z0 z1 zf zL zN);obtain ⟨zB,z0,z1,zf,zL,zN⟩:=zd;have B1:Hid (Below W.heap.size W w1):=bstep (by repeat (first|exact Below.refl _ _|refine Below.setCell ?_ (by simp;try omega) _|refine Below.alloc ?_ (by simp;try omega) _|refine Below.drew ?_)) hb;clear hb HC)
                | (go_at_call 17;refine (HR.out _).mono ?_;rintro e w2 ⟨rfl,hb⟩;have rd:=kp4 (n:=W.heap.size) hb;(try clear rB r0 r1 r2 r3 rf rL rN);obtain ⟨rB,r0,r1,r2,r3,rf,rL,rN⟩:=rd;have zd:=kp2 (n:=W.heap.size+1) hb;(try clear zB z0 z1 zf zL zN);obtain ⟨zB,z0,z1,zf,zL,zN⟩:=zd;have B2:Hid (Below W.heap.size W w2):=bstep B1.out hb;clear hb HR)
                | (go_at_call 132;refine (HK.out _ B2.out).mono ?_;rintro e w3 ⟨rfl,hb⟩;have rd:=kp4 (n:=W.heap.size) hb;(try clear rB r0 r1 r2 r3 rf rL rN);obtain ⟨rB,r0,r1,r2,r3,rf,rL,rN⟩:=rd;have zd:=kp2 (n:=W.heap.size+1) hb;(try clear zB z0 z1 zf zL zN);obtain ⟨zB,z0,z1,zf,zL,zN⟩:=zd;have B3:Hid (Below W.heap.size W w3):=bstep B2.out hb;clear hb HK)
                | (go_at_call 78;refine (HH.out _ (B3.out.alloc B3.out.size _)).mono ?_;rintro e w4 ⟨rfl,hb⟩;have rd:=kp4 (n:=W.heap.size) hb;(try clear rB r0 r1 r2 r3 rf rL rN);obtain ⟨rB,r0,r1,r2,r3,rf,rL,rN⟩:=rd;have zd:=kp2 (n:=W.heap.size+1) hb;(try clear zB z0 z1 zf zL zN);obtain ⟨zB,z0,z1,zf,zL,zN⟩:=zd;have B4:Hid (Below W.heap.size W w4):=bstep (B3.out.alloc B3.out.size _) hb;clear hb HH)
                | (go_at_call 133;refine (HB.out _ B4.out).mono ?_;rintro e w5 ⟨rfl,hb⟩;have zd:=kp2 (n:=W.heap.size+1) hb;(try clear zB z0 z1 zf zL zN);obtain ⟨zB,z0,z1,zf,zL,zN⟩:=zd;have B5:Hid (Below W.heap.size W w5):=bstep B4.out hb;clear hb HB)
                | (go_at_call 135;refine (HO.out _ (B5.out.alloc B5.out.size _)).mono ?_;rintro e w6 ⟨rfl,hb⟩;have hn6:¬ w5.heap.size=W.heap.size+1:=(by omega);have hm6:¬ W.heap.size+1=w5.heap.size:=(by omega);have zd:=kp2 (n:=W.heap.size+1) hb;(try clear zB z0 z1 zf zL zN);obtain ⟨zB,z0,z1,zf,zL,zN⟩:=zd;have gd:=kp2 (n:=w5.heap.size) hb;(try clear gB g0 g1 gf gL gN);obtain ⟨gB,g0,g1,gf,gL,gN⟩:=gd;have B6:Hid (Below W.heap.size W w6):=bstep (B5.out.alloc B5.out.size _) hb;clear hb HO)
                | (go_at_call 134;refine (HS.out _).mono ?_;rintro e w9 ⟨rfl,hw9⟩;rw [hw9];clear hw9 w9))
              exact bodyPost_ret (v:=idE ((0,0),sh)) (by simp [results,Tryz.results75,go_sem,idE, *]) rfl ⟨rfl,(by repeat (first|exact B6.out|refine Below.setCell ?_ (by simp;try omega) _|refine Below.alloc ?_ (by have:=B6.out.size;simp;try omega) _|refine Below.drew ?_))⟩
          · rw [if_neg h6]
            go_enter Tryz.func75,Tryz.ntmps75
            go_wp2_with (first
              | (go_at_call 131;refine (HC.out _ (by repeat (first|exact Below.refl _ _|refine Below.setCell ?_ (by simp;try omega) _|refine Below.alloc ?_ (by simp;try omega) _|refine Below.drew ?_))).mono ?_;rintro e w1 ⟨rfl,hb⟩;have rd:=kp4 (n:=W.heap.size) hb;(try clear rB r0 r1 r2 r3 rf rL rN);obtain ⟨rB,r0,r1,r2,r3,rf,rL,rN⟩:=rd;have zd:=kp2 (n:=W.heap.size+1) hb;(try clear zB z0 z1 zf zL zN);obtain ⟨zB,z0,z1,zf,zL,zN⟩:=zd;have B1:Hid (Below W.heap.size W w1):=bstep (by repeat (first|exact Below.refl _ _|refine Below.setCell ?_ (by simp;try omega) _|refine Below.alloc ?_ (by simp;try omega) _|refine Below.drew ?_)) hb;clear hb HC)
              | (go_at_call 17;refine (HR.out _).mono ?_;rintro e w2 ⟨rfl,hb⟩;have rd:=kp4 (n:=W.heap.size) hb;(try clear rB r0 r1 r2 r3 rf rL rN);obtain ⟨rB,r0,r1,r2,r3,rf,rL,rN⟩:=rd;have zd:=kp2 (n:=W.heap.size+1) hb;(try clear zB z0 z1 zf zL zN);obtain ⟨zB,z0,z1,zf,zL,zN⟩:=zd;have B2:Hid (Below W.heap.size W w2):=bstep B1.out hb;clear hb HR)
              | (go_at_call 132;refine (HK.out _ B2.out).mono ?_;rintro e w3 ⟨rfl,hb⟩;have rd:=kp4 (n:=W.heap.size) hb;(try clear rB r0 r1 r2 r3 rf rL rN);obtain ⟨rB,r0,r1,r2,r3,rf,rL,rN⟩:=rd;have zd:=kp2 (n:=W.heap.size+1) hb;(try clear zB z0 z1 zf zL zN);obtain ⟨zB,z0,z1,zf,zL,zN⟩:=zd;have B3:Hid (Below W.heap.size W w3):=bstep B2.out hb;clear hb HK)
              | (go_at_call 78;refine (HH.out _ (B3.out.alloc B3.out.size _)).mono ?_;rintro e w4 ⟨rfl,hb⟩;have rd:=kp4 (n:=W.heap.size) hb;(try clear rB r0 r1 r2 r3 rf rL rN);obtain ⟨rB,r0,r1,r2,r3,rf,rL,rN⟩:=rd;have zd:=kp2 (n:=W.heap.size+1) hb;(try clear zB z0 z1 zf zL zN);obtain ⟨zB,z0,z1,zf,zL,zN⟩:=zd;have B4:Hid (Below W.heap.size W w4):=bstep (B3.out.alloc B3.out.size _) hb;clear hb HH)
              | (go_at_call 133;refine (HB.out _ B4.out).mono ?_;rintro e w5 ⟨rfl,hb⟩;have zd:=kp2 (n:=W.heap.size+1) hb;(try clear zB z0 z1 zf zL zN);obtain ⟨zB,z0,z1,zf,zL,zN⟩:=zd;have B5:Hid (Below W.heap.size W w5):=bstep B4.out hb;clear hb HB))
            exact bodyPost_ret (v:=idE ((0,0),m3)) (by simp [results,Tryz.results75,go_sem,idE, *]) rfl ⟨rfl,(by repeat (first|exact B5.out|refine Below.setCell ?_ (by simp;try omega) _|refine Below.alloc ?_ (by have:=B5.out.size;simp;try omega) _|refine Below.drew ?_))⟩
        · rw [if_neg h5]
          go_enter Tryz.func75,Tryz.ntmps75
          go_wp2_with (first
            | (go_at_call 131;refine (HC.out _ (by repeat (first|exact Below.refl _ _|refine Below.setCell ?_ (by simp;try omega) _|refine Below.alloc ?_ (by simp;try omega) _|refine Below.drew ?_))).mono ?_;rintro e w1 ⟨rfl,hb⟩;have rd:=kp4 (n:=W.heap.size) hb;(try clear rB r0 r1 r2 r3 rf rL rN);obtain ⟨rB,r0,r1,r2,r3,rf,rL,rN⟩:=rd;have zd:=kp2 (n:=W.heap.size+1) hb;(try clear zB z0 z1 zf zL zN);obtain ⟨zB,z0,z1,zf,zL,zN⟩:=zd;have B1:Hid (Below W.heap.size W w1):=bstep (by repeat (first|exact Below.refl _ _|refine Below.setCell ?_ (by simp;try omega) _|refine Below.alloc ?_ (by simp;try omega) _|refine Below.drew ?_)) hb;clear hb HC)
            | (go_at_call 17;refine (HR.out _).mono ?_;rintro e w2 ⟨rfl,hb⟩;have rd:=kp4 (n:=W.heap.size) hb;(try clear rB r0 r1 r2 r3 rf rL rN);obtain ⟨rB,r0,r1,r2,r3,rf,rL,rN⟩:=rd;have zd:=kp2 (n:=W.heap.size+1) hb;(try clear zB z0 z1 zf zL zN);obtain ⟨zB,z0,z1,zf,zL,zN⟩:=zd;have B2:Hid (Below W.heap.size W w2):=bstep B1.out hb;clear hb HR)
            | (go_at_call 132;refine (HK.out _ B2.out).mono ?_;rintro e w3 ⟨rfl,hb⟩;have rd:=kp4 (n:=W.heap.size) hb;(try clear rB r0 r1 r2 r3 rf rL rN);obtain ⟨rB,r0,r1,r2,r3,rf,rL,rN⟩:=rd;have zd:=kp2 (n:=W.heap.size+1) hb;(try clear zB z0 z1 zf zL zN);obtain ⟨zB,z0,z1,zf,zL,zN⟩:=zd;have B3:Hid (Below W.heap.size W w3):=bstep B2.out hb;clear hb HK)
            | (go_at_call 78;refine (HH.out _ (B3.out.alloc B3.out.size _)).mono ?_;rintro e w4 ⟨rfl,hb⟩;have rd:=kp4 (n:=W.heap.size) hb;(try clear rB r0 r1 r2 r3 rf rL rN);obtain ⟨rB,r0,r1,r2,r3,rf,rL,rN⟩:=rd;have zd:=kp2 (n:=W.heap.size+1) hb;(try clear zB z0 z1 zf zL zN);obtain ⟨zB,z0,z1,zf,zL,zN⟩:=zd;have B4:Hid (Below W.heap.size W w4):=bstep (B3.out.alloc B3.out.size _) hb;clear hb HH))
          exact bodyPost_ret (v:=idE ((0,0),h2)) (by simp [results,Tryz.results75,go_sem,idE, *]) rfl ⟨rfl,(by repeat (first|exact B4.out|refine Below.setCell ?_ (by simp;try omega) _|refine Below.alloc ?_ (by have:=B4.out.size;simp;try omega) _|refine Below.drew ?_))⟩
      · rw [if_neg h4]
        go_enter Tryz.func75,Tryz.ntmps75
        go_wp2_with (first
          | (go_at_call 131;refine (HC.out _ (by repeat (first|exact Below.refl _ _|refine Below.setCell ?_ (by simp;try omega) _|refine Below.alloc ?_ (by simp;try omega) _|refine Below.drew ?_))).mono ?_;rintro e w1 ⟨rfl,hb⟩;have rd:=kp4 (n:=W.heap.size) hb;(try clear rB r0 r1 r2 r3 rf rL rN);obtain ⟨rB,r0,r1,r2,r3,rf,rL,rN⟩:=rd;have zd:=kp2 (n:=W.heap.size+1) hb;(try clear zB z0 z1 zf zL zN);obtain ⟨zB,z0,z1,zf,zL,zN⟩:=zd;have B1:Hid (Below W.heap.size W w1):=bstep (by repeat (first|exact Below.refl _ _|refine Below.setCell ?_ (by simp;try omega) _|refine Below.alloc ?_ (by simp;try omega) _|refine Below.drew ?_)) hb;clear hb HC)
          | (go_at_call 17;refine (HR.out _).mono ?_;rintro e w2 ⟨rfl,hb⟩;have rd:=kp4 (n:=W.heap.size) hb;(try clear rB r0 r1 r2 r3 rf rL rN);obtain ⟨rB,r0,r1,r2,r3,rf,rL,rN⟩:=rd;have zd:=kp2 (n:=W.heap.size+1) hb;(try clear zB z0 z1 zf zL zN);obtain ⟨zB,z0,z1,zf,zL,zN⟩:=zd;have B2:Hid (Below W.heap.size W w2):=bstep B1.out hb;clear hb HR)
          | (go_at_call 132;refine (HK.out _ B2.out).mono ?_;rintro e w3 ⟨rfl,hb⟩;have rd:=kp4 (n:=W.heap.size) hb;(try clear rB r0 r1 r2 r3 rf rL rN);obtain ⟨rB,r0,r1,r2,r3,rf,rL,rN⟩:=rd;have zd:=kp2 (n:=W.heap.size+1) hb;(try clear zB z0 z1 zf zL zN);obtain ⟨zB,z0,z1,zf,zL,zN⟩:=zd;have B3:Hid (Below W.heap.size W w3):=bstep B2.out hb;clear hb HK))
        exact bodyPost_ret (v:=idE ((0,0),t3)) (by simp [results,Tryz.results75,go_sem,idE, *]) rfl ⟨rfl,(by repeat (first|exact B3.out|refine Below.setCell ?_ (by simp;try omega) _|refine Below.alloc ?_ (by have:=B3.out.size;simp;try omega) _|refine Below.drew ?_))⟩
    · rw [if_neg h3]
      go_enter Tryz.func75,Tryz.ntmps75
      go_wp2_with (first
        | (go_at_call 131;refine (HC.out _ (by repeat (first|exact Below.refl _ _|refine Below.setCell ?_ (by simp;try omega) _|refine Below.alloc ?_ (by simp;try omega) _|refine Below.drew ?_))).mono ?_;rintro e w1 ⟨rfl,hb⟩;have rd:=kp4 (n:=W.heap.size) hb;(try clear rB r0 r1 r2 r3 rf rL rN);obtain ⟨rB,r0,r1,r2,r3,rf,rL,rN⟩:=rd;have zd:=kp2 (n:=W.heap.size+1) hb;(try clear zB z0 z1 zf zL zN);obtain ⟨zB,z0,z1,zf,zL,zN⟩:=zd;have B1:Hid (Below W.heap.size W w1):=bstep (by repeat (first|exact Below.refl _ _|refine Below.setCell ?_ (by simp;try omega) _|refine Below.alloc ?_ (by simp;try omega) _|refine Below.drew ?_)) hb;clear hb HC)
        | (go_at_call 17;refine (HR.out _).mono ?_;rintro e w2 ⟨rfl,hb⟩;have rd:=kp4 (n:=W.heap.size) hb;(try clear rB r0 r1 r2 r3 rf rL rN);obtain ⟨rB,r0,r1,r2,r3,rf,rL,rN⟩:=rd;have zd:=kp2 (n:=W.heap.size+1) hb;(try clear zB z0 z1 zf zL zN);obtain ⟨zB,z0,z1,zf,zL,zN⟩:=zd;have B2:Hid (Below W.heap.size W w2):=bstep B1.out hb;clear hb HR))
      exact bodyPost_ret (v:=idE ((0,0),1)) (by simp [results,Tryz.results75,go_sem,idE, *]) rfl ⟨rfl,(by repeat (first|exact B2.out|refine Below.setCell ?_ (by simp;try omega) _|refine Below.alloc ?_ (by have:=B2.out.size;simp;try omega) _|refine Below.drew ?_))⟩
  · rw [if_neg h0]
    go_enter Tryz.func75,Tryz.ntmps75
    go_wp2_with (first
      | (go_at_call 131;refine (HC.out _ (by repeat (first|exact Below.refl _ _|refine Below.setCell ?_ (by simp;try omega) _|refine Below.alloc ?_ (by simp;try omega) _|refine Below.drew ?_))).mono ?_;rintro e w1 ⟨rfl,hb⟩;have rd:=kp4 (n:=W.heap.size) hb;(try clear rB r0 r1 r2 r3 rf rL rN);obtain ⟨rB,r0,r1,r2,r3,rf,rL,rN⟩:=rd;have zd:=kp2 (n:=W.heap.size+1) hb;(try clear zB z0 z1 zf zL zN);obtain ⟨zB,z0,z1,zf,zL,zN⟩:=zd;have B1:Hid (Below W.heap.size W w1):=bstep (by repeat (first|exact Below.refl _ _|refine Below.setCell ?_ (by simp;try omega) _|refine Below.alloc ?_ (by simp;try omega) _|refine Below.drew ?_)) hb;clear hb HC))
    exact bodyPost_ret (v:=idE ((0,0),ck)) (by simp [results,Tryz.results75,go_sem,idE, *]) rfl ⟨rfl,(by repeat (first|exact B1.out|refine Below.setCell ?_ (by simp;try omega) _|refine Below.alloc ?_ (by have:=B1.out.size;simp;try omega) _|refine Below.drew ?_))⟩
theorem cck_c {b:Nat} {ps:List Plc} {W:World} (h:WAt b ps W) (i:Int):Calls Tryz.prog 129 #[.pointer (some ⟨b,0,none⟩),.int .i64 i] W fun e w'=>e=.returned (.int .i64 (rckI ps i))∧w'=W:=by
  have HL:Hid (Calls Tryz.prog 199 #[.pointer (some ⟨b,0,none⟩)] W fun e w'=>e=.returned (.int .i64 (ps.length:Int))∧w'=W):=len_c h
  rcases plcI_cases ps i with ⟨h1,h2⟩|⟨k,q,rfl,h2,h1⟩
  · have e:rckI ps i=3:=by rw [rckI,h1];rfl
    rw [e]
    clear h h1 e
    by_cases h0:i<0
    · go_enter Tryz.func129,Tryz.ntmps129
      go_wp2
      exact bodyPost_ret (results_tmp rfl _ _ _) rfl ⟨rfl,rfl⟩
    · have h3:(ps.length:Int)≤i:=by omega
      generalize (ps.length:Int)=n at *
      clear h2
      go_enter Tryz.func129,Tryz.ntmps129
      go_wp2_with (go_at_call 199;refine HL.out.mono ?_;rintro e w9 ⟨rfl,hw9⟩;rw [hw9];clear hw9 w9)
      exact bodyPost_ret (results_tmp rfl _ _ _) rfl ⟨rfl,rfl⟩
  · have e:rckI ps k=0:=by rw [rckI,h1];rfl
    rw [e]
    have h3:(k:Int)<(ps.length:Int):=by have:=(List.getElem?_eq_some_iff.1 h2).1;omega
    have h0:¬ (k:Int)<0:=by omega
    generalize (ps.length:Int)=n at *
    have h4:¬ n≤(k:Int):=by omega
    clear h h1 e h2
    go_enter Tryz.func129,Tryz.ntmps129
    go_wp2_with (go_at_call 199;refine HL.out.mono ?_;rintro e w9 ⟨rfl,hw9⟩;rw [hw9];clear hw9 w9)
    exact bodyPost_ret (results_tmp rfl _ _ _) rfl ⟨rfl,rfl⟩
set_option maxHeartbeats 1000000 in
theorem chS_c {b:Nat} {ps:List Plc} {W:World} (h:WAt b ps W) (hB:∀ q∈ps,PlcB q) (c i fl:Int):Calls Tryz.prog 136 #[.pointer (some ⟨b,0,none⟩),.agg #[.int .i64 c,.int .i64 i],.int .i64 fl] W fun e w'=>e=.returned (.bool (hasS ps c i fl))∧Below W.heap.size W w':=by
  have HM:Hid (∀ w,Below W.heap.size W w→Calls Tryz.prog 84 #[.pointer (some ⟨b,0,none⟩),.agg #[.int .i64 c,.int .i64 i]] w fun e w'=>MthR w.heap.size (methI ps c i) e w'∧Below w.heap.size w w'):=fun w hb=>method_c (h.below hb) hB c i
  have HR:Hid (hasS ps c i fl=match methI ps c i with|some m=>hasI m.fl fl|none=>false):=rfl
  generalize hasS ps c i fl=R at *
  generalize methI ps c i=M at *
  clear h hB
  cases M with
  | none =>
    have hR:R=false:=HR.out
    subst hR
    go_enter Tryz.func136,Tryz.ntmps136
    go_wp2_with (go_at_call 84;refine (HM.out _ (by repeat (first|exact Below.refl _ _|refine Below.setCell ?_ (by simp;try omega) _|refine Below.alloc ?_ (by simp;try omega) _|refine Below.drew ?_))).mono ?_;rintro e w1 ⟨hr,hb⟩;have hr2:e=.returned noM:=hr;subst hr2;rw [noM];have B1:Hid (Below W.heap.size W w1):=bstep (by repeat (first|exact Below.refl _ _|refine Below.setCell ?_ (by simp;try omega) _|refine Below.alloc ?_ (by simp;try omega) _|refine Below.drew ?_)) hb;clear hb HM hr)
    exact bodyPost_ret (v:=.bool false) (by simp [results,Tryz.results136,go_sem]) rfl ⟨rfl,B1.out.alloc B1.out.size _⟩
  | some m =>
    have hR:R=(bits .and .i64 m.fl fl != 0):=HR.out
    cases hq:(bits .and .i64 m.fl fl != 0)
    all_goals
      rw [hq] at hR
      subst hR
      clear HR
      go_enter Tryz.func136,Tryz.ntmps136
      go_wp2_with (go_at_call 84;refine (HM.out _ (by repeat (first|exact Below.refl _ _|refine Below.setCell ?_ (by simp;try omega) _|refine Below.alloc ?_ (by simp;try omega) _|refine Below.drew ?_))).mono ?_;rintro e w1 ⟨⟨v,hr,ho⟩,hb⟩;subst hr;obtain ⟨a',c',rfl⟩:=ownv ho;have B1:Hid (Below W.heap.size W w1):=bstep (by repeat (first|exact Below.refl _ _|refine Below.setCell ?_ (by simp;try omega) _|refine Below.alloc ?_ (by simp;try omega) _|refine Below.drew ?_)) hb;clear hb HM ho)
    · exact bodyPost_ret (v:=.bool false) (by simp [results,Tryz.results136,go_sem, *]) rfl ⟨rfl,B1.out.alloc B1.out.size _⟩
    · exact bodyPost_ret (v:=.bool true) (by simp [results,Tryz.results136,go_sem, *]) rfl ⟨rfl,B1.out.alloc B1.out.size _⟩
def iniB (n:ByteArray):Bool:=n.toList == [60,105,110,105,116,62]
end Go.Proofs.YtlohdfpinmdljaaGreatDoor
