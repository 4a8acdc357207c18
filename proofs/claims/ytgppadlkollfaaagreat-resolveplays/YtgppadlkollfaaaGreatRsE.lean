import Derived.Test.YtgppadlkollfaaaGreatTyC
import Derived.Test.YtgppadlkollfaaaGreatRfF
import Derived.Test.YtgppadlkollfaaaGreatSoE
import Derived.Test.YtgppadlkollfaaaGreatRsC
import Derived.Test.YtgppadlkollfaaaGreatOwnL
import Derived.Deep.LoopGhost
set_option maxRecDepth 100000
namespace Go.Proofs.YtgppadlkollfaaaGreat
open Go.RowKit Go.Maps
theorem isOverInt_c (d:Int) (s:ByteArray) (W:World):Calls Tryz.prog 72 #[.agg #[.int .i64 d,.string s]] W fun e w'=>e=.returned (.bool s.toList.isEmpty)∧Below W.heap.size W w':=by
  cases he:s.toList.isEmpty
  all_goals
    go_enter Tryz.func72,Tryz.ntmps72
    go_wp2
    go_ret
    exact ⟨by first|rfl|simp_all,(by repeat (first|exact Below.refl _ _|refine Below.setCell ?_ (by simp;try omega) _|refine Below.alloc ?_ (by simp;try omega) _|refine Below.drew ?_))⟩
def ldI (ps:List Plc) (d:Int) (s:ByteArray):Int:=if sndB d s.data.toList then (if s.toList.isEmpty then 0 else match lookL ps s.data.toList with
  | some _=>0
  | none=>20) else 1
theorem loaded_c {b:Nat} {ps:List Plc} {W:World} (h:WAt b ps W) (d:Int) (s:ByteArray) (hs:s.size≤maxLen):Calls Tryz.prog 20 #[.pointer (some ⟨b,0,none⟩),.agg #[.int .i64 d,.string s]] W fun e w'=>e=.returned (.int .i64 (ldI ps d s))∧Below W.heap.size W w':=by
  have HC:Hid (∀ w:World,Calls Tryz.prog 71 #[.agg #[.int .i64 d,.string s]] w fun e w'=>e=.returned (.int .i64 (chkI (sndB d s.data.toList)))∧Below w.heap.size w w'):=tyCheck_any d s hs
  have HO:Hid (∀ w:World,Calls Tryz.prog 72 #[.agg #[.int .i64 d,.string s]] w fun e w'=>e=.returned (.bool s.toList.isEmpty)∧Below w.heap.size w w'):=isOverInt_c d s
  have HN:Hid (∀ w:World,Below W.heap.size W w→Calls Tryz.prog 73 #[.pointer (some ⟨b,0,none⟩),.string s] w fun e w'=>e=.returned (bnV (lookL ps s.data.toList))∧Below w.heap.size w w'):=fun w hb=>byName_c (h.below hb) s hs
  obtain ⟨R,hR⟩:∃ R,ldI ps d s=R:=⟨_,rfl⟩
  rw [hR]
  have HR:Hid (ldI ps d s=R):=hR
  clear hR h
  unfold ldI at HR
  generalize sndB d s.data.toList=sn at *
  generalize s.toList.isEmpty=em at *
  generalize lookL ps s.data.toList=lk at *
  cases sn with
  | false =>
    have e:chkI false=1:=rfl
    rw [e] at HC
    have HS:Hid (R=1):=HR.out.symm
    clear HR
    go_enter Tryz.func20,Tryz.ntmps20
    go_wp2_with (go_at_call 71;refine (HC.out _).mono ?_;rintro e w1 ⟨rfl,hb⟩;have B1:Hid (Below W.heap.size W w1):=bstep (by repeat (first|exact Below.refl _ _|refine Below.setCell ?_ (by simp;try omega) _|refine Below.alloc ?_ (by simp;try omega) _|refine Below.drew ?_)) hb;clear hb HC)
    exact bodyPost_ret (results_tmp rfl _ _ _) rfl ⟨by rw [HS.out];rfl,B1.out⟩
  | true =>
    have e:chkI true=0:=rfl
    rw [e] at HC
    cases em with
    | true =>
      have HS:Hid (R=0):=HR.out.symm
      clear HR
      go_enter Tryz.func20,Tryz.ntmps20
      go_wp2_with (first
        | (go_at_call 71;refine (HC.out _).mono ?_;rintro e w1 ⟨rfl,hb⟩;have h0:=(hb.block W.heap.size (by simp)).trans (halloc1 W _);have r0:=cell_of_row w1 W.heap.size 0 _ _ _ h0;have r1:=cell_of_row w1 W.heap.size 1 _ _ _ h0;simp only [List.getElem?_toArray,List.getElem?_cons_zero,List.getElem?_cons_succ] at r0 r1;have B1:Hid (Below W.heap.size W w1):=bstep (by repeat (first|exact Below.refl _ _|refine Below.setCell ?_ (by simp;try omega) _|refine Below.alloc ?_ (by simp;try omega) _|refine Below.drew ?_)) hb;clear hb HC h0)
        | (go_at_call 72;refine (HO.out _).mono ?_;rintro e w2 ⟨rfl,hb⟩;have B2:Hid (Below W.heap.size W w2):=bstep B1.out hb;clear hb HO))
      exact bodyPost_ret (results_tmp rfl _ _ _) rfl ⟨by rw [HS.out];rfl,B2.out⟩
    | false =>
      cases lk
      all_goals
        first|have HS:Hid (R=20):=HR.out.symm|have HS:Hid (R=0):=HR.out.symm
        clear HR
        simp only [bnV] at HN
        go_enter Tryz.func20,Tryz.ntmps20
        go_wp2_with (first
          | (go_at_call 71;refine (HC.out _).mono ?_;rintro e w1 ⟨rfl,hb⟩;have h0:=(hb.block W.heap.size (by simp)).trans (halloc1 W _);have r0:=cell_of_row w1 W.heap.size 0 _ _ _ h0;have r1:=cell_of_row w1 W.heap.size 1 _ _ _ h0;simp only [List.getElem?_toArray,List.getElem?_cons_zero,List.getElem?_cons_succ] at r0 r1;have hl:W.heap.size<w1.heap.size:=(Array.getElem?_eq_some_iff.1 h0).1;have B1:Hid (Below W.heap.size W w1):=bstep (by repeat (first|exact Below.refl _ _|refine Below.setCell ?_ (by simp;try omega) _|refine Below.alloc ?_ (by simp;try omega) _|refine Below.drew ?_)) hb;clear hb HC h0)
          | (go_at_call 72;refine (HO.out _).mono ?_;rintro e w2 ⟨rfl,hb⟩;have B2:Hid (Below W.heap.size W w2):=bstep B1.out hb;replace r0:=(hb.cell (p:=⟨W.heap.size,0,none⟩) hl).trans r0;replace r1:=(hb.cell (p:=⟨W.heap.size,1,none⟩) hl).trans r1;clear hb HO)
          | (go_at_call 73;refine (HN.out _ B2.out).mono ?_;rintro e w3 ⟨rfl,hb⟩;have B3:Hid (Below W.heap.size W w3):=bstep B2.out hb;clear hb HN))
        exact bodyPost_ret (results_tmp rfl _ _ _) rfl ⟨by rw [HS.out];rfl,B3.out⟩
def tyO (ps:List Plc) (p:Plc) (s:ByteArray):Bool:=if s.toList.isEmpty then true else match lookL ps s.data.toList with
  | some k=>(match ps[k]? with|some q=>clsO q p|none=>false)
  | none=>false
theorem aTy_c {b:Nat} {ps:List Plc} {W:World} (h:WAt b ps W) (hB:∀ q∈ps,PlcB q) (d:Nat) (p:Plc) (hd:ps[d]?=some p) (x:Int) (s:ByteArray) (hs:s.size≤maxLen) (hl:ldI ps x s=0):Calls Tryz.prog 127 #[.pointer (some ⟨b,0,none⟩),.int .i64 (d:Int),.agg #[.int .i64 x,.string s]] W fun e w'=>e=.returned (.bool (tyO ps p s))∧Below W.heap.size W w':=by
  cases he:s.toList.isEmpty with
  | true =>
    have e:tyO ps p s=true:=by rw [tyO,he];rfl
    rw [e]
    clear h e hl
    go_enter Tryz.func127,Tryz.ntmps127
    go_wp2
    exact bodyPost_ret (results_tmp rfl _ _ _) rfl ⟨rfl,(by repeat (first|exact Below.refl _ _|refine Below.setCell ?_ (by simp;try omega) _|refine Below.alloc ?_ (by simp;try omega) _|refine Below.drew ?_))⟩
  | false =>
    obtain ⟨k,hk⟩:∃ k,lookL ps s.data.toList=some k:=by
      unfold ldI at hl
      rw [he] at hl
      cases hl2:lookL ps s.data.toList with
      | some k=>exact ⟨k,rfl⟩
      | none=>rw [hl2] at hl;exfalso;revert hl;cases sndB x s.data.toList <;> simp
    obtain ⟨q,hq,_⟩:=look_place hk
    have e:tyO ps p s=clsO q p:=by rw [tyO,he,hk];simp only [hq];rfl
    rw [e]
    have HN:Hid (∀ w:World,Below W.heap.size W w→Calls Tryz.prog 73 #[.pointer (some ⟨b,0,none⟩),.string s] w fun e w'=>e=.returned (.tuple #[.int .i64 (k:Int),.int .i64 0])∧Below W.heap.size W w'):=fun w hb=>(byName_c (h.below hb) s hs).mono fun e w' zz=>⟨by rw [zz.1,hk];rfl,bstep hb zz.2⟩
    have HI:Hid (∀ w,Below W.heap.size W w→Calls Tryz.prog 149 #[.pointer (some ⟨b,0,none⟩),.int .i64 (d:Int),.int .i64 (k:Int)] w fun e w'=>e=.returned (.bool (clsO q p))∧Below W.heap.size W w'):=fun w hb=>(aCls_c (h.below hb) hB d k p q hd hq).mono fun e w' zz=>⟨zz.1,bstep hb zz.2⟩
    generalize clsO q p=R at *
    clear h hB hd hl hk hq e hs
    go_enter Tryz.func127,Tryz.ntmps127
    go_wp2_with (first
      | (go_at_call 73;refine (HN.out _ (by repeat (first|exact Below.refl _ _|refine Below.setCell ?_ (by simp;try omega) _|refine Below.alloc ?_ (by simp;try omega) _|refine Below.drew ?_))).mono ?_;rintro e w1 ⟨rfl,hb⟩;have B1:Hid (Below W.heap.size W w1):=hb;clear hb HN)
      | (go_at_call 149;refine (HI.out _ B1.out).mono ?_;rintro e w2 ⟨rfl,hb⟩;have B2:Hid (Below W.heap.size W w2):=hb;clear hb HI))
    exact bodyPost_ret (results_tmp rfl _ _ _) rfl ⟨rfl,B2.out⟩
def toI (ps:List Plc) (d x:Int) (s:ByteArray):Value:=match plcI ps d with
  | some p=>if ldI ps x s=0 then .tuple #[.bool (tyO ps p s),.int .i64 0] else .tuple #[.bool false,.int .i64 (ldI ps x s)]
  | none=>.tuple #[.bool false,.int .i64 3]
theorem typeOpen_c {b:Nat} {ps:List Plc} {W:World} (h:WAt b ps W) (hB:∀ q∈ps,PlcB q) (d x:Int) (s:ByteArray) (hs:s.size≤maxLen):Calls Tryz.prog 59 #[.pointer (some ⟨b,0,none⟩),.int .i64 d,.agg #[.int .i64 x,.string s]] W fun e w'=>e=.returned (toI ps d x s)∧Below W.heap.size W w':=by
  have HC:Hid (∀ (w:World) (v:Value),Below W.heap.size W w→Rds w v 1 1 [.int .i64 d]→Calls Tryz.prog 77 #[.pointer (some ⟨b,0,none⟩),v] w fun e w'=>e=.returned (.int .i64 (if (plcI ps d).isSome then 0 else 3))∧Below w.heap.size w w'):=fun w v hb hv=>(check_c (h.below hb) v [d] hv (by simp)).mono fun e w' zz=>⟨by rw [zz.1,inNs_iff];simp,zz.2⟩
  have HL:Hid (∀ w,Below W.heap.size W w→Calls Tryz.prog 20 #[.pointer (some ⟨b,0,none⟩),.agg #[.int .i64 x,.string s]] w fun e w'=>e=.returned (.int .i64 (ldI ps x s))∧Below w.heap.size w w'):=fun w hb=>loaded_c (h.below hb) x s hs
  rcases plcI_cases ps d with ⟨d1,_⟩|⟨d,p,rfl,d2,d1⟩
  · have e:toI ps d x s=.tuple #[.bool false,.int .i64 3]:=by rw [toI,d1]
    rw [e]
    rw [d1] at HC
    simp only [Option.isSome_none,Bool.false_eq_true,if_false] at HC
    clear h d1 e HL
    go_enter Tryz.func59,Tryz.ntmps59
    go_wp2_with (first
      | (go_at_call 77;refine (HC.out _ _ (by repeat (first|exact Below.refl _ _|refine Below.setCell ?_ (by simp;try omega) _|refine Below.alloc ?_ (by simp;try omega) _|refine Below.drew ?_)) (rds_at _ _ (by simp) _ 3 1 1 rfl (by decide))).mono ?_;rintro e w1 ⟨rfl,hb⟩;have B1:Hid (Below W.heap.size W w1):=bstep (by repeat (first|exact Below.refl _ _|refine Below.setCell ?_ (by simp;try omega) _|refine Below.alloc ?_ (by simp;try omega) _|refine Below.drew ?_)) hb;clear hb HC))
    exact bodyPost_ret (results_tmp2 rfl _ _ _) rfl ⟨rfl,B1.out⟩
  · rw [d1] at HC
    simp only [Option.isSome_some,if_true] at HC
    by_cases hl:ldI ps x s=0
    · have e:toI ps d x s=.tuple #[.bool (tyO ps p s),.int .i64 0]:=by rw [toI,d1];simp only [if_pos hl]
      rw [e]
      have HT:Hid (∀ w,Below W.heap.size W w→Calls Tryz.prog 127 #[.pointer (some ⟨b,0,none⟩),.int .i64 (d:Int),.agg #[.int .i64 x,.string s]] w fun e w'=>e=.returned (.bool (tyO ps p s))∧Below w.heap.size w w'):=fun w hb=>aTy_c (h.below hb) hB d p d2 x s hs hl
      rw [hl] at HL
      generalize tyO ps p s=R at *
      clear h d1 e d2 hl hB hs
      go_enter Tryz.func59,Tryz.ntmps59
      go_wp2_with (first
        | (go_at_call 77;refine (HC.out _ _ (by repeat (first|exact Below.refl _ _|refine Below.setCell ?_ (by simp;try omega) _|refine Below.alloc ?_ (by simp;try omega) _|refine Below.drew ?_)) (rds_at _ _ (by simp) _ 3 1 1 rfl (by decide))).mono ?_;rintro e w1 ⟨rfl,hb⟩;have h0:=(hb.block W.heap.size (by simp;omega)).trans (heap_alloc2_old W _ _);have r0:=cell_of_row w1 W.heap.size 0 _ _ _ h0;have r1:=cell_of_row w1 W.heap.size 1 _ _ _ h0;simp only [List.getElem?_toArray,List.getElem?_cons_zero,List.getElem?_cons_succ] at r0 r1;have hl0:W.heap.size<w1.heap.size:=(Array.getElem?_eq_some_iff.1 h0).1;have B1:Hid (Below W.heap.size W w1):=bstep (by repeat (first|exact Below.refl _ _|refine Below.setCell ?_ (by simp;try omega) _|refine Below.alloc ?_ (by simp;try omega) _|refine Below.drew ?_)) hb;clear hb HC h0)
        | (go_at_call 20;refine (HL.out _ B1.out).mono ?_;rintro e w2 ⟨rfl,hb⟩;replace r0:=(hb.cell (p:=⟨W.heap.size,0,none⟩) hl0).trans r0;replace r1:=(hb.cell (p:=⟨W.heap.size,1,none⟩) hl0).trans r1;have B2:Hid (Below W.heap.size W w2):=bstep B1.out hb;clear hb HL)
        | (go_at_call 127;refine (HT.out _ B2.out).mono ?_;rintro e w3 ⟨rfl,hb⟩;have B3:Hid (Below W.heap.size W w3):=bstep B2.out hb;clear hb HT))
      exact bodyPost_ret (results_tmp2 rfl _ _ _) rfl ⟨rfl,B3.out⟩
    · have e:toI ps d x s=.tuple #[.bool false,.int .i64 (ldI ps x s)]:=by rw [toI,d1];simp only [if_neg hl]
      rw [e]
      generalize ldI ps x s=R at *
      clear h d1 e d2 hB hs
      go_enter Tryz.func59,Tryz.ntmps59
      go_wp2_with (first
        | (go_at_call 77;refine (HC.out _ _ (by repeat (first|exact Below.refl _ _|refine Below.setCell ?_ (by simp;try omega) _|refine Below.alloc ?_ (by simp;try omega) _|refine Below.drew ?_)) (rds_at _ _ (by simp) _ 3 1 1 rfl (by decide))).mono ?_;rintro e w1 ⟨rfl,hb⟩;have h0:=(hb.block W.heap.size (by simp;omega)).trans (heap_alloc2_old W _ _);have r0:=cell_of_row w1 W.heap.size 0 _ _ _ h0;have r1:=cell_of_row w1 W.heap.size 1 _ _ _ h0;simp only [List.getElem?_toArray,List.getElem?_cons_zero,List.getElem?_cons_succ] at r0 r1;have hl0:W.heap.size<w1.heap.size:=(Array.getElem?_eq_some_iff.1 h0).1;have B1:Hid (Below W.heap.size W w1):=bstep (by repeat (first|exact Below.refl _ _|refine Below.setCell ?_ (by simp;try omega) _|refine Below.alloc ?_ (by simp;try omega) _|refine Below.drew ?_)) hb;clear hb HC h0)
        | (go_at_call 20;refine (HL.out _ B1.out).mono ?_;rintro e w2 ⟨rfl,hb⟩;have B2:Hid (Below W.heap.size W w2):=bstep B1.out hb;clear hb HL))
      exact bodyPost_ret (results_tmp2 rfl _ _ _) rfl ⟨rfl,B2.out⟩
def intB (d:Int) (s:ByteArray):Bool:=(d == 0)&&s.toList.isEmpty
theorem isInt_c (d:Int) (s:ByteArray) (W:World):Calls Tryz.prog 125 #[.agg #[.int .i64 d,.string s]] W fun e w'=>e=.returned (.bool (intB d s))∧Below W.heap.size W w':=by
  obtain ⟨R,hR⟩:∃ R,intB d s=R:=⟨_,rfl⟩
  have HR:Hid (((d == 0)&&s.toList.isEmpty)=R):=hR
  rw [hR]
  clear hR
  go_enter Tryz.func125,Tryz.ntmps125
  go_wp2
  all_goals go_ret
  all_goals exact ⟨retB (by rw [← HR.out];simp [*]),(by repeat (first|exact Below.refl _ _|refine Below.setCell ?_ (by simp;try omega) _|refine Below.alloc ?_ (by simp;try omega) _|refine Below.drew ?_))⟩
theorem lby_c {b:Nat} {ps:List Plc} {W:World} (h:WAt b ps W) (hi:WI ps) (c:Int) (y:Bool) (cn nm ds:ByteArray):Calls Tryz.prog 112 #[.pointer (some ⟨b,0,none⟩),.int .i64 c,.agg #[.bool y,.string cn,.string nm,.string ds]] W fun e w'=>e=.returned (idE (lbyR ps y nm ds c))∧Below W.heap.size W w':=by
  have HL:Hid (∀ w,Below W.heap.size W w→Calls Tryz.prog 53 #[.pointer (some ⟨b,0,none⟩),.int .i64 c,.string nm,.string ds] w fun e w'=>e=.returned (idE (lookR ps nm ds c))∧Below w.heap.size w w'):=fun w hb=>look_c (h.below hb) hi c nm ds
  have HF:Hid (∀ w,Below W.heap.size W w→Calls Tryz.prog 55 #[.pointer (some ⟨b,0,none⟩),.int .i64 c,.string nm,.string ds] w fun e w'=>e=.returned (idE (lifR ps nm ds c))∧Below w.heap.size w w'):=fun w hb=>lif_c (h.below hb) hi c nm ds
  unfold lbyR
  generalize lookR ps nm ds c=R at *
  generalize lifR ps nm ds c=S at *
  obtain ⟨⟨R1,R2⟩,R3⟩:=R
  obtain ⟨⟨S1,S2⟩,S3⟩:=S
  simp only [idE] at HL HF
  clear h hi
  cases y with
  | true =>
    rw [if_pos rfl]
    go_enter Tryz.func112,Tryz.ntmps112
    go_wp2_with (first
      | (go_at_call 55;refine (HF.out _ (by repeat (first|exact Below.refl _ _|refine Below.setCell ?_ (by simp;try omega) _|refine Below.alloc ?_ (by simp;try omega) _|refine Below.drew ?_))).mono ?_;rintro e w2 ⟨rfl,hb⟩;have zd:w2.heap[W.heap.size+1]?=some (.cells #[.int .i64 0,.int .i64 0] 38 (0,0)):=(hb.block (W.heap.size+1) (by first|omega|(simp;try omega))).trans (by first|exact zB.out|exact hkeep zB.out|exact hkeep (hkeep zB.out)|exact halloc2 _ _ rfl|exact heap_alloc2_old _ _ _|exact heap_alloc2_new _ _ _|exact hkeep (halloc2 _ _ rfl)|exact hkeep (hkeep (halloc2 _ _ rfl))|exact halloc2 _ _ (by simp;done));(try clear zB zL zN z0 z1 zf0 zf1);have zB:Hid (w2.heap[W.heap.size+1]?=some (.cells #[.int .i64 0,.int .i64 0] 38 (0,0))):=zd;have z0:w2.cell? ⟨W.heap.size+1,0,none⟩=some (.int .i64 0):=(cell_of_row w2 (W.heap.size+1) 0 _ _ _ zd).trans rfl;have zf0:=frozen_of_row w2 (W.heap.size+1) 0 _ _ zd;have z1:w2.cell? ⟨W.heap.size+1,1,none⟩=some (.int .i64 0):=(cell_of_row w2 (W.heap.size+1) 1 _ _ _ zd).trans rfl;have zf1:=frozen_of_row w2 (W.heap.size+1) 1 _ _ zd;have zL:W.heap.size+1<w2.heap.size:=(Array.getElem?_eq_some_iff.1 zd).1;have zN:¬ W.heap.size+1=w2.heap.size:=(by omega);clear zd;have B2:Hid (Below W.heap.size W w2):=bstep (by repeat (first|exact Below.refl _ _|refine Below.setCell ?_ (by simp;try omega) _|refine Below.alloc ?_ (by simp;try omega) _|refine Below.drew ?_)) hb;clear hb HF))
    exact bodyPost_ret (v:=idE ((S1,S2),S3)) (by simp [results,Tryz.results112,go_sem,idE, *]) rfl ⟨rfl,(by repeat (first|exact B2.out|refine Below.setCell ?_ (by simp;try omega) _|refine Below.alloc ?_ (by have:=B2.out.size;simp;try omega) _|refine Below.drew ?_))⟩
  | false =>
    rw [if_neg (by simp)]
    go_enter Tryz.func112,Tryz.ntmps112
    go_wp2_with (first
      | (go_at_call 53;refine (HL.out _ (by repeat (first|exact Below.refl _ _|refine Below.setCell ?_ (by simp;try omega) _|refine Below.alloc ?_ (by simp;try omega) _|refine Below.drew ?_))).mono ?_;rintro e w2 ⟨rfl,hb⟩;have zd:w2.heap[W.heap.size+1]?=some (.cells #[.int .i64 0,.int .i64 0] 38 (0,0)):=(hb.block (W.heap.size+1) (by first|omega|(simp;try omega))).trans (by first|exact zB.out|exact hkeep zB.out|exact hkeep (hkeep zB.out)|exact halloc2 _ _ rfl|exact heap_alloc2_old _ _ _|exact heap_alloc2_new _ _ _|exact hkeep (halloc2 _ _ rfl)|exact hkeep (hkeep (halloc2 _ _ rfl))|exact halloc2 _ _ (by simp;done));(try clear zB zL zN z0 z1 zf0 zf1);have zB:Hid (w2.heap[W.heap.size+1]?=some (.cells #[.int .i64 0,.int .i64 0] 38 (0,0))):=zd;have z0:w2.cell? ⟨W.heap.size+1,0,none⟩=some (.int .i64 0):=(cell_of_row w2 (W.heap.size+1) 0 _ _ _ zd).trans rfl;have zf0:=frozen_of_row w2 (W.heap.size+1) 0 _ _ zd;have z1:w2.cell? ⟨W.heap.size+1,1,none⟩=some (.int .i64 0):=(cell_of_row w2 (W.heap.size+1) 1 _ _ _ zd).trans rfl;have zf1:=frozen_of_row w2 (W.heap.size+1) 1 _ _ zd;have zL:W.heap.size+1<w2.heap.size:=(Array.getElem?_eq_some_iff.1 zd).1;have zN:¬ W.heap.size+1=w2.heap.size:=(by omega);clear zd;have B2:Hid (Below W.heap.size W w2):=bstep (by repeat (first|exact Below.refl _ _|refine Below.setCell ?_ (by simp;try omega) _|refine Below.alloc ?_ (by simp;try omega) _|refine Below.drew ?_)) hb;clear hb HL))
    exact bodyPost_ret (v:=idE ((R1,R2),R3)) (by simp [results,Tryz.results112,go_sem,idE, *]) rfl ⟨rfl,(by repeat (first|exact B2.out|refine Below.setCell ?_ (by simp;try omega) _|refine Below.alloc ?_ (by have:=B2.out.size;simp;try omega) _|refine Below.drew ?_))⟩
def toP (ps:List Plc) (d x:Int) (s:ByteArray):Bool×Int:=match plcI ps d with
  | some p=>if ldI ps x s=0 then (tyO ps p s,0) else (false,ldI ps x s)
  | none=>(false,3)
theorem toI_eq (ps:List Plc) (d x:Int) (s:ByteArray):toI ps d x s=.tuple #[.bool (toP ps d x s).1,.int .i64 (toP ps d x s).2]:=by
  unfold toI toP
  cases plcI ps d with
  | none=>rfl
  | some p=>by_cases h:ldI ps x s=0 <;> simp [h]
def tyE (x:(Int×ByteArray)×Int):Value:=.tuple #[.agg #[.int .i64 x.1.1,.string x.1.2],.int .i64 x.2]
def tyS (l:List UInt8):ByteArray:=⟨(prfT l).2.toArray⟩
def tyX (ps:List Plc) (d:Int) (l:List UInt8):Int:=shuI (toP ps d (prfT l).1 (tyS l)).1 (toP ps d (prfT l).1 (tyS l)).2
def clsR (ps:List Plc) (d:Int) (l:List UInt8):(Int×ByteArray)×Int :=
  if rckI ps d=0 then (if prfE l=0 then (if tyX ps d l=0 then ((((prfT l).1:Int),tyS l),0) else ((0,⟨#[]⟩),tyX ps d l)) else ((0,⟨#[]⟩),4)) else ((0,⟨#[]⟩),rckI ps d)
theorem prf_len2 (l:List UInt8) (h:prfE l=0):(prfT l).2.length≤2000∧(prfT l).1≤2000:=by
  unfold prfE at h
  unfold prfT
  by_cases h1:2000<l.length
  · rw [if_pos h1] at h;exact absurd h (by decide)
  · rw [if_neg h1] at h
    rw [if_neg h1]
    by_cases h2:l.head?=some 91
    · rw [if_pos h2] at h
      rw [if_pos h2]
      unfold parT
      rw [if_pos h]
      split
      · rename_i t r e
        have hw:=(write_read e).1
        have hl:=congrArg List.length hw
        rw [List.length_append,writeT_length] at hl
        split at hl
        · rename_i e0;rw [e0];simp;omega
        · omega
      all_goals simp
    · rw [if_neg h2] at h
      rw [if_neg h2]
      split
      · simp;omega
      · simp
set_option maxHeartbeats 1000000 in
theorem cls_c {b:Nat} {ps:List Plc} {W:World} (h:WAt b ps W) (hi:WI ps) (d:Int) (s:ByteArray) (hs:s.size≤maxLen):Calls Tryz.prog 50 #[.pointer (some ⟨b,0,none⟩),.int .i64 d,.string s] W fun e w'=>e=.returned (tyE (clsR ps d s.data.toList))∧Below W.heap.size W w':=by
  have HC:Hid (∀ w,Below W.heap.size W w→Calls Tryz.prog 110 #[.pointer (some ⟨b,0,none⟩),.int .i64 d] w fun e w'=>e=.returned (.int .i64 (rckI ps d))∧Below w.heap.size w w'):=fun w hb=>(rck_c (h.below hb) d).mono fun e w' zz=>⟨zz.1,by rw [zz.2];exact Below.refl _ _⟩
  have HP:Hid (∀ w:World,Calls Tryz.prog 116 #[.string s] w fun e w'=>e=.returned (.tuple #[.agg #[.int .i64 ((prfT s.data.toList).1:Int),.string (tyS s.data.toList)],.int .i64 (prfE s.data.toList)])∧Below w.heap.size w w'):=parseRef_any s hs
  have HS:Hid (∀ o x (w:World),Calls Tryz.prog 113 #[.bool o,.int .i64 x] w fun e w'=>e=.returned (.int .i64 (shuI o x))∧w'=w):=shut_c
  have HT:Hid (prfE s.data.toList=0→∀ w,Below W.heap.size W w→Calls Tryz.prog 59 #[.pointer (some ⟨b,0,none⟩),.int .i64 d,.agg #[.int .i64 ((prfT s.data.toList).1:Int),.string (tyS s.data.toList)]] w fun e w'=>e=.returned (.tuple #[.bool (toP ps d (prfT s.data.toList).1 (tyS s.data.toList)).1,.int .i64 (toP ps d (prfT s.data.toList).1 (tyS s.data.toList)).2])∧Below w.heap.size w w'):=fun h0 w hb=>by
    have hl:=(prf_len2 _ h0).1
    refine (typeOpen_c (h.below hb) hi.pb d _ _ ?_).mono fun e w' zz=>⟨by rw [zz.1,toI_eq],zz.2⟩
    have:(tyS s.data.toList).size=(prfT s.data.toList).2.length:=by simp [tyS,ByteArray.size]
    rw [this];unfold maxLen;omega
  unfold clsR tyX
  generalize ((prfT s.data.toList).1:Int)=x at *
  generalize tyS s.data.toList=t at *
  generalize toP ps d x t=P at *
  obtain ⟨P1,P2⟩:=P
  simp only at HT ⊢
  generalize prfE s.data.toList=pe at *
  generalize rckI ps d=ck at *
  replace HS:Hid (∀ (w:World),Calls Tryz.prog 113 #[.bool P1,.int .i64 P2] w fun e w'=>e=.returned (.int .i64 (shuI P1 P2))∧w'=w):=HS.out P1 P2
  generalize shuI P1 P2=sh at *
  clear h hi hs
  by_cases h0:ck=0
  · subst h0
    rw [if_pos rfl]
    by_cases h1:pe=0
    · subst h1
      rw [if_pos rfl]
      replace HT:Hid (∀ w,Below W.heap.size W w→Calls Tryz.prog 59 #[.pointer (some ⟨b,0,none⟩),.int .i64 d,.agg #[.int .i64 x,.string t]] w fun e w'=>e=.returned (.tuple #[.bool P1,.int .i64 P2])∧Below w.heap.size w w'):=HT.out rfl
      by_cases h2:sh=0
      · subst h2
        rw [if_pos rfl]
        go_enter Tryz.func50,Tryz.ntmps50
        go_wp2_with (first
          | (go_at_call 110;refine (HC.out _ (by repeat (first|exact Below.refl _ _|refine Below.setCell ?_ (by simp;try omega) _|refine Below.alloc ?_ (by simp;try omega) _|refine Below.drew ?_))).mono ?_;rintro e w1 ⟨rfl,hb⟩;have zd:w1.heap[W.heap.size]?=some (.cells #[.int .i64 0,.string ⟨#[]⟩] 24 (0,0)):=(hb.block (W.heap.size) (by first|omega|(simp;try omega))).trans (by first|exact zB.out|exact hkeep zB.out|exact hkeep (hkeep zB.out)|exact halloc2 _ _ rfl|exact heap_alloc2_old _ _ _|exact heap_alloc2_new _ _ _|exact hkeep (halloc2 _ _ rfl)|exact hkeep (hkeep (halloc2 _ _ rfl))|exact halloc2 _ _ (by simp;done));(try clear zB zL zN z0 z1 zf0 zf1);have zB:Hid (w1.heap[W.heap.size]?=some (.cells #[.int .i64 0,.string ⟨#[]⟩] 24 (0,0))):=zd;have z0:w1.cell? ⟨W.heap.size,0,none⟩=some (.int .i64 0):=(cell_of_row w1 (W.heap.size) 0 _ _ _ zd).trans rfl;have zf0:=frozen_of_row w1 (W.heap.size) 0 _ _ zd;have z1:w1.cell? ⟨W.heap.size,1,none⟩=some (.string ⟨#[]⟩):=(cell_of_row w1 (W.heap.size) 1 _ _ _ zd).trans rfl;have zf1:=frozen_of_row w1 (W.heap.size) 1 _ _ zd;have zL:W.heap.size<w1.heap.size:=(Array.getElem?_eq_some_iff.1 zd).1;have zN:¬ W.heap.size=w1.heap.size:=(by omega);clear zd;have B1:Hid (Below W.heap.size W w1):=bstep (by repeat (first|exact Below.refl _ _|refine Below.setCell ?_ (by simp;try omega) _|refine Below.alloc ?_ (by simp;try omega) _|refine Below.drew ?_)) hb;clear hb HC)
          | (go_at_call 116;refine (HP.out _).mono ?_;rintro e w2 ⟨rfl,hb⟩;have zd:w2.heap[W.heap.size]?=some (.cells #[.int .i64 0,.string ⟨#[]⟩] 24 (0,0)):=(hb.block (W.heap.size) (by first|omega|(simp;try omega))).trans (by first|exact zB.out|exact hkeep zB.out|exact hkeep (hkeep zB.out)|exact halloc2 _ _ rfl|exact heap_alloc2_old _ _ _|exact heap_alloc2_new _ _ _|exact hkeep (halloc2 _ _ rfl)|exact hkeep (hkeep (halloc2 _ _ rfl))|exact halloc2 _ _ (by simp;done));(try clear zB zL zN z0 z1 zf0 zf1);have zB:Hid (w2.heap[W.heap.size]?=some (.cells #[.int .i64 0,.string ⟨#[]⟩] 24 (0,0))):=zd;have z0:w2.cell? ⟨W.heap.size,0,none⟩=some (.int .i64 0):=(cell_of_row w2 (W.heap.size) 0 _ _ _ zd).trans rfl;have zf0:=frozen_of_row w2 (W.heap.size) 0 _ _ zd;have z1:w2.cell? ⟨W.heap.size,1,none⟩=some (.string ⟨#[]⟩):=(cell_of_row w2 (W.heap.size) 1 _ _ _ zd).trans rfl;have zf1:=frozen_of_row w2 (W.heap.size) 1 _ _ zd;have zL:W.heap.size<w2.heap.size:=(Array.getElem?_eq_some_iff.1 zd).1;have zN:¬ W.heap.size=w2.heap.size:=(by omega);clear zd;have B2:Hid (Below W.heap.size W w2):=bstep B1.out hb;clear hb HP)
          | (go_at_call 59;refine (HT.out _ (B2.out.alloc B2.out.size _)).mono ?_;rintro e w3 ⟨rfl,hb⟩;have hn3:¬ w2.heap.size=W.heap.size:=(by omega);have hm3:¬ W.heap.size=w2.heap.size:=(by omega);have zd:w3.heap[W.heap.size]?=some (.cells #[.int .i64 0,.string ⟨#[]⟩] 24 (0,0)):=(hb.block (W.heap.size) (by first|omega|(simp;try omega))).trans (by first|exact zB.out|exact hkeep zB.out|exact hkeep (hkeep zB.out)|exact halloc2 _ _ rfl|exact heap_alloc2_old _ _ _|exact heap_alloc2_new _ _ _|exact hkeep (halloc2 _ _ rfl)|exact hkeep (hkeep (halloc2 _ _ rfl))|exact halloc2 _ _ (by simp;done));(try clear zB zL zN z0 z1 zf0 zf1);have zB:Hid (w3.heap[W.heap.size]?=some (.cells #[.int .i64 0,.string ⟨#[]⟩] 24 (0,0))):=zd;have z0:w3.cell? ⟨W.heap.size,0,none⟩=some (.int .i64 0):=(cell_of_row w3 (W.heap.size) 0 _ _ _ zd).trans rfl;have zf0:=frozen_of_row w3 (W.heap.size) 0 _ _ zd;have z1:w3.cell? ⟨W.heap.size,1,none⟩=some (.string ⟨#[]⟩):=(cell_of_row w3 (W.heap.size) 1 _ _ _ zd).trans rfl;have zf1:=frozen_of_row w3 (W.heap.size) 1 _ _ zd;have zL:W.heap.size<w3.heap.size:=(Array.getElem?_eq_some_iff.1 zd).1;have zN:¬ W.heap.size=w3.heap.size:=(by omega);clear zd;have gd:w3.heap[w2.heap.size]?=some (.cells #[.int .i64 x,.string t] 24 (0,0)):=(hb.block (w2.heap.size) (by first|omega|(simp;try omega))).trans (by first|exact gB.out|exact hkeep gB.out|exact hkeep (hkeep gB.out)|exact halloc2 _ _ rfl|exact heap_alloc2_old _ _ _|exact heap_alloc2_new _ _ _|exact hkeep (halloc2 _ _ rfl)|exact hkeep (hkeep (halloc2 _ _ rfl))|exact halloc2 _ _ (by simp;done));(try clear gB gL gN g0 g1 gf0 gf1);have gB:Hid (w3.heap[w2.heap.size]?=some (.cells #[.int .i64 x,.string t] 24 (0,0))):=gd;have g0:w3.cell? ⟨w2.heap.size,0,none⟩=some (.int .i64 x):=(cell_of_row w3 (w2.heap.size) 0 _ _ _ gd).trans rfl;have gf0:=frozen_of_row w3 (w2.heap.size) 0 _ _ gd;have g1:w3.cell? ⟨w2.heap.size,1,none⟩=some (.string t):=(cell_of_row w3 (w2.heap.size) 1 _ _ _ gd).trans rfl;have gf1:=frozen_of_row w3 (w2.heap.size) 1 _ _ gd;have gL:w2.heap.size<w3.heap.size:=(Array.getElem?_eq_some_iff.1 gd).1;have gN:¬ w2.heap.size=w3.heap.size:=(by omega);clear gd;have B3:Hid (Below W.heap.size W w3):=bstep (B2.out.alloc B2.out.size _) hb;clear hb HT)
          | (go_at_call 113;refine (HS.out _).mono ?_;rintro e w9 ⟨rfl,hw9⟩;rw [hw9];clear hw9 w9))
        exact bodyPost_ret (v:=tyE ((x,t),0)) (by simp [results,Tryz.results50,go_sem,tyE, *]) rfl ⟨rfl,(by repeat (first|exact B3.out|refine Below.setCell ?_ (by simp;try omega) _|refine Below.alloc ?_ (by have:=B3.out.size;simp;try omega) _|refine Below.drew ?_))⟩
      · rw [if_neg h2]
        go_enter Tryz.func50,Tryz.ntmps50
        go_wp2_with (first
          | (go_at_call 110;refine (HC.out _ (by repeat (first|exact Below.refl _ _|refine Below.setCell ?_ (by simp;try omega) _|refine Below.alloc ?_ (by simp;try omega) _|refine Below.drew ?_))).mono ?_;rintro e w1 ⟨rfl,hb⟩;have zd:w1.heap[W.heap.size]?=some (.cells #[.int .i64 0,.string ⟨#[]⟩] 24 (0,0)):=(hb.block (W.heap.size) (by first|omega|(simp;try omega))).trans (by first|exact zB.out|exact hkeep zB.out|exact hkeep (hkeep zB.out)|exact halloc2 _ _ rfl|exact heap_alloc2_old _ _ _|exact heap_alloc2_new _ _ _|exact hkeep (halloc2 _ _ rfl)|exact hkeep (hkeep (halloc2 _ _ rfl))|exact halloc2 _ _ (by simp;done));(try clear zB zL zN z0 z1 zf0 zf1);have zB:Hid (w1.heap[W.heap.size]?=some (.cells #[.int .i64 0,.string ⟨#[]⟩] 24 (0,0))):=zd;have z0:w1.cell? ⟨W.heap.size,0,none⟩=some (.int .i64 0):=(cell_of_row w1 (W.heap.size) 0 _ _ _ zd).trans rfl;have zf0:=frozen_of_row w1 (W.heap.size) 0 _ _ zd;have z1:w1.cell? ⟨W.heap.size,1,none⟩=some (.string ⟨#[]⟩):=(cell_of_row w1 (W.heap.size) 1 _ _ _ zd).trans rfl;have zf1:=frozen_of_row w1 (W.heap.size) 1 _ _ zd;have zL:W.heap.size<w1.heap.size:=(Array.getElem?_eq_some_iff.1 zd).1;have zN:¬ W.heap.size=w1.heap.size:=(by omega);clear zd;have B1:Hid (Below W.heap.size W w1):=bstep (by repeat (first|exact Below.refl _ _|refine Below.setCell ?_ (by simp;try omega) _|refine Below.alloc ?_ (by simp;try omega) _|refine Below.drew ?_)) hb;clear hb HC)
          | (go_at_call 116;refine (HP.out _).mono ?_;rintro e w2 ⟨rfl,hb⟩;have zd:w2.heap[W.heap.size]?=some (.cells #[.int .i64 0,.string ⟨#[]⟩] 24 (0,0)):=(hb.block (W.heap.size) (by first|omega|(simp;try omega))).trans (by first|exact zB.out|exact hkeep zB.out|exact hkeep (hkeep zB.out)|exact halloc2 _ _ rfl|exact heap_alloc2_old _ _ _|exact heap_alloc2_new _ _ _|exact hkeep (halloc2 _ _ rfl)|exact hkeep (hkeep (halloc2 _ _ rfl))|exact halloc2 _ _ (by simp;done));(try clear zB zL zN z0 z1 zf0 zf1);have zB:Hid (w2.heap[W.heap.size]?=some (.cells #[.int .i64 0,.string ⟨#[]⟩] 24 (0,0))):=zd;have z0:w2.cell? ⟨W.heap.size,0,none⟩=some (.int .i64 0):=(cell_of_row w2 (W.heap.size) 0 _ _ _ zd).trans rfl;have zf0:=frozen_of_row w2 (W.heap.size) 0 _ _ zd;have z1:w2.cell? ⟨W.heap.size,1,none⟩=some (.string ⟨#[]⟩):=(cell_of_row w2 (W.heap.size) 1 _ _ _ zd).trans rfl;have zf1:=frozen_of_row w2 (W.heap.size) 1 _ _ zd;have zL:W.heap.size<w2.heap.size:=(Array.getElem?_eq_some_iff.1 zd).1;have zN:¬ W.heap.size=w2.heap.size:=(by omega);clear zd;have B2:Hid (Below W.heap.size W w2):=bstep B1.out hb;clear hb HP)
          | (go_at_call 59;refine (HT.out _ (B2.out.alloc B2.out.size _)).mono ?_;rintro e w3 ⟨rfl,hb⟩;have zd:w3.heap[W.heap.size]?=some (.cells #[.int .i64 0,.string ⟨#[]⟩] 24 (0,0)):=(hb.block (W.heap.size) (by first|omega|(simp;try omega))).trans (by first|exact zB.out|exact hkeep zB.out|exact hkeep (hkeep zB.out)|exact halloc2 _ _ rfl|exact heap_alloc2_old _ _ _|exact heap_alloc2_new _ _ _|exact hkeep (halloc2 _ _ rfl)|exact hkeep (hkeep (halloc2 _ _ rfl))|exact halloc2 _ _ (by simp;done));(try clear zB zL zN z0 z1 zf0 zf1);have zB:Hid (w3.heap[W.heap.size]?=some (.cells #[.int .i64 0,.string ⟨#[]⟩] 24 (0,0))):=zd;have z0:w3.cell? ⟨W.heap.size,0,none⟩=some (.int .i64 0):=(cell_of_row w3 (W.heap.size) 0 _ _ _ zd).trans rfl;have zf0:=frozen_of_row w3 (W.heap.size) 0 _ _ zd;have z1:w3.cell? ⟨W.heap.size,1,none⟩=some (.string ⟨#[]⟩):=(cell_of_row w3 (W.heap.size) 1 _ _ _ zd).trans rfl;have zf1:=frozen_of_row w3 (W.heap.size) 1 _ _ zd;have zL:W.heap.size<w3.heap.size:=(Array.getElem?_eq_some_iff.1 zd).1;have zN:¬ W.heap.size=w3.heap.size:=(by omega);clear zd;have B3:Hid (Below W.heap.size W w3):=bstep (B2.out.alloc B2.out.size _) hb;clear hb HT)
          | (go_at_call 113;refine (HS.out _).mono ?_;rintro e w9 ⟨rfl,hw9⟩;rw [hw9];clear hw9 w9))
        exact bodyPost_ret (v:=tyE ((0,⟨#[]⟩),sh)) (by simp [results,Tryz.results50,go_sem,tyE, *]) rfl ⟨rfl,(by repeat (first|exact B3.out|refine Below.setCell ?_ (by simp;try omega) _|refine Below.alloc ?_ (by have:=B3.out.size;simp;try omega) _|refine Below.drew ?_))⟩
    · rw [if_neg h1]
      go_enter Tryz.func50,Tryz.ntmps50
      go_wp2_with (first
        | (go_at_call 110;refine (HC.out _ (by repeat (first|exact Below.refl _ _|refine Below.setCell ?_ (by simp;try omega) _|refine Below.alloc ?_ (by simp;try omega) _|refine Below.drew ?_))).mono ?_;rintro e w1 ⟨rfl,hb⟩;have zd:w1.heap[W.heap.size]?=some (.cells #[.int .i64 0,.string ⟨#[]⟩] 24 (0,0)):=(hb.block (W.heap.size) (by first|omega|(simp;try omega))).trans (by first|exact zB.out|exact hkeep zB.out|exact hkeep (hkeep zB.out)|exact halloc2 _ _ rfl|exact heap_alloc2_old _ _ _|exact heap_alloc2_new _ _ _|exact hkeep (halloc2 _ _ rfl)|exact hkeep (hkeep (halloc2 _ _ rfl))|exact halloc2 _ _ (by simp;done));(try clear zB zL zN z0 z1 zf0 zf1);have zB:Hid (w1.heap[W.heap.size]?=some (.cells #[.int .i64 0,.string ⟨#[]⟩] 24 (0,0))):=zd;have z0:w1.cell? ⟨W.heap.size,0,none⟩=some (.int .i64 0):=(cell_of_row w1 (W.heap.size) 0 _ _ _ zd).trans rfl;have zf0:=frozen_of_row w1 (W.heap.size) 0 _ _ zd;have z1:w1.cell? ⟨W.heap.size,1,none⟩=some (.string ⟨#[]⟩):=(cell_of_row w1 (W.heap.size) 1 _ _ _ zd).trans rfl;have zf1:=frozen_of_row w1 (W.heap.size) 1 _ _ zd;have zL:W.heap.size<w1.heap.size:=(Array.getElem?_eq_some_iff.1 zd).1;have zN:¬ W.heap.size=w1.heap.size:=(by omega);clear zd;have B1:Hid (Below W.heap.size W w1):=bstep (by repeat (first|exact Below.refl _ _|refine Below.setCell ?_ (by simp;try omega) _|refine Below.alloc ?_ (by simp;try omega) _|refine Below.drew ?_)) hb;clear hb HC)
        | (go_at_call 116;refine (HP.out _).mono ?_;rintro e w2 ⟨rfl,hb⟩;have zd:w2.heap[W.heap.size]?=some (.cells #[.int .i64 0,.string ⟨#[]⟩] 24 (0,0)):=(hb.block (W.heap.size) (by first|omega|(simp;try omega))).trans (by first|exact zB.out|exact hkeep zB.out|exact hkeep (hkeep zB.out)|exact halloc2 _ _ rfl|exact heap_alloc2_old _ _ _|exact heap_alloc2_new _ _ _|exact hkeep (halloc2 _ _ rfl)|exact hkeep (hkeep (halloc2 _ _ rfl))|exact halloc2 _ _ (by simp;done));(try clear zB zL zN z0 z1 zf0 zf1);have zB:Hid (w2.heap[W.heap.size]?=some (.cells #[.int .i64 0,.string ⟨#[]⟩] 24 (0,0))):=zd;have z0:w2.cell? ⟨W.heap.size,0,none⟩=some (.int .i64 0):=(cell_of_row w2 (W.heap.size) 0 _ _ _ zd).trans rfl;have zf0:=frozen_of_row w2 (W.heap.size) 0 _ _ zd;have z1:w2.cell? ⟨W.heap.size,1,none⟩=some (.string ⟨#[]⟩):=(cell_of_row w2 (W.heap.size) 1 _ _ _ zd).trans rfl;have zf1:=frozen_of_row w2 (W.heap.size) 1 _ _ zd;have zL:W.heap.size<w2.heap.size:=(Array.getElem?_eq_some_iff.1 zd).1;have zN:¬ W.heap.size=w2.heap.size:=(by omega);clear zd;have B2:Hid (Below W.heap.size W w2):=bstep B1.out hb;clear hb HP))
      exact bodyPost_ret (v:=tyE ((0,⟨#[]⟩),4)) (by simp [results,Tryz.results50,go_sem,tyE, *]) rfl ⟨rfl,(by repeat (first|exact B2.out|refine Below.setCell ?_ (by simp;try omega) _|refine Below.alloc ?_ (by have:=B2.out.size;simp;try omega) _|refine Below.drew ?_))⟩
  · rw [if_neg h0]
    go_enter Tryz.func50,Tryz.ntmps50
    go_wp2_with (first
      | (go_at_call 110;refine (HC.out _ (by repeat (first|exact Below.refl _ _|refine Below.setCell ?_ (by simp;try omega) _|refine Below.alloc ?_ (by simp;try omega) _|refine Below.drew ?_))).mono ?_;rintro e w2 ⟨rfl,hb⟩;have zd:w2.heap[W.heap.size]?=some (.cells #[.int .i64 0,.string ⟨#[]⟩] 24 (0,0)):=(hb.block (W.heap.size) (by first|omega|(simp;try omega))).trans (by first|exact zB.out|exact hkeep zB.out|exact hkeep (hkeep zB.out)|exact halloc2 _ _ rfl|exact heap_alloc2_old _ _ _|exact heap_alloc2_new _ _ _|exact hkeep (halloc2 _ _ rfl)|exact hkeep (hkeep (halloc2 _ _ rfl))|exact halloc2 _ _ (by simp;done));(try clear zB zL zN z0 z1 zf0 zf1);have zB:Hid (w2.heap[W.heap.size]?=some (.cells #[.int .i64 0,.string ⟨#[]⟩] 24 (0,0))):=zd;have z0:w2.cell? ⟨W.heap.size,0,none⟩=some (.int .i64 0):=(cell_of_row w2 (W.heap.size) 0 _ _ _ zd).trans rfl;have zf0:=frozen_of_row w2 (W.heap.size) 0 _ _ zd;have z1:w2.cell? ⟨W.heap.size,1,none⟩=some (.string ⟨#[]⟩):=(cell_of_row w2 (W.heap.size) 1 _ _ _ zd).trans rfl;have zf1:=frozen_of_row w2 (W.heap.size) 1 _ _ zd;have zL:W.heap.size<w2.heap.size:=(Array.getElem?_eq_some_iff.1 zd).1;have zN:¬ W.heap.size=w2.heap.size:=(by omega);clear zd;have B2:Hid (Below W.heap.size W w2):=bstep (by repeat (first|exact Below.refl _ _|refine Below.setCell ?_ (by simp;try omega) _|refine Below.alloc ?_ (by simp;try omega) _|refine Below.drew ?_)) hb;clear hb HC))
    exact bodyPost_ret (v:=tyE ((0,⟨#[]⟩),ck)) (by simp [results,Tryz.results50,go_sem,tyE, *]) rfl ⟨rfl,(by repeat (first|exact B2.out|refine Below.setCell ?_ (by simp;try omega) _|refine Below.alloc ?_ (by have:=B2.out.size;simp;try omega) _|refine Below.drew ?_))⟩
def hldR (ps:List Plc) (x:Int) (s:ByteArray):Int×Int:=if ldI ps x s=0 then (if intB x s then (0,2) else if 0<x then (0,0) else match lookL ps s.data.toList with
  | some k=>((k:Int),0)
  | none=>(0,6)) else (0,ldI ps x s)
set_option maxHeartbeats 1000000 in
theorem hld_c {b:Nat} {ps:List Plc} {W:World} (h:WAt b ps W) (x:Int) (s:ByteArray) (hs:s.size≤maxLen):Calls Tryz.prog 57 #[.pointer (some ⟨b,0,none⟩),.agg #[.int .i64 x,.string s]] W fun e w'=>e=.returned (.tuple #[.int .i64 (hldR ps x s).1,.int .i64 (hldR ps x s).2])∧Below W.heap.size W w':=by
  have HL:Hid (∀ w,Below W.heap.size W w→Calls Tryz.prog 20 #[.pointer (some ⟨b,0,none⟩),.agg #[.int .i64 x,.string s]] w fun e w'=>e=.returned (.int .i64 (ldI ps x s))∧Below w.heap.size w w'):=fun w hb=>loaded_c (h.below hb) x s hs
  have HI:Hid (∀ w:World,Calls Tryz.prog 125 #[.agg #[.int .i64 x,.string s]] w fun e w'=>e=.returned (.bool (intB x s))∧Below w.heap.size w w'):=isInt_c x s
  have HN:Hid (∀ w:World,Below W.heap.size W w→Calls Tryz.prog 73 #[.pointer (some ⟨b,0,none⟩),.string s] w fun e w'=>e=.returned (bnV (lookL ps s.data.toList))∧Below w.heap.size w w'):=fun w hb=>byName_c (h.below hb) s hs
  unfold hldR
  generalize ldI ps x s=ld at *
  generalize intB x s=iB at *
  generalize lookL ps s.data.toList=lk at *
  clear h hs
  by_cases h0:ld=0
  · subst h0
    rw [if_pos rfl]
    cases iB with
    | true =>
      rw [if_pos rfl]
      go_enter Tryz.func57,Tryz.ntmps57
      go_wp2_with (first
        | (go_at_call 20;refine (HL.out _ (by repeat (first|exact Below.refl _ _|refine Below.setCell ?_ (by simp;try omega) _|refine Below.alloc ?_ (by simp;try omega) _|refine Below.drew ?_))).mono ?_;rintro e w1 ⟨rfl,hb⟩;have gd:w1.heap[W.heap.size]?=some (.cells #[.int .i64 x,.string s] 24 (0,0)):=(hb.block (W.heap.size) (by first|omega|(simp;try omega))).trans (by first|exact gB.out|exact hkeep gB.out|exact hkeep (hkeep gB.out)|exact halloc2 _ _ rfl|exact heap_alloc2_old _ _ _|exact heap_alloc2_new _ _ _|exact hkeep (halloc2 _ _ rfl)|exact hkeep (hkeep (halloc2 _ _ rfl))|exact halloc2 _ _ (by simp;done));(try clear gB gL gN g0 g1 gf0 gf1);have gB:Hid (w1.heap[W.heap.size]?=some (.cells #[.int .i64 x,.string s] 24 (0,0))):=gd;have g0:w1.cell? ⟨W.heap.size,0,none⟩=some (.int .i64 x):=(cell_of_row w1 (W.heap.size) 0 _ _ _ gd).trans rfl;have gf0:=frozen_of_row w1 (W.heap.size) 0 _ _ gd;have g1:w1.cell? ⟨W.heap.size,1,none⟩=some (.string s):=(cell_of_row w1 (W.heap.size) 1 _ _ _ gd).trans rfl;have gf1:=frozen_of_row w1 (W.heap.size) 1 _ _ gd;have gL:W.heap.size<w1.heap.size:=(Array.getElem?_eq_some_iff.1 gd).1;have gN:¬ W.heap.size=w1.heap.size:=(by omega);clear gd;have B1:Hid (Below W.heap.size W w1):=bstep (by repeat (first|exact Below.refl _ _|refine Below.setCell ?_ (by simp;try omega) _|refine Below.alloc ?_ (by simp;try omega) _|refine Below.drew ?_)) hb;clear hb HL)
        | (go_at_call 125;refine (HI.out _).mono ?_;rintro e w2 ⟨rfl,hb⟩;have B2:Hid (Below W.heap.size W w2):=bstep B1.out hb;clear hb HI))
      exact bodyPost_ret (results_tmp2 rfl _ _ _) rfl ⟨rfl,B2.out⟩
    | false =>
      rw [if_neg (by simp)]
      by_cases hx:0<x
      · rw [if_pos hx]
        go_enter Tryz.func57,Tryz.ntmps57
        go_wp2_with (first
          | (go_at_call 20;refine (HL.out _ (by repeat (first|exact Below.refl _ _|refine Below.setCell ?_ (by simp;try omega) _|refine Below.alloc ?_ (by simp;try omega) _|refine Below.drew ?_))).mono ?_;rintro e w1 ⟨rfl,hb⟩;have gd:w1.heap[W.heap.size]?=some (.cells #[.int .i64 x,.string s] 24 (0,0)):=(hb.block (W.heap.size) (by first|omega|(simp;try omega))).trans (by first|exact gB.out|exact hkeep gB.out|exact hkeep (hkeep gB.out)|exact halloc2 _ _ rfl|exact heap_alloc2_old _ _ _|exact heap_alloc2_new _ _ _|exact hkeep (halloc2 _ _ rfl)|exact hkeep (hkeep (halloc2 _ _ rfl))|exact halloc2 _ _ (by simp;done));(try clear gB gL gN g0 g1 gf0 gf1);have gB:Hid (w1.heap[W.heap.size]?=some (.cells #[.int .i64 x,.string s] 24 (0,0))):=gd;have g0:w1.cell? ⟨W.heap.size,0,none⟩=some (.int .i64 x):=(cell_of_row w1 (W.heap.size) 0 _ _ _ gd).trans rfl;have gf0:=frozen_of_row w1 (W.heap.size) 0 _ _ gd;have g1:w1.cell? ⟨W.heap.size,1,none⟩=some (.string s):=(cell_of_row w1 (W.heap.size) 1 _ _ _ gd).trans rfl;have gf1:=frozen_of_row w1 (W.heap.size) 1 _ _ gd;have gL:W.heap.size<w1.heap.size:=(Array.getElem?_eq_some_iff.1 gd).1;have gN:¬ W.heap.size=w1.heap.size:=(by omega);clear gd;have B1:Hid (Below W.heap.size W w1):=bstep (by repeat (first|exact Below.refl _ _|refine Below.setCell ?_ (by simp;try omega) _|refine Below.alloc ?_ (by simp;try omega) _|refine Below.drew ?_)) hb;clear hb HL)
          | (go_at_call 125;refine (HI.out _).mono ?_;rintro e w2 ⟨rfl,hb⟩;have gd:w2.heap[W.heap.size]?=some (.cells #[.int .i64 x,.string s] 24 (0,0)):=(hb.block (W.heap.size) (by first|omega|(simp;try omega))).trans (by first|exact gB.out|exact hkeep gB.out|exact hkeep (hkeep gB.out)|exact halloc2 _ _ rfl|exact heap_alloc2_old _ _ _|exact heap_alloc2_new _ _ _|exact hkeep (halloc2 _ _ rfl)|exact hkeep (hkeep (halloc2 _ _ rfl))|exact halloc2 _ _ (by simp;done));(try clear gB gL gN g0 g1 gf0 gf1);have gB:Hid (w2.heap[W.heap.size]?=some (.cells #[.int .i64 x,.string s] 24 (0,0))):=gd;have g0:w2.cell? ⟨W.heap.size,0,none⟩=some (.int .i64 x):=(cell_of_row w2 (W.heap.size) 0 _ _ _ gd).trans rfl;have gf0:=frozen_of_row w2 (W.heap.size) 0 _ _ gd;have g1:w2.cell? ⟨W.heap.size,1,none⟩=some (.string s):=(cell_of_row w2 (W.heap.size) 1 _ _ _ gd).trans rfl;have gf1:=frozen_of_row w2 (W.heap.size) 1 _ _ gd;have gL:W.heap.size<w2.heap.size:=(Array.getElem?_eq_some_iff.1 gd).1;have gN:¬ W.heap.size=w2.heap.size:=(by omega);clear gd;have B2:Hid (Below W.heap.size W w2):=bstep B1.out hb;clear hb HI))
        exact bodyPost_ret (results_tmp2 rfl _ _ _) rfl ⟨rfl,B2.out⟩
      · rw [if_neg hx]
        cases lk with
        | none =>
          simp only [bnV] at HN
          go_enter Tryz.func57,Tryz.ntmps57
          go_wp2_with (first
            | (go_at_call 20;refine (HL.out _ (by repeat (first|exact Below.refl _ _|refine Below.setCell ?_ (by simp;try omega) _|refine Below.alloc ?_ (by simp;try omega) _|refine Below.drew ?_))).mono ?_;rintro e w1 ⟨rfl,hb⟩;have gd:w1.heap[W.heap.size]?=some (.cells #[.int .i64 x,.string s] 24 (0,0)):=(hb.block (W.heap.size) (by first|omega|(simp;try omega))).trans (by first|exact gB.out|exact hkeep gB.out|exact hkeep (hkeep gB.out)|exact halloc2 _ _ rfl|exact heap_alloc2_old _ _ _|exact heap_alloc2_new _ _ _|exact hkeep (halloc2 _ _ rfl)|exact hkeep (hkeep (halloc2 _ _ rfl))|exact halloc2 _ _ (by simp;done));(try clear gB gL gN g0 g1 gf0 gf1);have gB:Hid (w1.heap[W.heap.size]?=some (.cells #[.int .i64 x,.string s] 24 (0,0))):=gd;have g0:w1.cell? ⟨W.heap.size,0,none⟩=some (.int .i64 x):=(cell_of_row w1 (W.heap.size) 0 _ _ _ gd).trans rfl;have gf0:=frozen_of_row w1 (W.heap.size) 0 _ _ gd;have g1:w1.cell? ⟨W.heap.size,1,none⟩=some (.string s):=(cell_of_row w1 (W.heap.size) 1 _ _ _ gd).trans rfl;have gf1:=frozen_of_row w1 (W.heap.size) 1 _ _ gd;have gL:W.heap.size<w1.heap.size:=(Array.getElem?_eq_some_iff.1 gd).1;have gN:¬ W.heap.size=w1.heap.size:=(by omega);clear gd;have B1:Hid (Below W.heap.size W w1):=bstep (by repeat (first|exact Below.refl _ _|refine Below.setCell ?_ (by simp;try omega) _|refine Below.alloc ?_ (by simp;try omega) _|refine Below.drew ?_)) hb;clear hb HL)
            | (go_at_call 125;refine (HI.out _).mono ?_;rintro e w2 ⟨rfl,hb⟩;have gd:w2.heap[W.heap.size]?=some (.cells #[.int .i64 x,.string s] 24 (0,0)):=(hb.block (W.heap.size) (by first|omega|(simp;try omega))).trans (by first|exact gB.out|exact hkeep gB.out|exact hkeep (hkeep gB.out)|exact halloc2 _ _ rfl|exact heap_alloc2_old _ _ _|exact heap_alloc2_new _ _ _|exact hkeep (halloc2 _ _ rfl)|exact hkeep (hkeep (halloc2 _ _ rfl))|exact halloc2 _ _ (by simp;done));(try clear gB gL gN g0 g1 gf0 gf1);have gB:Hid (w2.heap[W.heap.size]?=some (.cells #[.int .i64 x,.string s] 24 (0,0))):=gd;have g0:w2.cell? ⟨W.heap.size,0,none⟩=some (.int .i64 x):=(cell_of_row w2 (W.heap.size) 0 _ _ _ gd).trans rfl;have gf0:=frozen_of_row w2 (W.heap.size) 0 _ _ gd;have g1:w2.cell? ⟨W.heap.size,1,none⟩=some (.string s):=(cell_of_row w2 (W.heap.size) 1 _ _ _ gd).trans rfl;have gf1:=frozen_of_row w2 (W.heap.size) 1 _ _ gd;have gL:W.heap.size<w2.heap.size:=(Array.getElem?_eq_some_iff.1 gd).1;have gN:¬ W.heap.size=w2.heap.size:=(by omega);clear gd;have B2:Hid (Below W.heap.size W w2):=bstep B1.out hb;clear hb HI)
            | (go_at_call 73;refine (HN.out _ B2.out).mono ?_;rintro e w3 ⟨rfl,hb⟩;have B3:Hid (Below W.heap.size W w3):=bstep B2.out hb;clear hb HN))
          exact bodyPost_ret (results_tmp2 rfl _ _ _) rfl ⟨rfl,B3.out⟩
        | some k =>
          simp only [bnV] at HN
          go_enter Tryz.func57,Tryz.ntmps57
          go_wp2_with (first
            | (go_at_call 20;refine (HL.out _ (by repeat (first|exact Below.refl _ _|refine Below.setCell ?_ (by simp;try omega) _|refine Below.alloc ?_ (by simp;try omega) _|refine Below.drew ?_))).mono ?_;rintro e w1 ⟨rfl,hb⟩;have gd:w1.heap[W.heap.size]?=some (.cells #[.int .i64 x,.string s] 24 (0,0)):=(hb.block (W.heap.size) (by first|omega|(simp;try omega))).trans (by first|exact gB.out|exact hkeep gB.out|exact hkeep (hkeep gB.out)|exact halloc2 _ _ rfl|exact heap_alloc2_old _ _ _|exact heap_alloc2_new _ _ _|exact hkeep (halloc2 _ _ rfl)|exact hkeep (hkeep (halloc2 _ _ rfl))|exact halloc2 _ _ (by simp;done));(try clear gB gL gN g0 g1 gf0 gf1);have gB:Hid (w1.heap[W.heap.size]?=some (.cells #[.int .i64 x,.string s] 24 (0,0))):=gd;have g0:w1.cell? ⟨W.heap.size,0,none⟩=some (.int .i64 x):=(cell_of_row w1 (W.heap.size) 0 _ _ _ gd).trans rfl;have gf0:=frozen_of_row w1 (W.heap.size) 0 _ _ gd;have g1:w1.cell? ⟨W.heap.size,1,none⟩=some (.string s):=(cell_of_row w1 (W.heap.size) 1 _ _ _ gd).trans rfl;have gf1:=frozen_of_row w1 (W.heap.size) 1 _ _ gd;have gL:W.heap.size<w1.heap.size:=(Array.getElem?_eq_some_iff.1 gd).1;have gN:¬ W.heap.size=w1.heap.size:=(by omega);clear gd;have B1:Hid (Below W.heap.size W w1):=bstep (by repeat (first|exact Below.refl _ _|refine Below.setCell ?_ (by simp;try omega) _|refine Below.alloc ?_ (by simp;try omega) _|refine Below.drew ?_)) hb;clear hb HL)
            | (go_at_call 125;refine (HI.out _).mono ?_;rintro e w2 ⟨rfl,hb⟩;have gd:w2.heap[W.heap.size]?=some (.cells #[.int .i64 x,.string s] 24 (0,0)):=(hb.block (W.heap.size) (by first|omega|(simp;try omega))).trans (by first|exact gB.out|exact hkeep gB.out|exact hkeep (hkeep gB.out)|exact halloc2 _ _ rfl|exact heap_alloc2_old _ _ _|exact heap_alloc2_new _ _ _|exact hkeep (halloc2 _ _ rfl)|exact hkeep (hkeep (halloc2 _ _ rfl))|exact halloc2 _ _ (by simp;done));(try clear gB gL gN g0 g1 gf0 gf1);have gB:Hid (w2.heap[W.heap.size]?=some (.cells #[.int .i64 x,.string s] 24 (0,0))):=gd;have g0:w2.cell? ⟨W.heap.size,0,none⟩=some (.int .i64 x):=(cell_of_row w2 (W.heap.size) 0 _ _ _ gd).trans rfl;have gf0:=frozen_of_row w2 (W.heap.size) 0 _ _ gd;have g1:w2.cell? ⟨W.heap.size,1,none⟩=some (.string s):=(cell_of_row w2 (W.heap.size) 1 _ _ _ gd).trans rfl;have gf1:=frozen_of_row w2 (W.heap.size) 1 _ _ gd;have gL:W.heap.size<w2.heap.size:=(Array.getElem?_eq_some_iff.1 gd).1;have gN:¬ W.heap.size=w2.heap.size:=(by omega);clear gd;have B2:Hid (Below W.heap.size W w2):=bstep B1.out hb;clear hb HI)
            | (go_at_call 73;refine (HN.out _ B2.out).mono ?_;rintro e w3 ⟨rfl,hb⟩;have B3:Hid (Below W.heap.size W w3):=bstep B2.out hb;clear hb HN))
          exact bodyPost_ret (results_tmp2 rfl _ _ _) rfl ⟨rfl,B3.out⟩
  · rw [if_neg h0]
    go_enter Tryz.func57,Tryz.ntmps57
    go_wp2_with (first
      | (go_at_call 20;refine (HL.out _ (by repeat (first|exact Below.refl _ _|refine Below.setCell ?_ (by simp;try omega) _|refine Below.alloc ?_ (by simp;try omega) _|refine Below.drew ?_))).mono ?_;rintro e w1 ⟨rfl,hb⟩;have gd:w1.heap[W.heap.size]?=some (.cells #[.int .i64 x,.string s] 24 (0,0)):=(hb.block (W.heap.size) (by first|omega|(simp;try omega))).trans (by first|exact gB.out|exact hkeep gB.out|exact hkeep (hkeep gB.out)|exact halloc2 _ _ rfl|exact heap_alloc2_old _ _ _|exact heap_alloc2_new _ _ _|exact hkeep (halloc2 _ _ rfl)|exact hkeep (hkeep (halloc2 _ _ rfl))|exact halloc2 _ _ (by simp;done));(try clear gB gL gN g0 g1 gf0 gf1);have gB:Hid (w1.heap[W.heap.size]?=some (.cells #[.int .i64 x,.string s] 24 (0,0))):=gd;have g0:w1.cell? ⟨W.heap.size,0,none⟩=some (.int .i64 x):=(cell_of_row w1 (W.heap.size) 0 _ _ _ gd).trans rfl;have gf0:=frozen_of_row w1 (W.heap.size) 0 _ _ gd;have g1:w1.cell? ⟨W.heap.size,1,none⟩=some (.string s):=(cell_of_row w1 (W.heap.size) 1 _ _ _ gd).trans rfl;have gf1:=frozen_of_row w1 (W.heap.size) 1 _ _ gd;have gL:W.heap.size<w1.heap.size:=(Array.getElem?_eq_some_iff.1 gd).1;have gN:¬ W.heap.size=w1.heap.size:=(by omega);clear gd;have B1:Hid (Below W.heap.size W w1):=bstep (by repeat (first|exact Below.refl _ _|refine Below.setCell ?_ (by simp;try omega) _|refine Below.alloc ?_ (by simp;try omega) _|refine Below.drew ?_)) hb;clear hb HL))
    exact bodyPost_ret (results_tmp2 rfl _ _ _) rfl ⟨rfl,B1.out⟩
end Go.Proofs.YtgppadlkollfaaaGreat
