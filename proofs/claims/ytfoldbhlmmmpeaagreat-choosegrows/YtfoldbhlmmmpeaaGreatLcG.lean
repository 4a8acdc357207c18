import Derived.Test.YtfoldbhlmmmpeaaGreatRsE
import Derived.Test.YtfoldbhlmmmpeaaGreatChE
import Derived.Test.YtfoldbhlmmmpeaaGreatRwA
import Derived.Test.YtfoldbhlmmmpeaaGreatRwB
import Derived.Deep.RegionHeld3
set_option maxRecDepth 100000
namespace Go.Proofs.YtfoldbhlmmmpeaaGreat
open Go.RowKit Go.Maps
def belB (ps:List Plc) (a:Nat) (s:ByteArray) (b:Nat) (t:ByteArray):Bool :=
  if intB (a:Int) s||intB (b:Int) t then ((a:Int) == (b:Int))&&(s.toList == t.toList)
  else if 0<b then false else if 0<a then abv3.contains t.data.toList
  else match lookL ps s.data.toList,lookL ps t.data.toList with
    | some x,some y=>extB (ps.map nd) x y
    | _,_=>false
set_option maxHeartbeats 4000000 in
theorem arrBelow_c {b:Nat} {ps:List Plc} {W:World} (h:WAt b ps W) (hi:WI ps) (da db M:Nat) (s t:ByteArray) (hs:s.size≤maxLen) (ht:t.size≤maxLen) (hab:da=0∨db=0) (hbg:da+M≤255∧db+M≤255) (hld:s.toList.isEmpty=false→∃ x,lookL ps s.data.toList=some x) (hlt:t.toList.isEmpty=false→∃ x,lookL ps t.data.toList=some x) :
    Calls Tryz.prog 120 #[.pointer (some ⟨b,0,none⟩),.agg #[.int .i64 ((da+M:Nat):Int),.string s],.agg #[.int .i64 ((db+M:Nat):Int),.string t]] W fun e w'=>e=.returned (.bool (belB ps da s db t))∧Below W.heap.size W w':=by
  have HI:Hid (∀ d u y w,intB d u=y→Calls Tryz.prog 116 #[.agg #[.int .i64 d,.string u]] w fun e w'=>e=.returned (.bool y)∧Below w.heap.size w w'):=fun d u y w hy=>by rw [← hy];exact isInt_c d u w
  have H3:Hid (∀ w:World,Calls Tryz.prog 189 #[] w fun e w'=>(∃ v,e=.returned v∧IsStrs w' v abv3)∧Below w.heap.size w w'):=above3_c
  have HCo:Hid (∀ v w,IsStrs w v abv3→Calls Tryz.prog 188 #[v,.string t] w fun e w'=>e=.returned (.bool (abv3.contains t.data.toList))∧Below w.heap.size w w'):=fun v w hv=>sContains_any v abv3 t.data.toList w hv
  have HX:Hid (∀ x y,lookL ps s.data.toList=some x→lookL ps t.data.toList=some y→∀ w,Below W.heap.size W w→Calls Tryz.prog 190 #[.pointer (some ⟨b,0,none⟩),.string s,.string t] w fun e w'=>e=.returned (.bool (extB (ps.map nd) x y))∧Below w.heap.size w w'):=fun x y hx hy w hb=>aExt_c (h.below hb) hi s t hs ht x y hx hy
  obtain ⟨R,hR⟩:∃ R,belB ps da s db t=R:=⟨_,rfl⟩
  have HR:Hid (belB ps da s db t=R):=hR
  rw [hR]
  have HLD:Hid _:=hld
  have HLT:Hid _:=hlt
  clear hR h hi hs ht hld hlt
  go_enter Tryz.func120,Tryz.ntmps120
  go_wp2
  go_loopg [] M (fun k wr=>k≤M∧Hid (wr.heap[W.heap.size]?=some (.cells #[.int .i64 ((da+k:Nat):Int),.string s] 58 (0,0)))∧Hid (wr.heap[W.heap.size+1]?=some (.cells #[.int .i64 ((db+k:Nat):Int),.string t] 58 (0,0)))∧Hid (Below W.heap.size W wr))
  case atStart=>exact ⟨Nat.le_refl _,heap_alloc2_old W _ _,heap_alloc2_new W _ _,(by repeat (first|exact Below.refl _ _|refine Below.setCell ?_ (by simp;try omega) _|refine Below.alloc ?_ (by simp;try omega) _|refine Below.drew ?_))⟩
  case round =>
    obtain ⟨hkM,hA,hB,hb⟩:=hrel
    have hsA:W.heap.size<wr.heap.size:=(Array.getElem?_eq_some_iff.1 hA.out).1
    have hsB:W.heap.size+1<wr.heap.size:=(Array.getElem?_eq_some_iff.1 hB.out).1
    have a0:=cell_of_row wr W.heap.size 0 _ _ _ hA.out
    have fa0:=frozen_of_row wr W.heap.size 0 _ _ hA.out
    have a1:=cell_of_row wr W.heap.size 1 _ _ _ hA.out
    have b0:=cell_of_row wr (W.heap.size+1) 0 _ _ _ hB.out
    have fb0:=frozen_of_row wr (W.heap.size+1) 0 _ _ hB.out
    have b1:=cell_of_row wr (W.heap.size+1) 1 _ _ _ hB.out
    simp only [List.getElem?_toArray,List.getElem?_cons_zero,List.getElem?_cons_succ] at a0 a1 b0 b1
    cases gk with
    | succ k =>
      have h1:(0:Int)<((da+(k+1):Nat):Int):=by omega
      have h2:(0:Int)<((db+(k+1):Nat):Int):=by omega
      go_wp2
      go_roundg k
      case rel =>
        have ea:((da:Int)+((k:Int)+1) - 1)=((da+k:Nat):Int):=by omega
        have eb:((db:Int)+((k:Int)+1) - 1)=((db+k:Nat):Int):=by omega
        rw [ea,eb]
        refine ⟨by omega,?_,?_,?_⟩
        · rw [Hid,heap_setCell_other _ _ _ _ (by simp),heap_setCell_same _ _ _ _ _ _ hA.out];rfl
        · rw [Hid,heap_setCell_same _ _ _ #[.int .i64 ((db+(k+1):Nat):Int),.string t] 58 _ (by rw [heap_setCell_other _ _ _ _ (by simp)];exact hB.out)];rfl
        · exact (hb.out.setCell (by simp) _).setCell (by simp) _
      case measure=>omega
    | zero =>
      simp only [Nat.add_zero] at a0 b0
      have hN:¬ ((0:Int)<(da:Int)∧(0:Int)<(db:Int)):=by omega
      clear hA hB fa0 fb0
      obtain ⟨i1,hi1⟩:∃ x,intB (da:Int) s=x:=⟨_,rfl⟩
      obtain ⟨i2,hi2⟩:∃ x,intB (db:Int) t=x:=⟨_,rfl⟩
      unfold belB at HR
      rw [hi1,hi2] at HR
      have E1:Hid _:=hi1
      have E2:Hid _:=hi2
      clear hi1 hi2
      have BB:Hid (Below W.heap.size W wr):=hb
      clear hb
      cases i1 with
      | true =>
        simp only [Bool.true_or,if_true] at HR
        clear HX HLD HLT hab hbg hkM
        generalize (da:Int)=xa at *
        generalize (db:Int)=xb at *
        go_wp2_with (first
          | (go_at_call 116;refine (HI.out _ _ _ _ (by first|exact E1.out|exact E2.out)).mono ?_;rintro e w1 ⟨rfl,hb1⟩;have BB2:Below W.heap.size W w1:=bstep BB.out hb1;replace a0:=(hb1.cell (p:=⟨W.heap.size,0,none⟩) hsA).trans a0;replace a1:=(hb1.cell (p:=⟨W.heap.size,1,none⟩) hsA).trans a1;replace b0:=(hb1.cell (p:=⟨W.heap.size+1,0,none⟩) hsB).trans b0;replace b1:=(hb1.cell (p:=⟨W.heap.size+1,1,none⟩) hsB).trans b1;replace hsA:=Nat.lt_of_lt_of_le hsA hb1.size;replace hsB:=Nat.lt_of_lt_of_le hsB hb1.size;clear BB;have BB:Hid (Below W.heap.size W w1):=BB2;clear hb1 BB2)
          | (go_at_call 189;refine (H3.out _).mono ?_;rintro e w1 ⟨⟨vv,rfl,hv⟩,hb1⟩;have HV:Hid (IsStrs w1 vv abv3):=hv;have BB2:Below W.heap.size W w1:=bstep BB.out hb1;replace b1:=(hb1.cell (p:=⟨W.heap.size+1,1,none⟩) hsB).trans b1;clear BB;have BB:Hid (Below W.heap.size W w1):=BB2;clear hb1 BB2 hv)
          | (go_at_call 188;refine (HCo.out _ _ HV.out).mono ?_;rintro e w2 ⟨rfl,hb1⟩;have BB2:Below W.heap.size W w2:=bstep BB.out hb1;clear BB;have BB:Hid (Below W.heap.size W w2):=BB2;clear hb1 BB2)
          | (go_at_call 190;refine (HX.out _ BB.out).mono ?_;rintro e w2 ⟨rfl,hb1⟩;have BB2:Below W.heap.size W w2:=bstep BB.out hb1;clear BB;have BB:Hid (Below W.heap.size W w2):=BB2;clear hb1 BB2))
        all_goals go_ret
        all_goals exact ⟨retB (by rw [← HR.out];first|(simp [*];done)|(simp [*];intro h;exfalso;omega)),BB.out⟩
      | false =>
        cases i2 with
        | true =>
          simp only [Bool.or_true,if_true] at HR
          clear HX HLD HLT hab hbg hkM
          generalize (da:Int)=xa at *
          generalize (db:Int)=xb at *
          go_wp2_with (first
            | (go_at_call 116;refine (HI.out _ _ _ _ (by first|exact E1.out|exact E2.out)).mono ?_;rintro e w1 ⟨rfl,hb1⟩;have BB2:Below W.heap.size W w1:=bstep BB.out hb1;replace a0:=(hb1.cell (p:=⟨W.heap.size,0,none⟩) hsA).trans a0;replace a1:=(hb1.cell (p:=⟨W.heap.size,1,none⟩) hsA).trans a1;replace b0:=(hb1.cell (p:=⟨W.heap.size+1,0,none⟩) hsB).trans b0;replace b1:=(hb1.cell (p:=⟨W.heap.size+1,1,none⟩) hsB).trans b1;replace hsA:=Nat.lt_of_lt_of_le hsA hb1.size;replace hsB:=Nat.lt_of_lt_of_le hsB hb1.size;clear BB;have BB:Hid (Below W.heap.size W w1):=BB2;clear hb1 BB2)
            | (go_at_call 189;refine (H3.out _).mono ?_;rintro e w1 ⟨⟨vv,rfl,hv⟩,hb1⟩;have HV:Hid (IsStrs w1 vv abv3):=hv;have BB2:Below W.heap.size W w1:=bstep BB.out hb1;replace b1:=(hb1.cell (p:=⟨W.heap.size+1,1,none⟩) hsB).trans b1;clear BB;have BB:Hid (Below W.heap.size W w1):=BB2;clear hb1 BB2 hv)
            | (go_at_call 188;refine (HCo.out _ _ HV.out).mono ?_;rintro e w2 ⟨rfl,hb1⟩;have BB2:Below W.heap.size W w2:=bstep BB.out hb1;clear BB;have BB:Hid (Below W.heap.size W w2):=BB2;clear hb1 BB2)
            | (go_at_call 190;refine (HX.out _ BB.out).mono ?_;rintro e w2 ⟨rfl,hb1⟩;have BB2:Below W.heap.size W w2:=bstep BB.out hb1;clear BB;have BB:Hid (Below W.heap.size W w2):=BB2;clear hb1 BB2))
          all_goals go_ret
          all_goals exact ⟨retB (by rw [← HR.out];first|(simp [*];done)|(simp [*];intro h;exfalso;omega)),BB.out⟩
        | false =>
          simp only [Bool.or_false,Bool.false_eq_true,if_false] at HR
          by_cases hdb:0<db
          · rw [if_pos hdb] at HR
            have hdb2:(0:Int)<(db:Int):=by omega
            clear HX HLD HLT
            go_wp2_with (first
              | (go_at_call 116;refine (HI.out _ _ _ _ (by first|exact E1.out|exact E2.out)).mono ?_;rintro e w1 ⟨rfl,hb1⟩;have BB2:Below W.heap.size W w1:=bstep BB.out hb1;replace a0:=(hb1.cell (p:=⟨W.heap.size,0,none⟩) hsA).trans a0;replace a1:=(hb1.cell (p:=⟨W.heap.size,1,none⟩) hsA).trans a1;replace b0:=(hb1.cell (p:=⟨W.heap.size+1,0,none⟩) hsB).trans b0;replace b1:=(hb1.cell (p:=⟨W.heap.size+1,1,none⟩) hsB).trans b1;replace hsA:=Nat.lt_of_lt_of_le hsA hb1.size;replace hsB:=Nat.lt_of_lt_of_le hsB hb1.size;clear BB;have BB:Hid (Below W.heap.size W w1):=BB2;clear hb1 BB2)
              | (go_at_call 189;refine (H3.out _).mono ?_;rintro e w1 ⟨⟨vv,rfl,hv⟩,hb1⟩;have HV:Hid (IsStrs w1 vv abv3):=hv;have BB2:Below W.heap.size W w1:=bstep BB.out hb1;replace b1:=(hb1.cell (p:=⟨W.heap.size+1,1,none⟩) hsB).trans b1;clear BB;have BB:Hid (Below W.heap.size W w1):=BB2;clear hb1 BB2 hv)
              | (go_at_call 188;refine (HCo.out _ _ HV.out).mono ?_;rintro e w2 ⟨rfl,hb1⟩;have BB2:Below W.heap.size W w2:=bstep BB.out hb1;clear BB;have BB:Hid (Below W.heap.size W w2):=BB2;clear hb1 BB2)
              | (go_at_call 190;refine (HX.out _ BB.out).mono ?_;rintro e w2 ⟨rfl,hb1⟩;have BB2:Below W.heap.size W w2:=bstep BB.out hb1;clear BB;have BB:Hid (Below W.heap.size W w2):=BB2;clear hb1 BB2))
            all_goals go_ret
            all_goals exact ⟨retB HR.out,BB.out⟩
          · rw [if_neg hdb] at HR
            have hdb2:¬ (0:Int)<(db:Int):=by omega
            by_cases hda:0<da
            · rw [if_pos hda] at HR
              generalize abv3.contains t.data.toList=ct at *
              have hda2:(0:Int)<(da:Int):=by omega
              clear HX HLD HLT
              go_wp2_with (first
                | (go_at_call 116;refine (HI.out _ _ _ _ (by first|exact E1.out|exact E2.out)).mono ?_;rintro e w1 ⟨rfl,hb1⟩;have BB2:Below W.heap.size W w1:=bstep BB.out hb1;replace a0:=(hb1.cell (p:=⟨W.heap.size,0,none⟩) hsA).trans a0;replace a1:=(hb1.cell (p:=⟨W.heap.size,1,none⟩) hsA).trans a1;replace b0:=(hb1.cell (p:=⟨W.heap.size+1,0,none⟩) hsB).trans b0;replace b1:=(hb1.cell (p:=⟨W.heap.size+1,1,none⟩) hsB).trans b1;replace hsA:=Nat.lt_of_lt_of_le hsA hb1.size;replace hsB:=Nat.lt_of_lt_of_le hsB hb1.size;clear BB;have BB:Hid (Below W.heap.size W w1):=BB2;clear hb1 BB2)
                | (go_at_call 189;refine (H3.out _).mono ?_;rintro e w1 ⟨⟨vv,rfl,hv⟩,hb1⟩;have HV:Hid (IsStrs w1 vv abv3):=hv;have BB2:Below W.heap.size W w1:=bstep BB.out hb1;replace b1:=(hb1.cell (p:=⟨W.heap.size+1,1,none⟩) hsB).trans b1;clear BB;have BB:Hid (Below W.heap.size W w1):=BB2;clear hb1 BB2 hv)
                | (go_at_call 188;refine (HCo.out _ _ HV.out).mono ?_;rintro e w2 ⟨rfl,hb1⟩;have BB2:Below W.heap.size W w2:=bstep BB.out hb1;clear BB;have BB:Hid (Below W.heap.size W w2):=BB2;clear hb1 BB2)
                | (go_at_call 190;refine (HX.out _ BB.out).mono ?_;rintro e w2 ⟨rfl,hb1⟩;have BB2:Below W.heap.size W w2:=bstep BB.out hb1;clear BB;have BB:Hid (Below W.heap.size W w2):=BB2;clear hb1 BB2))
              go_region_held3 (fun w'=>w'.cell? ⟨W.heap.size+1,1,none⟩=some (.string t)) (go_keep) (first
                | (go_at_call 189;refine (H3.out _).mono ?_;rintro e w3 ⟨⟨vv,rfl,hv⟩,hb1⟩;have HV:Hid (IsStrs w3 vv abv3):=hv;obtain ⟨ao,cap,rfl,_,_,_⟩:=hv;have BB2:Below W.heap.size W w3:=bstep BB.out.drew hb1;replace b1:w3.cell? ⟨W.heap.size+1,1,none⟩=some (.string t):=(hb1.cell (p:=⟨W.heap.size+1,1,none⟩) hsB).trans b1;clear BB;have BB:Hid (Below W.heap.size W w3):=BB2;clear hb1 BB2 H3)
                | (go_at_call 188;refine (HCo.out _ _ HV.out).mono ?_;rintro e w4 ⟨rfl,hb1⟩;have BB2:Below W.heap.size W w4:=bstep BB.out hb1;replace b1:w4.cell? ⟨W.heap.size+1,1,none⟩=some (.string t):=(hb1.cell (p:=⟨W.heap.size+1,1,none⟩) (World.block_lt_of_cell? _ _ b1)).trans b1;clear BB;have BB:Hid (Below W.heap.size W w4):=BB2;clear hb1 BB2 HCo))
              go_wp2
              all_goals go_ret
              all_goals exact ⟨retB HR.out,BB.out⟩
            · rw [if_neg hda] at HR
              have hda2:¬ (0:Int)<(da:Int):=by omega
              have hes:s.toList.isEmpty=false:=by
                have:=E1.out
                unfold intB at this
                rw [show (da:Int)=0 by omega] at this
                simpa using this
              have het:t.toList.isEmpty=false:=by
                have:=E2.out
                unfold intB at this
                rw [show (db:Int)=0 by omega] at this
                simpa using this
              obtain ⟨x,hx⟩:=HLD.out hes
              obtain ⟨y,hy⟩:=HLT.out het
              rw [hx,hy] at HR
              simp only at HR
              have HX:Hid _:=HX.out x y hx hy
              clear HLD HLT hes het hx hy
              go_wp2_with (first
                | (go_at_call 116;refine (HI.out _ _ _ _ (by first|exact E1.out|exact E2.out)).mono ?_;rintro e w1 ⟨rfl,hb1⟩;have BB2:Below W.heap.size W w1:=bstep BB.out hb1;replace a0:=(hb1.cell (p:=⟨W.heap.size,0,none⟩) hsA).trans a0;replace a1:=(hb1.cell (p:=⟨W.heap.size,1,none⟩) hsA).trans a1;replace b0:=(hb1.cell (p:=⟨W.heap.size+1,0,none⟩) hsB).trans b0;replace b1:=(hb1.cell (p:=⟨W.heap.size+1,1,none⟩) hsB).trans b1;replace hsA:=Nat.lt_of_lt_of_le hsA hb1.size;replace hsB:=Nat.lt_of_lt_of_le hsB hb1.size;clear BB;have BB:Hid (Below W.heap.size W w1):=BB2;clear hb1 BB2)
                | (go_at_call 189;refine (H3.out _).mono ?_;rintro e w1 ⟨⟨vv,rfl,hv⟩,hb1⟩;have HV:Hid (IsStrs w1 vv abv3):=hv;have BB2:Below W.heap.size W w1:=bstep BB.out hb1;replace b1:=(hb1.cell (p:=⟨W.heap.size+1,1,none⟩) hsB).trans b1;clear BB;have BB:Hid (Below W.heap.size W w1):=BB2;clear hb1 BB2 hv)
                | (go_at_call 188;refine (HCo.out _ _ HV.out).mono ?_;rintro e w2 ⟨rfl,hb1⟩;have BB2:Below W.heap.size W w2:=bstep BB.out hb1;clear BB;have BB:Hid (Below W.heap.size W w2):=BB2;clear hb1 BB2)
                | (go_at_call 190;refine (HX.out _ BB.out).mono ?_;rintro e w2 ⟨rfl,hb1⟩;have BB2:Below W.heap.size W w2:=bstep BB.out hb1;clear BB;have BB:Hid (Below W.heap.size W w2):=BB2;clear hb1 BB2))
              all_goals go_ret
              all_goals exact ⟨retB HR.out,BB.out⟩
def subB (ps:List Plc) (x:Int) (s:ByteArray) (y:Int) (t:ByteArray):Bool:=belB ps (x.toNat - min x.toNat y.toNat) s (y.toNat - min x.toNat y.toNat) t
def suI (ps:List Plc) (x:Int) (s:ByteArray) (y:Int) (t:ByteArray):Value :=
  if ldI ps x s=0 then (if ldI ps y t=0 then .tuple #[.bool (subB ps x s y t),.int .i64 0] else .tuple #[.bool false,.int .i64 (ldI ps y t)]) else .tuple #[.bool false,.int .i64 (ldI ps x s)]
theorem ld_facts {ps:List Plc} {x:Int} {s:ByteArray} (h:ldI ps x s=0):0≤x∧x≤255∧(s.toList.isEmpty=false→∃ k,lookL ps s.data.toList=some k):=by
  unfold ldI at h
  cases hs:sndB x s.data.toList with
  | false=>rw [hs] at h;revert h;simp
  | true =>
    rw [hs] at h
    have hs2:=hs
    unfold sndB at hs2
    simp only [Bool.and_eq_true,decide_eq_true_eq] at hs2
    refine ⟨hs2.1.1,hs2.1.2,fun he=>?_⟩
    rw [he] at h
    cases hl:lookL ps s.data.toList with
    | some k=>exact ⟨k,rfl⟩
    | none=>rw [hl] at h;revert h;simp
set_option maxHeartbeats 1000000 in
theorem sub_c {b:Nat} {ps:List Plc} {W:World} (h:WAt b ps W) (hi:WI ps) (x:Int) (s:ByteArray) (y:Int) (t:ByteArray) (hs:s.size≤maxLen) (ht:t.size≤maxLen):Calls Tryz.prog 50 #[.pointer (some ⟨b,0,none⟩),.agg #[.int .i64 x,.string s],.agg #[.int .i64 y,.string t]] W fun e w'=>e=.returned (suI ps x s y t)∧Below W.heap.size W w':=by
  have HL:Hid (∀ z u r w,Below W.heap.size W w→u.size≤maxLen→ldI ps z u=r→Calls Tryz.prog 115 #[.pointer (some ⟨b,0,none⟩),.agg #[.int .i64 z,.string u]] w fun e w'=>e=.returned (.int .i64 r)∧Below w.heap.size w w'):=fun z u r w hb hu hr=>by rw [← hr];exact loaded_c (h.below hb) z u hu
  have HL1:Hid (∀ z u w,Below W.heap.size W w→z=x→u=s→Calls Tryz.prog 115 #[.pointer (some ⟨b,0,none⟩),.agg #[.int .i64 z,.string u]] w fun e w'=>e=.returned (.int .i64 (ldI ps x s))∧Below w.heap.size w w'):=fun z u w hb hz hu=>by rw [hz,hu];exact HL.out x s _ w hb hs rfl
  have HL2:Hid (∀ z u w,Below W.heap.size W w→z=y→u=t→Calls Tryz.prog 115 #[.pointer (some ⟨b,0,none⟩),.agg #[.int .i64 z,.string u]] w fun e w'=>e=.returned (.int .i64 (ldI ps y t))∧Below w.heap.size w w'):=fun z u w hb hz hu=>by rw [hz,hu];exact HL.out y t _ w hb ht rfl
  clear HL
  have tl:∀ (w1:World) (o1 o2:Obj),Below ((W.alloc o1).alloc o2).heap.size ((W.alloc o1).alloc o2) w1→True:=fun _ _ _ _=>trivial
  clear tl
  by_cases h1:ldI ps x s=0
  · by_cases h2:ldI ps y t=0
    · have e:suI ps x s y t=.tuple #[.bool (subB ps x s y t),.int .i64 0]:=by rw [suI,if_pos h1,if_pos h2]
      rw [e]
      obtain ⟨x0,x1,xk⟩:=ld_facts h1
      obtain ⟨y0,y1,yk⟩:=ld_facts h2
      have HB:Hid (∀ w,Below W.heap.size W w→Calls Tryz.prog 120 #[.pointer (some ⟨b,0,none⟩),.agg #[.int .i64 x,.string s],.agg #[.int .i64 y,.string t]] w fun e w'=>e=.returned (.bool (subB ps x s y t))∧Below w.heap.size w w'):=fun w hb=>by
        have hq:=arrBelow_c (h.below hb) hi (x.toNat - min x.toNat y.toNat) (y.toNat - min x.toNat y.toNat) (min x.toNat y.toNat) s t hs ht (by omega) (by omega) xk yk
        rw [show ((x.toNat - min x.toNat y.toNat+min x.toNat y.toNat:Nat):Int)=x by omega,show ((y.toNat - min x.toNat y.toNat+min x.toNat y.toNat:Nat):Int)=y by omega] at hq
        exact hq
      rw [h1] at HL1
      rw [h2] at HL2
      generalize subB ps x s y t=R at *
      clear h hi hs ht h1 h2 e x0 x1 xk y0 y1 yk
      go_enter Tryz.func50,Tryz.ntmps50
      go_wp2_with (first
        | (go_at_call 115;refine (HL1.out _ _ _ (by repeat (first|exact Below.refl _ _|refine Below.setCell ?_ (by simp;try omega) _|refine Below.alloc ?_ (by simp;try omega) _|refine Below.drew ?_)) (by rfl) (by rfl)).mono ?_;rintro e w1 ⟨rfl,hb⟩;have hA:=(hb.block W.heap.size (by simp;omega)).trans (heap_alloc2_old W _ _);have hB:=(hb.block (W.heap.size+1) (by simp)).trans (heap_alloc2_new W _ _);have hsA:W.heap.size<w1.heap.size:=(Array.getElem?_eq_some_iff.1 hA).1;have hsB:W.heap.size+1<w1.heap.size:=(Array.getElem?_eq_some_iff.1 hB).1;have a0:=cell_of_row w1 W.heap.size 0 _ _ _ hA;have a1:=cell_of_row w1 W.heap.size 1 _ _ _ hA;have b0:=cell_of_row w1 (W.heap.size+1) 0 _ _ _ hB;have b1:=cell_of_row w1 (W.heap.size+1) 1 _ _ _ hB;simp only [List.getElem?_toArray,List.getElem?_cons_zero,List.getElem?_cons_succ] at a0 a1 b0 b1;have BB:Hid (Below W.heap.size W w1):=bstep (by repeat (first|exact Below.refl _ _|refine Below.setCell ?_ (by simp;try omega) _|refine Below.alloc ?_ (by simp;try omega) _|refine Below.drew ?_)) hb;clear hb HL1 hA hB)
        | (go_at_call 115;refine (HL2.out _ _ _ BB.out (by rfl) (by rfl)).mono ?_;rintro e w2 ⟨rfl,hb⟩;replace a0:=(hb.cell (p:=⟨W.heap.size,0,none⟩) hsA).trans a0;replace a1:=(hb.cell (p:=⟨W.heap.size,1,none⟩) hsA).trans a1;replace b0:=(hb.cell (p:=⟨W.heap.size+1,0,none⟩) hsB).trans b0;replace b1:=(hb.cell (p:=⟨W.heap.size+1,1,none⟩) hsB).trans b1;have BB2:Below W.heap.size W w2:=bstep BB.out hb;clear BB;have BB:Hid (Below W.heap.size W w2):=BB2;clear hb BB2 HL2)
        | (go_at_call 120;refine (HB.out _ BB.out).mono ?_;rintro e w3 ⟨rfl,hb⟩;have BB2:Below W.heap.size W w3:=bstep BB.out hb;clear BB;have BB:Hid (Below W.heap.size W w3):=BB2;clear hb BB2 HB))
      exact bodyPost_ret (results_tmp2 rfl _ _ _) rfl ⟨rfl,BB.out⟩
    · have e:suI ps x s y t=.tuple #[.bool false,.int .i64 (ldI ps y t)]:=by rw [suI,if_pos h1,if_neg h2]
      rw [e]
      rw [h1] at HL1
      generalize ldI ps y t=R at *
      clear h hi hs ht h1 e
      go_enter Tryz.func50,Tryz.ntmps50
      go_wp2_with (first
        | (go_at_call 115;refine (HL1.out _ _ _ (by repeat (first|exact Below.refl _ _|refine Below.setCell ?_ (by simp;try omega) _|refine Below.alloc ?_ (by simp;try omega) _|refine Below.drew ?_)) (by rfl) (by rfl)).mono ?_;rintro e w1 ⟨rfl,hb⟩;have hA:=(hb.block W.heap.size (by simp;omega)).trans (heap_alloc2_old W _ _);have hB:=(hb.block (W.heap.size+1) (by simp)).trans (heap_alloc2_new W _ _);have a0:=cell_of_row w1 W.heap.size 0 _ _ _ hA;have a1:=cell_of_row w1 W.heap.size 1 _ _ _ hA;have b0:=cell_of_row w1 (W.heap.size+1) 0 _ _ _ hB;have b1:=cell_of_row w1 (W.heap.size+1) 1 _ _ _ hB;simp only [List.getElem?_toArray,List.getElem?_cons_zero,List.getElem?_cons_succ] at a0 a1 b0 b1;have BB:Hid (Below W.heap.size W w1):=bstep (by repeat (first|exact Below.refl _ _|refine Below.setCell ?_ (by simp;try omega) _|refine Below.alloc ?_ (by simp;try omega) _|refine Below.drew ?_)) hb;clear hb HL1 hA hB)
        | (go_at_call 115;refine (HL2.out _ _ _ BB.out (by rfl) (by rfl)).mono ?_;rintro e w2 ⟨rfl,hb⟩;have BB2:Below W.heap.size W w2:=bstep BB.out hb;clear BB;have BB:Hid (Below W.heap.size W w2):=BB2;clear hb BB2 HL2))
      exact bodyPost_ret (results_tmp2 rfl _ _ _) rfl ⟨rfl,BB.out⟩
  · have e:suI ps x s y t=.tuple #[.bool false,.int .i64 (ldI ps x s)]:=by rw [suI,if_neg h1]
    rw [e]
    generalize ldI ps x s=R at *
    clear h hi hs ht e
    go_enter Tryz.func50,Tryz.ntmps50
    go_wp2_with (first
      | (go_at_call 115;refine (HL1.out _ _ _ (by repeat (first|exact Below.refl _ _|refine Below.setCell ?_ (by simp;try omega) _|refine Below.alloc ?_ (by simp;try omega) _|refine Below.drew ?_)) (by rfl) (by rfl)).mono ?_;rintro e w1 ⟨rfl,hb⟩;have BB:Hid (Below W.heap.size W w1):=bstep (by repeat (first|exact Below.refl _ _|refine Below.setCell ?_ (by simp;try omega) _|refine Below.alloc ?_ (by simp;try omega) _|refine Below.drew ?_)) hb;clear hb HL1))
    exact bodyPost_ret (results_tmp2 rfl _ _ _) rfl ⟨rfl,BB.out⟩
def crvI (ps:List Plc) (tx:Int) (ts:ByteArray):Int:=if (hldR ps tx ts).2=0 then (if ifcI ps (hldR ps tx ts).1 then 2 else 0) else (hldR ps tx ts).2
set_option maxHeartbeats 2000000 in
theorem crv_c {b:Nat} {ps:List Plc} {W:World} (h:WAt b ps W) (tx:Int) (ts:ByteArray) (hs:ts.size≤maxLen):Calls Tryz.prog 157 #[.pointer (some ⟨b,0,none⟩),.agg #[.int .i64 tx,.string ts]] W fun e w'=>e=.returned (.int .i64 (crvI ps tx ts))∧Below W.heap.size W w':=by
  have HH:Hid (∀ w,Below W.heap.size W w→Calls Tryz.prog 48 #[.pointer (some ⟨b,0,none⟩),.agg #[.int .i64 tx,.string ts]] w fun e w'=>e=.returned (.tuple #[.int .i64 (hldR ps tx ts).1,.int .i64 (hldR ps tx ts).2])∧Below w.heap.size w w'):=fun w hb=>hld_c (h.below hb) tx ts hs
  have HI:Hid (∀ w,Below W.heap.size W w→Calls Tryz.prog 44 #[.pointer (some ⟨b,0,none⟩),.int .i64 (hldR ps tx ts).1] w fun e w'=>e=.returned (.bool (ifcI ps (hldR ps tx ts).1))∧Below w.heap.size w w'):=fun w hb=>isIface_c (h.below hb) _
  unfold crvI
  generalize hldR ps tx ts=D at *
  obtain ⟨d1,d2⟩:=D
  simp only at HH HI ⊢
  generalize ifcI ps d1=I at *
  clear h hs
  have BB:Hid (Below W.heap.size W W):=Below.refl _ _
  by_cases h0:d2=0
  · subst h0
    rw [if_pos rfl]
    cases I
    all_goals
      go_enter Tryz.func157,Tryz.ntmps157
      go_wp2_with (first
        | (go_at_call 48;refine (HH.out _ (by repeat (first|refine Below.setCell ?_ (by simp;try omega) _|refine Below.alloc ?_ (by have:=BB.out.size;simp;try omega) _|refine Below.drew ?_|exact BB.out))).mono ?_;rintro e w1 ⟨rfl,hb⟩;have BB2:Below W.heap.size W w1:=bstep (by repeat (first|refine Below.setCell ?_ (by simp;try omega) _|refine Below.alloc ?_ (by have:=BB.out.size;simp;try omega) _|refine Below.drew ?_|exact BB.out)) hb;clear BB;have BB:Hid (Below W.heap.size W w1):=BB2;clear BB2 hb)
        | (go_at_call 44;refine (HI.out _ (by repeat (first|refine Below.setCell ?_ (by simp;try omega) _|refine Below.alloc ?_ (by have:=BB.out.size;simp;try omega) _|refine Below.drew ?_|exact BB.out))).mono ?_;rintro e w2 ⟨rfl,hb⟩;have BB2:Below W.heap.size W w2:=bstep (by repeat (first|refine Below.setCell ?_ (by simp;try omega) _|refine Below.alloc ?_ (by have:=BB.out.size;simp;try omega) _|refine Below.drew ?_|exact BB.out)) hb;clear BB;have BB:Hid (Below W.heap.size W w2):=BB2;clear BB2 hb))
    · exact bodyPost_ret (results_tmp rfl _ _ _) rfl ⟨rfl,(by repeat (first|refine Below.setCell ?_ (by simp;try omega) _|refine Below.alloc ?_ (by have:=BB.out.size;simp;try omega) _|refine Below.drew ?_|exact BB.out))⟩
    · exact bodyPost_ret (results_tmp rfl _ _ _) rfl ⟨rfl,(by repeat (first|refine Below.setCell ?_ (by simp;try omega) _|refine Below.alloc ?_ (by have:=BB.out.size;simp;try omega) _|refine Below.drew ?_|exact BB.out))⟩
  · rw [if_neg h0]
    clear HI
    go_enter Tryz.func157,Tryz.ntmps157
    go_wp2_with (first
      | (go_at_call 48;refine (HH.out _ (by repeat (first|refine Below.setCell ?_ (by simp;try omega) _|refine Below.alloc ?_ (by have:=BB.out.size;simp;try omega) _|refine Below.drew ?_|exact BB.out))).mono ?_;rintro e w1 ⟨rfl,hb⟩;have BB2:Below W.heap.size W w1:=bstep (by repeat (first|refine Below.setCell ?_ (by simp;try omega) _|refine Below.alloc ?_ (by have:=BB.out.size;simp;try omega) _|refine Below.drew ?_|exact BB.out)) hb;clear BB;have BB:Hid (Below W.heap.size W w1):=BB2;clear BB2 hb))
    exact bodyPost_ret (results_tmp rfl _ _ _) rfl ⟨rfl,(by repeat (first|refine Below.setCell ?_ (by simp;try omega) _|refine Below.alloc ?_ (by have:=BB.out.size;simp;try omega) _|refine Below.drew ?_|exact BB.out))⟩
def casI (ps:List Plc) (d k tx:Int) (ts:ByteArray):Int:=if rckI ps d=0 then (if k=1∨k=2∨k=3 then crvI ps tx ts else if k=4 then 0 else 2) else rckI ps d
set_option maxHeartbeats 2000000 in
theorem cas_c {b:Nat} {ps:List Plc} {W:World} (h:WAt b ps W) (d k tx:Int) (ts:ByteArray) (hs:ts.size≤maxLen):Calls Tryz.prog 83 #[.pointer (some ⟨b,0,none⟩),.int .i64 d,.int .i64 k,.agg #[.int .i64 tx,.string ts]] W fun e w'=>e=.returned (.int .i64 (casI ps d k tx ts))∧Below W.heap.size W w':=by
  have HC:Hid (∀ w,Below W.heap.size W w→Calls Tryz.prog 156 #[.pointer (some ⟨b,0,none⟩),.int .i64 d] w fun e w'=>e=.returned (.int .i64 (rckI ps d))∧w'=w):=fun w hb=>cck_c (h.below hb) d
  have HV:Hid (∀ w,Below W.heap.size W w→Calls Tryz.prog 157 #[.pointer (some ⟨b,0,none⟩),.agg #[.int .i64 tx,.string ts]] w fun e w'=>e=.returned (.int .i64 (crvI ps tx ts))∧Below w.heap.size w w'):=fun w hb=>crv_c (h.below hb) tx ts hs
  unfold casI
  generalize rckI ps d=R at *
  generalize crvI ps tx ts=V at *
  clear h hs
  have BB:Hid (Below W.heap.size W W):=Below.refl _ _
  by_cases h0:R=0
  · subst h0
    rw [if_pos rfl]
    by_cases h123:k=1∨k=2∨k=3
    · rw [if_pos h123]
      rcases h123 with rfl|rfl|rfl
      all_goals
        go_enter Tryz.func83,Tryz.ntmps83
        go_wp2_with (first
          | (go_at_call 156;refine (HC.out _ (by repeat (first|refine Below.setCell ?_ (by simp;try omega) _|refine Below.alloc ?_ (by have:=BB.out.size;simp;try omega) _|refine Below.drew ?_|exact BB.out))).mono ?_;rintro e w9 ⟨rfl,hw9⟩;rw [hw9];clear hw9 w9)
          | (go_at_call 157;refine (HV.out _ (by repeat (first|refine Below.setCell ?_ (by simp;try omega) _|refine Below.alloc ?_ (by have:=BB.out.size;simp;try omega) _|refine Below.drew ?_|exact BB.out))).mono ?_;rintro e w1 ⟨rfl,hb⟩;have BB2:Below W.heap.size W w1:=bstep (by repeat (first|refine Below.setCell ?_ (by simp;try omega) _|refine Below.alloc ?_ (by have:=BB.out.size;simp;try omega) _|refine Below.drew ?_|exact BB.out)) hb;clear BB;have BB:Hid (Below W.heap.size W w1):=BB2;clear BB2 hb))
      · exact bodyPost_ret (results_tmp rfl _ _ _) rfl ⟨rfl,(by repeat (first|refine Below.setCell ?_ (by simp;try omega) _|refine Below.alloc ?_ (by have:=BB.out.size;simp;try omega) _|refine Below.drew ?_|exact BB.out))⟩
      · exact bodyPost_ret (results_tmp rfl _ _ _) rfl ⟨rfl,(by repeat (first|refine Below.setCell ?_ (by simp;try omega) _|refine Below.alloc ?_ (by have:=BB.out.size;simp;try omega) _|refine Below.drew ?_|exact BB.out))⟩
      · exact bodyPost_ret (results_tmp rfl _ _ _) rfl ⟨rfl,(by repeat (first|refine Below.setCell ?_ (by simp;try omega) _|refine Below.alloc ?_ (by have:=BB.out.size;simp;try omega) _|refine Below.drew ?_|exact BB.out))⟩
    · rw [if_neg h123]
      clear HV
      have h1:¬ k=1:=fun e=>h123 (.inl e)
      have h2:¬ k=2:=fun e=>h123 (.inr (.inl e))
      have h3:¬ k=3:=fun e=>h123 (.inr (.inr e))
      clear h123
      by_cases h4:k=4
      · rw [if_pos h4]
        subst h4
        clear h1 h2 h3
        go_enter Tryz.func83,Tryz.ntmps83
        go_wp2_with (first
          | (go_at_call 156;refine (HC.out _ (by repeat (first|refine Below.setCell ?_ (by simp;try omega) _|refine Below.alloc ?_ (by have:=BB.out.size;simp;try omega) _|refine Below.drew ?_|exact BB.out))).mono ?_;rintro e w9 ⟨rfl,hw9⟩;rw [hw9];clear hw9 w9))
        exact bodyPost_ret (results_tmp rfl _ _ _) rfl ⟨rfl,(by repeat (first|refine Below.setCell ?_ (by simp;try omega) _|refine Below.alloc ?_ (by have:=BB.out.size;simp;try omega) _|refine Below.drew ?_|exact BB.out))⟩
      · rw [if_neg h4]
        go_enter Tryz.func83,Tryz.ntmps83
        go_wp2_with (first
          | (go_at_call 156;refine (HC.out _ (by repeat (first|refine Below.setCell ?_ (by simp;try omega) _|refine Below.alloc ?_ (by have:=BB.out.size;simp;try omega) _|refine Below.drew ?_|exact BB.out))).mono ?_;rintro e w9 ⟨rfl,hw9⟩;rw [hw9];clear hw9 w9))
        exact bodyPost_ret (results_tmp rfl _ _ _) rfl ⟨rfl,(by repeat (first|refine Below.setCell ?_ (by simp;try omega) _|refine Below.alloc ?_ (by have:=BB.out.size;simp;try omega) _|refine Below.drew ?_|exact BB.out))⟩
  · rw [if_neg h0]
    clear HV
    go_enter Tryz.func83,Tryz.ntmps83
    go_wp2_with (first
      | (go_at_call 156;refine (HC.out _ (by repeat (first|refine Below.setCell ?_ (by simp;try omega) _|refine Below.alloc ?_ (by have:=BB.out.size;simp;try omega) _|refine Below.drew ?_|exact BB.out))).mono ?_;rintro e w9 ⟨rfl,hw9⟩;rw [hw9];clear hw9 w9))
    exact bodyPost_ret (results_tmp rfl _ _ _) rfl ⟨rfl,(by repeat (first|refine Below.setCell ?_ (by simp;try omega) _|refine Below.alloc ?_ (by have:=BB.out.size;simp;try omega) _|refine Below.drew ?_|exact BB.out))⟩
def crfI (k:Int) (y:Bool) (c n ds:ByteArray):Int:=if rckE c.data.toList n.data.toList ds.data.toList=0 then (if k=1∧y=true∨k=2∧y=false∨k≠3∧iniB n=true then 35 else 0) else 1
set_option maxHeartbeats 8000000 in
theorem crf_c (k:Int) (y:Bool) (c n ds:ByteArray) (hc:c.size≤maxLen) (hn:n.size≤maxLen) (hd:ds.size≤maxLen) (W:World):Calls Tryz.prog 84 #[.int .i64 k,.agg #[.bool y,.string c,.string n,.string ds]] W fun e w'=>e=.returned (.int .i64 (crfI k y c n ds))∧Below W.heap.size W w':=by
  have HR:Hid (∀ w:World,Calls Tryz.prog 73 #[.agg #[.bool y,.string c,.string n,.string ds]] w fun e w'=>e=.returned (.int .i64 (rckE c.data.toList n.data.toList ds.data.toList))∧Below w.heap.size w w'):=refCheck_any y c n ds hc hn hd
  unfold crfI
  generalize rckE c.data.toList n.data.toList ds.data.toList=R at *
  clear hc hn hd
  have BB:Hid (Below W.heap.size W W):=Below.refl _ _
  by_cases h0:R=0
  · subst h0
    rw [if_pos rfl]
    obtain ⟨Q,hQ⟩:∃ Q:Int,(if k=1∧y=true∨k=2∧y=false∨k≠3∧iniB n=true then 35 else 0)=Q:=⟨_,rfl⟩
    rw [hQ]
    have HQ:Hid ((if k=1∧y=true∨k=2∧y=false∨k≠3∧iniB n=true then (35:Int) else 0)=Q):=hQ
    clear hQ
    cases hI:iniB n
    all_goals
      have hJ:=hI
      rw [iniB] at hJ
      rw [hI] at HQ
      clear hI
      cases y
    all_goals
      have hk:k=1∨k=2∨k=3∨(¬ k=1∧¬ k=2∧¬ k=3):=by omega
      rcases hk with rfl|rfl|rfl|⟨h1,h2,h3⟩
    all_goals
      have hQ:=HQ.out
      clear HQ
      simp [*] at hQ
      subst hQ
      go_enter Tryz.func84,Tryz.ntmps84
      go_wp2_with (first
        | (go_at_call 73;refine (HR.out _).mono ?_;rintro e w1 ⟨rfl,hb⟩;have rd:w1.heap[W.heap.size]?=some (.cells #[.bool true,.string c,.string n,.string ds] 53 (0,0)):=(hb.block (W.heap.size) (by first|omega|(simp;try omega))).trans (by first|exact rB.out|exact hkeep rB.out|exact halloc1 _ _|exact hkeep (halloc1 _ _)|exact hkeep (hkeep (halloc1 _ _))|exact halloc2 _ _ (by simp)|exact hkeep (halloc2 _ _ (by simp)));(try clear rB r0 r1 r2 r3 rf rL rN);have rB:Hid _:=rd;obtain ⟨r0,r1,r2,r3,rf,rL⟩:=rw4 rd;have rN:¬ W.heap.size=w1.heap.size:=(by omega);clear rd;have BB2:Below W.heap.size W w1:=bstep (by repeat (first|refine Below.setCell ?_ (by simp;try omega) _|refine Below.alloc ?_ (by have:=BB.out.size;simp;try omega) _|refine Below.drew ?_|exact BB.out)) hb;clear BB;have BB:Hid (Below W.heap.size W w1):=BB2;clear BB2 hb)
        | (go_at_call 73;refine (HR.out _).mono ?_;rintro e w1 ⟨rfl,hb⟩;have rd:w1.heap[W.heap.size]?=some (.cells #[.bool false,.string c,.string n,.string ds] 53 (0,0)):=(hb.block (W.heap.size) (by first|omega|(simp;try omega))).trans (by first|exact rB.out|exact hkeep rB.out|exact halloc1 _ _|exact hkeep (halloc1 _ _)|exact hkeep (hkeep (halloc1 _ _))|exact halloc2 _ _ (by simp)|exact hkeep (halloc2 _ _ (by simp)));(try clear rB r0 r1 r2 r3 rf rL rN);have rB:Hid _:=rd;obtain ⟨r0,r1,r2,r3,rf,rL⟩:=rw4 rd;have rN:¬ W.heap.size=w1.heap.size:=(by omega);clear rd;have BB2:Below W.heap.size W w1:=bstep (by repeat (first|refine Below.setCell ?_ (by simp;try omega) _|refine Below.alloc ?_ (by have:=BB.out.size;simp;try omega) _|refine Below.drew ?_|exact BB.out)) hb;clear BB;have BB:Hid (Below W.heap.size W w1):=BB2;clear BB2 hb))
    all_goals exact bodyPost_ret (results_tmp rfl _ _ _) rfl ⟨rfl,(by repeat (first|refine Below.setCell ?_ (by simp;try omega) _|refine Below.alloc ?_ (by have:=BB.out.size;simp;try omega) _|refine Below.drew ?_|exact BB.out))⟩
  · rw [if_neg h0]
    go_enter Tryz.func84,Tryz.ntmps84
    go_wp2_with (first
      | (go_at_call 73;refine (HR.out _).mono ?_;rintro e w1 ⟨rfl,hb⟩;have rd:w1.heap[W.heap.size]?=some (.cells #[.bool y,.string c,.string n,.string ds] 53 (0,0)):=(hb.block (W.heap.size) (by first|omega|(simp;try omega))).trans (by first|exact rB.out|exact hkeep rB.out|exact halloc1 _ _|exact hkeep (halloc1 _ _)|exact hkeep (hkeep (halloc1 _ _))|exact halloc2 _ _ (by simp)|exact hkeep (halloc2 _ _ (by simp)));(try clear rB r0 r1 r2 r3 rf rL rN);have rB:Hid _:=rd;obtain ⟨r0,r1,r2,r3,rf,rL⟩:=rw4 rd;have rN:¬ W.heap.size=w1.heap.size:=(by omega);clear rd;have BB2:Below W.heap.size W w1:=bstep (by repeat (first|refine Below.setCell ?_ (by simp;try omega) _|refine Below.alloc ?_ (by have:=BB.out.size;simp;try omega) _|refine Below.drew ?_|exact BB.out)) hb;clear BB;have BB:Hid (Below W.heap.size W w1):=BB2;clear BB2 hb))
    exact bodyPost_ret (results_tmp rfl _ _ _) rfl ⟨rfl,(by repeat (first|refine Below.setCell ?_ (by simp;try omega) _|refine Below.alloc ?_ (by have:=BB.out.size;simp;try omega) _|refine Below.drew ?_|exact BB.out))⟩
def suP (ps:List Plc) (x:Int) (s:ByteArray) (y:Int) (t:ByteArray):Bool×Int:=if ldI ps x s=0 then (if ldI ps y t=0 then (subB ps x s y t,0) else (false,ldI ps y t)) else (false,ldI ps x s)
theorem suI_eq (ps:List Plc) (x:Int) (s:ByteArray) (y:Int) (t:ByteArray):suI ps x s y t=.tuple #[.bool (suP ps x s y t).1,.int .i64 (suP ps x s y t).2]:=by
  rw [suI,suP]
  split
  · split <;> rfl
  · rfl
def cblI (ps:List Plc) (tx:Int) (ts:ByteArray) (c:ByteArray):Int:=if prfE c.data.toList=0 then (if (suP ps tx ts ((prfT c.data.toList).1:Int) (tyS c.data.toList)).2=0 then (if (suP ps tx ts ((prfT c.data.toList).1:Int) (tyS c.data.toList)).1 then 0 else 23) else (suP ps tx ts ((prfT c.data.toList).1:Int) (tyS c.data.toList)).2) else prfE c.data.toList
set_option maxHeartbeats 2000000 in
theorem cbl_c {b:Nat} {ps:List Plc} {W:World} (h:WAt b ps W) (hi:WI ps) (tx:Int) (ts:ByteArray) (y:Bool) (c n ds:ByteArray) (hs:ts.size≤maxLen) (hc:c.size≤maxLen):Calls Tryz.prog 86 #[.pointer (some ⟨b,0,none⟩),.agg #[.int .i64 tx,.string ts],.agg #[.bool y,.string c,.string n,.string ds]] W fun e w'=>e=.returned (.int .i64 (cblI ps tx ts c))∧Below W.heap.size W w':=by
  have HP:Hid (∀ w:World,Calls Tryz.prog 118 #[.string c] w fun e w'=>e=.returned (.tuple #[.agg #[.int .i64 ((prfT c.data.toList).1:Int),.string (tyS c.data.toList)],.int .i64 (prfE c.data.toList)])∧Below w.heap.size w w'):=parseRef_any c hc
  have HS:Hid (prfE c.data.toList=0→∀ w,Below W.heap.size W w→Calls Tryz.prog 50 #[.pointer (some ⟨b,0,none⟩),.agg #[.int .i64 tx,.string ts],.agg #[.int .i64 ((prfT c.data.toList).1:Int),.string (tyS c.data.toList)]] w fun e w'=>e=.returned (.tuple #[.bool (suP ps tx ts ((prfT c.data.toList).1:Int) (tyS c.data.toList)).1,.int .i64 (suP ps tx ts ((prfT c.data.toList).1:Int) (tyS c.data.toList)).2])∧Below w.heap.size w w'):=fun h0 w hb=>by
    have:=sub_c (h.below hb) hi tx ts ((prfT c.data.toList).1:Int) (tyS c.data.toList) hs (tyS_size h0)
    rw [suI_eq] at this
    exact this
  unfold cblI
  generalize suP ps tx ts ((prfT c.data.toList).1:Int) (tyS c.data.toList)=S at *
  generalize prfE c.data.toList=PE at *
  generalize ((prfT c.data.toList).1:Int)=tt1 at *
  generalize tyS c.data.toList=tt2 at *
  obtain ⟨s1,s2⟩:=S
  simp only at HS ⊢
  clear h hi hs hc
  have BB:Hid (Below W.heap.size W W):=Below.refl _ _
  by_cases h2:PE=0
  · subst h2
    rw [if_pos rfl]
    replace HS:Hid _:=HS.out rfl
    by_cases h3:s2=0
    · subst h3
      rw [if_pos rfl]
      cases s1
      all_goals
        go_enter Tryz.func86,Tryz.ntmps86
        go_wp2_with (first
          | (go_at_call 118;refine (HP.out _).mono ?_;rintro e w1 ⟨rfl,hb⟩;have td:w1.heap[W.heap.size]?=some (.cells #[.int .i64 tx,.string ts] 58 (0,0)):=(hb.block (W.heap.size) (by first|omega|(simp;try omega))).trans (by first|exact tB.out|exact hkeep tB.out|exact halloc1 _ _|exact hkeep (halloc1 _ _)|exact hkeep (hkeep (halloc1 _ _))|exact halloc2 _ _ (by simp)|exact hkeep (halloc2 _ _ (by simp)));(try clear tB t0 t1 tf tL tN);have tB:Hid _:=td;obtain ⟨t0,t1,tf,tL⟩:=rw2 td;have tN:¬ W.heap.size=w1.heap.size:=(by omega);clear td;have BB2:Below W.heap.size W w1:=bstep (by repeat (first|refine Below.setCell ?_ (by simp;try omega) _|refine Below.alloc ?_ (by have:=BB.out.size;simp;try omega) _|refine Below.drew ?_|exact BB.out)) hb;clear BB;have BB:Hid (Below W.heap.size W w1):=BB2;clear BB2 hb)
          | (go_at_call 50;refine (HS.out _ (by repeat (first|refine Below.setCell ?_ (by simp;try omega) _|refine Below.alloc ?_ (by have:=BB.out.size;simp;try omega) _|refine Below.drew ?_|exact BB.out))).mono ?_;rintro e w2 ⟨rfl,hb⟩;have BB2:Below W.heap.size W w2:=bstep (by repeat (first|refine Below.setCell ?_ (by simp;try omega) _|refine Below.alloc ?_ (by have:=BB.out.size;simp;try omega) _|refine Below.drew ?_|exact BB.out)) hb;clear BB;have BB:Hid (Below W.heap.size W w2):=BB2;clear BB2 hb))
      · exact bodyPost_ret (results_tmp rfl _ _ _) rfl ⟨rfl,(by repeat (first|refine Below.setCell ?_ (by simp;try omega) _|refine Below.alloc ?_ (by have:=BB.out.size;simp;try omega) _|refine Below.drew ?_|exact BB.out))⟩
      · exact bodyPost_ret (results_tmp rfl _ _ _) rfl ⟨rfl,(by repeat (first|refine Below.setCell ?_ (by simp;try omega) _|refine Below.alloc ?_ (by have:=BB.out.size;simp;try omega) _|refine Below.drew ?_|exact BB.out))⟩
    · rw [if_neg h3]
      go_enter Tryz.func86,Tryz.ntmps86
      go_wp2_with (first
        | (go_at_call 118;refine (HP.out _).mono ?_;rintro e w1 ⟨rfl,hb⟩;have td:w1.heap[W.heap.size]?=some (.cells #[.int .i64 tx,.string ts] 58 (0,0)):=(hb.block (W.heap.size) (by first|omega|(simp;try omega))).trans (by first|exact tB.out|exact hkeep tB.out|exact halloc1 _ _|exact hkeep (halloc1 _ _)|exact hkeep (hkeep (halloc1 _ _))|exact halloc2 _ _ (by simp)|exact hkeep (halloc2 _ _ (by simp)));(try clear tB t0 t1 tf tL tN);have tB:Hid _:=td;obtain ⟨t0,t1,tf,tL⟩:=rw2 td;have tN:¬ W.heap.size=w1.heap.size:=(by omega);clear td;have BB2:Below W.heap.size W w1:=bstep (by repeat (first|refine Below.setCell ?_ (by simp;try omega) _|refine Below.alloc ?_ (by have:=BB.out.size;simp;try omega) _|refine Below.drew ?_|exact BB.out)) hb;clear BB;have BB:Hid (Below W.heap.size W w1):=BB2;clear BB2 hb)
        | (go_at_call 50;refine (HS.out _ (by repeat (first|refine Below.setCell ?_ (by simp;try omega) _|refine Below.alloc ?_ (by have:=BB.out.size;simp;try omega) _|refine Below.drew ?_|exact BB.out))).mono ?_;rintro e w2 ⟨rfl,hb⟩;have BB2:Below W.heap.size W w2:=bstep (by repeat (first|refine Below.setCell ?_ (by simp;try omega) _|refine Below.alloc ?_ (by have:=BB.out.size;simp;try omega) _|refine Below.drew ?_|exact BB.out)) hb;clear BB;have BB:Hid (Below W.heap.size W w2):=BB2;clear BB2 hb))
      exact bodyPost_ret (results_tmp rfl _ _ _) rfl ⟨rfl,(by repeat (first|refine Below.setCell ?_ (by simp;try omega) _|refine Below.alloc ?_ (by have:=BB.out.size;simp;try omega) _|refine Below.drew ?_|exact BB.out))⟩
  · rw [if_neg h2]
    clear HS
    go_enter Tryz.func86,Tryz.ntmps86
    go_wp2_with (first
      | (go_at_call 118;refine (HP.out _).mono ?_;rintro e w1 ⟨rfl,hb⟩;have td:w1.heap[W.heap.size]?=some (.cells #[.int .i64 tx,.string ts] 58 (0,0)):=(hb.block (W.heap.size) (by first|omega|(simp;try omega))).trans (by first|exact tB.out|exact hkeep tB.out|exact halloc1 _ _|exact hkeep (halloc1 _ _)|exact hkeep (hkeep (halloc1 _ _))|exact halloc2 _ _ (by simp)|exact hkeep (halloc2 _ _ (by simp)));(try clear tB t0 t1 tf tL tN);have tB:Hid _:=td;obtain ⟨t0,t1,tf,tL⟩:=rw2 td;have tN:¬ W.heap.size=w1.heap.size:=(by omega);clear td;have BB2:Below W.heap.size W w1:=bstep (by repeat (first|refine Below.setCell ?_ (by simp;try omega) _|refine Below.alloc ?_ (by have:=BB.out.size;simp;try omega) _|refine Below.drew ?_|exact BB.out)) hb;clear BB;have BB:Hid (Below W.heap.size W w1):=BB2;clear BB2 hb))
    exact bodyPost_ret (results_tmp rfl _ _ _) rfl ⟨rfl,(by repeat (first|refine Below.setCell ?_ (by simp;try omega) _|refine Below.alloc ?_ (by have:=BB.out.size;simp;try omega) _|refine Below.drew ?_|exact BB.out))⟩
def ftsB (ps:List Plc) (k:Int) (m:Int×Int):Bool:=if k=4 then hasS ps m.1 m.2 8 else if k=2 then !hasS ps m.1 m.2 10 else !hasS ps m.1 m.2 8
set_option maxHeartbeats 2000000 in
theorem fit_c {b:Nat} {ps:List Plc} {W:World} (h:WAt b ps W) (hi:WI ps) (k c i:Int):Calls Tryz.prog 85 #[.pointer (some ⟨b,0,none⟩),.int .i64 k,.agg #[.int .i64 c,.int .i64 i]] W fun e w'=>e=.returned (.bool (ftsB ps k (c,i)))∧Below W.heap.size W w':=by
  have HS:Hid (∀ w,Below W.heap.size W w→Calls Tryz.prog 98 #[.pointer (some ⟨b,0,none⟩),.agg #[.int .i64 c,.int .i64 i],.int .i64 8] w fun e w'=>e=.returned (.bool (hasS ps c i 8))∧Below w.heap.size w w'):=fun w hb=>chS_c (h.below hb) hi.pb c i 8
  have HT:Hid (∀ w,Below W.heap.size W w→Calls Tryz.prog 98 #[.pointer (some ⟨b,0,none⟩),.agg #[.int .i64 c,.int .i64 i],.int .i64 10] w fun e w'=>e=.returned (.bool (hasS ps c i 10))∧Below w.heap.size w w'):=fun w hb=>chS_c (h.below hb) hi.pb c i 10
  unfold ftsB
  simp only
  generalize hasS ps c i 8=A at *
  generalize hasS ps c i 10=B at *
  clear h hi
  have BB:Hid (Below W.heap.size W W):=Below.refl _ _
  by_cases h4:k=4
  · rw [if_pos h4]
    subst h4
    clear HT
    go_enter Tryz.func85,Tryz.ntmps85
    go_wp2_with (first
      | (go_at_call 98;refine (HS.out _ (by repeat (first|refine Below.setCell ?_ (by simp;try omega) _|refine Below.alloc ?_ (by have:=BB.out.size;simp;try omega) _|refine Below.drew ?_|exact BB.out))).mono ?_;rintro e w1 ⟨rfl,hb⟩;have BB2:Below W.heap.size W w1:=bstep (by repeat (first|refine Below.setCell ?_ (by simp;try omega) _|refine Below.alloc ?_ (by have:=BB.out.size;simp;try omega) _|refine Below.drew ?_|exact BB.out)) hb;clear BB;have BB:Hid (Below W.heap.size W w1):=BB2;clear BB2 hb))
    exact bodyPost_ret (results_tmp rfl _ _ _) rfl ⟨rfl,(by repeat (first|refine Below.setCell ?_ (by simp;try omega) _|refine Below.alloc ?_ (by have:=BB.out.size;simp;try omega) _|refine Below.drew ?_|exact BB.out))⟩
  · rw [if_neg h4]
    by_cases h2:k=2
    · rw [if_pos h2]
      subst h2
      clear HS h4
      go_enter Tryz.func85,Tryz.ntmps85
      go_wp2_with (first
        | (go_at_call 98;refine (HT.out _ (by repeat (first|refine Below.setCell ?_ (by simp;try omega) _|refine Below.alloc ?_ (by have:=BB.out.size;simp;try omega) _|refine Below.drew ?_|exact BB.out))).mono ?_;rintro e w1 ⟨rfl,hb⟩;have BB2:Below W.heap.size W w1:=bstep (by repeat (first|refine Below.setCell ?_ (by simp;try omega) _|refine Below.alloc ?_ (by have:=BB.out.size;simp;try omega) _|refine Below.drew ?_|exact BB.out)) hb;clear BB;have BB:Hid (Below W.heap.size W w1):=BB2;clear BB2 hb))
      exact bodyPost_ret (results_tmp rfl _ _ _) rfl ⟨rfl,(by repeat (first|refine Below.setCell ?_ (by simp;try omega) _|refine Below.alloc ?_ (by have:=BB.out.size;simp;try omega) _|refine Below.drew ?_|exact BB.out))⟩
    · rw [if_neg h2]
      clear HT
      go_enter Tryz.func85,Tryz.ntmps85
      go_wp2_with (first
        | (go_at_call 98;refine (HS.out _ (by repeat (first|refine Below.setCell ?_ (by simp;try omega) _|refine Below.alloc ?_ (by have:=BB.out.size;simp;try omega) _|refine Below.drew ?_|exact BB.out))).mono ?_;rintro e w1 ⟨rfl,hb⟩;have BB2:Below W.heap.size W w1:=bstep (by repeat (first|refine Below.setCell ?_ (by simp;try omega) _|refine Below.alloc ?_ (by have:=BB.out.size;simp;try omega) _|refine Below.drew ?_|exact BB.out)) hb;clear BB;have BB:Hid (Below W.heap.size W w1):=BB2;clear BB2 hb))
      exact bodyPost_ret (results_tmp rfl _ _ _) rfl ⟨rfl,(by repeat (first|refine Below.setCell ?_ (by simp;try omega) _|refine Below.alloc ?_ (by have:=BB.out.size;simp;try omega) _|refine Below.drew ?_|exact BB.out))⟩
set_option maxHeartbeats 20000000 in
theorem cal_all (W:World) (b:Nat) (d k:Int) (y:Bool) (c n ds:ByteArray) (tx:Int) (ts:ByteArray) (ea er m1 m2 em:Int) (ft:Bool) (eb h1 eh v1 v2 v3 i1 i2 i3 s1 s2 s3:Int)
    (HA:Hid (∀ w,Below W.heap.size W w→Calls Tryz.prog 83 #[.pointer (some ⟨b,0,none⟩),.int .i64 d,.int .i64 k,.agg #[.int .i64 tx,.string ts]] w fun e w'=>e=.returned (.int .i64 ea)∧Below w.heap.size w w'))
    (HF:Hid (∀ w,Below W.heap.size W w→Calls Tryz.prog 84 #[.int .i64 k,.agg #[.bool y,.string c,.string n,.string ds]] w fun e w'=>e=.returned (.int .i64 er)∧Below w.heap.size w w'))
    (HM:Hid (∀ w,Below W.heap.size W w→Calls Tryz.prog 31 #[.pointer (some ⟨b,0,none⟩),.int .i64 d,.agg #[.bool y,.string c,.string n,.string ds]] w fun e w'=>e=.returned (.tuple #[.agg #[.int .i64 m1,.int .i64 m2],.int .i64 em])∧Below w.heap.size w w'))
    (HT:Hid (∀ w,Below W.heap.size W w→Calls Tryz.prog 85 #[.pointer (some ⟨b,0,none⟩),.int .i64 k,.agg #[.int .i64 m1,.int .i64 m2]] w fun e w'=>e=.returned (.bool ft)∧Below w.heap.size w w'))
    (HB:Hid (∀ w,Below W.heap.size W w→Calls Tryz.prog 86 #[.pointer (some ⟨b,0,none⟩),.agg #[.int .i64 tx,.string ts],.agg #[.bool y,.string c,.string n,.string ds]] w fun e w'=>e=.returned (.int .i64 eb)∧Below w.heap.size w w'))
    (HH:Hid (∀ w,Below W.heap.size W w→Calls Tryz.prog 48 #[.pointer (some ⟨b,0,none⟩),.agg #[.int .i64 tx,.string ts]] w fun e w'=>e=.returned (.tuple #[.int .i64 h1,.int .i64 eh])∧Below w.heap.size w w'))
    (HV:Hid (∀ w,Below W.heap.size W w→Calls Tryz.prog 38 #[.pointer (some ⟨b,0,none⟩),.int .i64 h1,.agg #[.int .i64 m1,.int .i64 m2]] w fun e w'=>e=.returned (.tuple #[.agg #[.int .i64 v1,.int .i64 v2],.int .i64 v3])∧Below w.heap.size w w'))
    (HI:Hid (∀ w,Below W.heap.size W w→Calls Tryz.prog 40 #[.pointer (some ⟨b,0,none⟩),.int .i64 h1,.agg #[.int .i64 m1,.int .i64 m2]] w fun e w'=>e=.returned (.tuple #[.agg #[.int .i64 i1,.int .i64 i2],.int .i64 i3])∧Below w.heap.size w w'))
    (HS:Hid (∀ w,Below W.heap.size W w→Calls Tryz.prog 42 #[.pointer (some ⟨b,0,none⟩),.int .i64 d,.agg #[.bool y,.string c,.string n,.string ds],.agg #[.int .i64 m1,.int .i64 m2]] w fun e w'=>e=.returned (.tuple #[.agg #[.int .i64 s1,.int .i64 s2],.int .i64 s3])∧Below w.heap.size w w')) (RR:(Int×Int)×Int)
    (hRR:RR=if ea=0 then (if er=0 then (if em=0 then (if ft then (if k=4 then ((m1,m2),0) else (if eb=0 then (if eh=0 then (if k=1 then ((v1,v2),v3) else if k=2 then ((i1,i2),i3) else ((s1,s2),s3)) else ((0,0),eh)) else ((0,0),eb))) else ((0,0),23)) else ((0,0),em)) else ((0,0),er)) else ((0,0),ea)):Calls Tryz.prog 35 #[.pointer (some ⟨b,0,none⟩),.int .i64 d,.int .i64 k,.agg #[.bool y,.string c,.string n,.string ds],.agg #[.int .i64 tx,.string ts]] W fun e w'=>e=.returned (idE RR)∧Below W.heap.size W w':=by
  have BB:Hid (Below W.heap.size W W):=Below.refl _ _
  by_cases e1:ea=0
  rotate_left
  · rw [if_neg e1] at hRR
    clear HF HM HT HB HH HV HI HS
    subst hRR
    go_enter Tryz.func35,Tryz.ntmps35
    go_wp2_with (first
      | (go_at_call 83;refine (HA.out _ (by repeat (first|refine Below.setCell ?_ (by simp;try omega) _|refine Below.alloc ?_ (by have:=BB.out.size;simp;try omega) _|refine Below.drew ?_|exact BB.out))).mono ?_;rintro e w1 ⟨rfl,hb⟩;have rd:=kp4 (n:=W.heap.size) hb (by first|omega|(simp;try omega)) (hkeep (hkeep (halloc1 _ _)));(try clear rB r0 r1 r2 r3 rf rL rN);obtain ⟨rB,r0,r1,r2,r3,rf,rL,rN⟩:=rd;have td:=kp2 (n:=W.heap.size+1) hb (by first|omega|(simp;try omega)) (hkeep (halloc2 _ _ (by simp)));(try clear tB t0 t1 tf tL tN);obtain ⟨tB,t0,t1,tf,tL,tN⟩:=td;have zd:=kp2 (n:=W.heap.size+2) hb (by first|omega|(simp;try omega)) (halloc2 _ _ (by simp));(try clear zB z0 z1 zf zL zN);obtain ⟨zB,z0,z1,zf,zL,zN⟩:=zd;have BB2:Below W.heap.size W w1:=bstep (by repeat (first|refine Below.setCell ?_ (by simp;try omega) _|refine Below.alloc ?_ (by have:=BB.out.size;simp;try omega) _|refine Below.drew ?_|exact BB.out)) hb;clear BB;have BB:Hid (Below W.heap.size W w1):=BB2;clear BB2 hb))
    exact bodyPost_ret (v:=idE ((0,0),ea)) (by simp [results,Tryz.results35,go_sem,idE, *]) rfl ⟨rfl,(by repeat (first|refine Below.setCell ?_ (by simp;try omega) _|refine Below.alloc ?_ (by have:=BB.out.size;simp;try omega) _|refine Below.drew ?_|exact BB.out))⟩
  rw [if_pos e1] at hRR
  subst e1
  by_cases e2:er=0
  rotate_left
  · rw [if_neg e2] at hRR
    clear HM HT HB HH HV HI HS
    subst hRR
    go_enter Tryz.func35,Tryz.ntmps35
    go_wp2_with (first
      | (go_at_call 83;refine (HA.out _ (by repeat (first|refine Below.setCell ?_ (by simp;try omega) _|refine Below.alloc ?_ (by have:=BB.out.size;simp;try omega) _|refine Below.drew ?_|exact BB.out))).mono ?_;rintro e w1 ⟨rfl,hb⟩;have rd:=kp4 (n:=W.heap.size) hb (by first|omega|(simp;try omega)) (hkeep (hkeep (halloc1 _ _)));(try clear rB r0 r1 r2 r3 rf rL rN);obtain ⟨rB,r0,r1,r2,r3,rf,rL,rN⟩:=rd;have td:=kp2 (n:=W.heap.size+1) hb (by first|omega|(simp;try omega)) (hkeep (halloc2 _ _ (by simp)));(try clear tB t0 t1 tf tL tN);obtain ⟨tB,t0,t1,tf,tL,tN⟩:=td;have zd:=kp2 (n:=W.heap.size+2) hb (by first|omega|(simp;try omega)) (halloc2 _ _ (by simp));(try clear zB z0 z1 zf zL zN);obtain ⟨zB,z0,z1,zf,zL,zN⟩:=zd;have BB2:Below W.heap.size W w1:=bstep (by repeat (first|refine Below.setCell ?_ (by simp;try omega) _|refine Below.alloc ?_ (by have:=BB.out.size;simp;try omega) _|refine Below.drew ?_|exact BB.out)) hb;clear BB;have BB:Hid (Below W.heap.size W w1):=BB2;clear BB2 hb)
      | (go_at_call 84;refine (HF.out _ (by repeat (first|refine Below.setCell ?_ (by simp;try omega) _|refine Below.alloc ?_ (by have:=BB.out.size;simp;try omega) _|refine Below.drew ?_|exact BB.out))).mono ?_;rintro e w2 ⟨rfl,hb⟩;have rd:=kp4 (n:=W.heap.size) hb (by first|omega|(simp;try omega)) (rB.out);(try clear rB r0 r1 r2 r3 rf rL rN);obtain ⟨rB,r0,r1,r2,r3,rf,rL,rN⟩:=rd;have td:=kp2 (n:=W.heap.size+1) hb (by first|omega|(simp;try omega)) (tB.out);(try clear tB t0 t1 tf tL tN);obtain ⟨tB,t0,t1,tf,tL,tN⟩:=td;have zd:=kp2 (n:=W.heap.size+2) hb (by first|omega|(simp;try omega)) (zB.out);(try clear zB z0 z1 zf zL zN);obtain ⟨zB,z0,z1,zf,zL,zN⟩:=zd;have BB2:Below W.heap.size W w2:=bstep (by repeat (first|refine Below.setCell ?_ (by simp;try omega) _|refine Below.alloc ?_ (by have:=BB.out.size;simp;try omega) _|refine Below.drew ?_|exact BB.out)) hb;clear BB;have BB:Hid (Below W.heap.size W w2):=BB2;clear BB2 hb))
    exact bodyPost_ret (v:=idE ((0,0),er)) (by simp [results,Tryz.results35,go_sem,idE, *]) rfl ⟨rfl,(by repeat (first|refine Below.setCell ?_ (by simp;try omega) _|refine Below.alloc ?_ (by have:=BB.out.size;simp;try omega) _|refine Below.drew ?_|exact BB.out))⟩
  rw [if_pos e2] at hRR
  subst e2
  have hk:em=0∧ft=true∧(k=4∨¬ k=4∧(¬ eb=0∨eb=0∧(¬ eh=0∨eh=0∧(k=1∨k=2∨(¬ k=1∧¬ k=2)))))∨em=0∧ft=false∨¬ em=0:=by
    cases ft <;> simp <;> omega
  rcases hk with ⟨rfl,rfl,rfl|⟨h4,h5|⟨rfl,h6|⟨rfl,rfl|rfl|⟨h7,h8⟩⟩⟩⟩⟩|⟨rfl,rfl⟩|h3
  all_goals
    simp [*] at hRR
    subst hRR
    go_enter Tryz.func35,Tryz.ntmps35
    go_wp2_with (first
      | (go_at_call 83;refine (HA.out _ (by repeat (first|refine Below.setCell ?_ (by simp;try omega) _|refine Below.alloc ?_ (by have:=BB.out.size;simp;try omega) _|refine Below.drew ?_|exact BB.out))).mono ?_;rintro e w1 ⟨rfl,hb⟩;have rd:=kp4 (n:=W.heap.size) hb (by first|omega|(simp;try omega)) (hkeep (hkeep (halloc1 _ _)));(try clear rB r0 r1 r2 r3 rf rL rN);obtain ⟨rB,r0,r1,r2,r3,rf,rL,rN⟩:=rd;have td:=kp2 (n:=W.heap.size+1) hb (by first|omega|(simp;try omega)) (hkeep (halloc2 _ _ (by simp)));(try clear tB t0 t1 tf tL tN);obtain ⟨tB,t0,t1,tf,tL,tN⟩:=td;have zd:=kp2 (n:=W.heap.size+2) hb (by first|omega|(simp;try omega)) (halloc2 _ _ (by simp));(try clear zB z0 z1 zf zL zN);obtain ⟨zB,z0,z1,zf,zL,zN⟩:=zd;have BB2:Below W.heap.size W w1:=bstep (by repeat (first|refine Below.setCell ?_ (by simp;try omega) _|refine Below.alloc ?_ (by have:=BB.out.size;simp;try omega) _|refine Below.drew ?_|exact BB.out)) hb;clear BB;have BB:Hid (Below W.heap.size W w1):=BB2;clear BB2 hb)
      | (go_at_call 84;refine (HF.out _ (by repeat (first|refine Below.setCell ?_ (by simp;try omega) _|refine Below.alloc ?_ (by have:=BB.out.size;simp;try omega) _|refine Below.drew ?_|exact BB.out))).mono ?_;rintro e w2 ⟨rfl,hb⟩;have rd:=kp4 (n:=W.heap.size) hb (by first|omega|(simp;try omega)) (rB.out);(try clear rB r0 r1 r2 r3 rf rL rN);obtain ⟨rB,r0,r1,r2,r3,rf,rL,rN⟩:=rd;have td:=kp2 (n:=W.heap.size+1) hb (by first|omega|(simp;try omega)) (tB.out);(try clear tB t0 t1 tf tL tN);obtain ⟨tB,t0,t1,tf,tL,tN⟩:=td;have zd:=kp2 (n:=W.heap.size+2) hb (by first|omega|(simp;try omega)) (zB.out);(try clear zB z0 z1 zf zL zN);obtain ⟨zB,z0,z1,zf,zL,zN⟩:=zd;have BB2:Below W.heap.size W w2:=bstep (by repeat (first|refine Below.setCell ?_ (by simp;try omega) _|refine Below.alloc ?_ (by have:=BB.out.size;simp;try omega) _|refine Below.drew ?_|exact BB.out)) hb;clear BB;have BB:Hid (Below W.heap.size W w2):=BB2;clear BB2 hb)
      | (go_at_call 31;refine (HM.out _ (by repeat (first|refine Below.setCell ?_ (by simp;try omega) _|refine Below.alloc ?_ (by have:=BB.out.size;simp;try omega) _|refine Below.drew ?_|exact BB.out))).mono ?_;rintro e w3 ⟨rfl,hb⟩;have rd:=kp4 (n:=W.heap.size) hb (by first|omega|(simp;try omega)) (rB.out);(try clear rB r0 r1 r2 r3 rf rL rN);obtain ⟨rB,r0,r1,r2,r3,rf,rL,rN⟩:=rd;have td:=kp2 (n:=W.heap.size+1) hb (by first|omega|(simp;try omega)) (tB.out);(try clear tB t0 t1 tf tL tN);obtain ⟨tB,t0,t1,tf,tL,tN⟩:=td;have zd:=kp2 (n:=W.heap.size+2) hb (by first|omega|(simp;try omega)) (zB.out);(try clear zB z0 z1 zf zL zN);obtain ⟨zB,z0,z1,zf,zL,zN⟩:=zd;have BB2:Below W.heap.size W w3:=bstep (by repeat (first|refine Below.setCell ?_ (by simp;try omega) _|refine Below.alloc ?_ (by have:=BB.out.size;simp;try omega) _|refine Below.drew ?_|exact BB.out)) hb;clear BB;have BB:Hid (Below W.heap.size W w3):=BB2;clear BB2 hb)
      | (go_at_call 85;refine (HT.out _ (by repeat (first|refine Below.setCell ?_ (by simp;try omega) _|refine Below.alloc ?_ (by have:=BB.out.size;simp;try omega) _|refine Below.drew ?_|exact BB.out))).mono ?_;rintro e w4 ⟨rfl,hb⟩;have rd:=kp4 (n:=W.heap.size) hb (by first|omega|(simp;try omega)) (hkeep rB.out);(try clear rB r0 r1 r2 r3 rf rL rN);obtain ⟨rB,r0,r1,r2,r3,rf,rL,rN⟩:=rd;have td:=kp2 (n:=W.heap.size+1) hb (by first|omega|(simp;try omega)) (hkeep tB.out);(try clear tB t0 t1 tf tL tN);obtain ⟨tB,t0,t1,tf,tL,tN⟩:=td;have zd:=kp2 (n:=W.heap.size+2) hb (by first|omega|(simp;try omega)) (hkeep zB.out);(try clear zB z0 z1 zf zL zN);obtain ⟨zB,z0,z1,zf,zL,zN⟩:=zd;have gd:=kp2 (n:=w3.heap.size) hb (by first|omega|(simp;try omega)) (halloc1 _ _);(try clear gB g0 g1 gf gL gN);obtain ⟨gB,g0,g1,gf,gL,gN⟩:=gd;have BB2:Below W.heap.size W w4:=bstep (by repeat (first|refine Below.setCell ?_ (by simp;try omega) _|refine Below.alloc ?_ (by have:=BB.out.size;simp;try omega) _|refine Below.drew ?_|exact BB.out)) hb;clear BB;have BB:Hid (Below W.heap.size W w4):=BB2;clear BB2 hb)
      | (go_at_call 86;refine (HB.out _ (by repeat (first|refine Below.setCell ?_ (by simp;try omega) _|refine Below.alloc ?_ (by have:=BB.out.size;simp;try omega) _|refine Below.drew ?_|exact BB.out))).mono ?_;rintro e w5 ⟨rfl,hb⟩;have rd:=kp4 (n:=W.heap.size) hb (by first|omega|(simp;try omega)) (rB.out);(try clear rB r0 r1 r2 r3 rf rL rN);obtain ⟨rB,r0,r1,r2,r3,rf,rL,rN⟩:=rd;have td:=kp2 (n:=W.heap.size+1) hb (by first|omega|(simp;try omega)) (tB.out);(try clear tB t0 t1 tf tL tN);obtain ⟨tB,t0,t1,tf,tL,tN⟩:=td;have zd:=kp2 (n:=W.heap.size+2) hb (by first|omega|(simp;try omega)) (zB.out);(try clear zB z0 z1 zf zL zN);obtain ⟨zB,z0,z1,zf,zL,zN⟩:=zd;have gd:=kp2 (n:=w3.heap.size) hb (by first|omega|(simp;try omega)) (gB.out);(try clear gB g0 g1 gf gL gN);obtain ⟨gB,g0,g1,gf,gL,gN⟩:=gd;have BB2:Below W.heap.size W w5:=bstep (by repeat (first|refine Below.setCell ?_ (by simp;try omega) _|refine Below.alloc ?_ (by have:=BB.out.size;simp;try omega) _|refine Below.drew ?_|exact BB.out)) hb;clear BB;have BB:Hid (Below W.heap.size W w5):=BB2;clear BB2 hb)
      | (go_at_call 48;refine (HH.out _ (by repeat (first|refine Below.setCell ?_ (by simp;try omega) _|refine Below.alloc ?_ (by have:=BB.out.size;simp;try omega) _|refine Below.drew ?_|exact BB.out))).mono ?_;rintro e w6 ⟨rfl,hb⟩;have rd:=kp4 (n:=W.heap.size) hb (by first|omega|(simp;try omega)) (rB.out);(try clear rB r0 r1 r2 r3 rf rL rN);obtain ⟨rB,r0,r1,r2,r3,rf,rL,rN⟩:=rd;have zd:=kp2 (n:=W.heap.size+2) hb (by first|omega|(simp;try omega)) (zB.out);(try clear zB z0 z1 zf zL zN);obtain ⟨zB,z0,z1,zf,zL,zN⟩:=zd;have gd:=kp2 (n:=w3.heap.size) hb (by first|omega|(simp;try omega)) (gB.out);(try clear gB g0 g1 gf gL gN);obtain ⟨gB,g0,g1,gf,gL,gN⟩:=gd;have BB2:Below W.heap.size W w6:=bstep (by repeat (first|refine Below.setCell ?_ (by simp;try omega) _|refine Below.alloc ?_ (by have:=BB.out.size;simp;try omega) _|refine Below.drew ?_|exact BB.out)) hb;clear BB;have BB:Hid (Below W.heap.size W w6):=BB2;clear BB2 hb)
      | (go_at_call 38;refine (HV.out _ (by repeat (first|refine Below.setCell ?_ (by simp;try omega) _|refine Below.alloc ?_ (by have:=BB.out.size;simp;try omega) _|refine Below.drew ?_|exact BB.out))).mono ?_;rintro e w7 ⟨rfl,hb⟩;have zd:=kp2 (n:=W.heap.size+2) hb (by first|omega|(simp;try omega)) (zB.out);(try clear zB z0 z1 zf zL zN);obtain ⟨zB,z0,z1,zf,zL,zN⟩:=zd;have BB2:Below W.heap.size W w7:=bstep (by repeat (first|refine Below.setCell ?_ (by simp;try omega) _|refine Below.alloc ?_ (by have:=BB.out.size;simp;try omega) _|refine Below.drew ?_|exact BB.out)) hb;clear BB;have BB:Hid (Below W.heap.size W w7):=BB2;clear BB2 hb)
      | (go_at_call 40;refine (HI.out _ (by repeat (first|refine Below.setCell ?_ (by simp;try omega) _|refine Below.alloc ?_ (by have:=BB.out.size;simp;try omega) _|refine Below.drew ?_|exact BB.out))).mono ?_;rintro e w7 ⟨rfl,hb⟩;have zd:=kp2 (n:=W.heap.size+2) hb (by first|omega|(simp;try omega)) (zB.out);(try clear zB z0 z1 zf zL zN);obtain ⟨zB,z0,z1,zf,zL,zN⟩:=zd;have BB2:Below W.heap.size W w7:=bstep (by repeat (first|refine Below.setCell ?_ (by simp;try omega) _|refine Below.alloc ?_ (by have:=BB.out.size;simp;try omega) _|refine Below.drew ?_|exact BB.out)) hb;clear BB;have BB:Hid (Below W.heap.size W w7):=BB2;clear BB2 hb)
      | (go_at_call 42;refine (HS.out _ (by repeat (first|refine Below.setCell ?_ (by simp;try omega) _|refine Below.alloc ?_ (by have:=BB.out.size;simp;try omega) _|refine Below.drew ?_|exact BB.out))).mono ?_;rintro e w7 ⟨rfl,hb⟩;have zd:=kp2 (n:=W.heap.size+2) hb (by first|omega|(simp;try omega)) (zB.out);(try clear zB z0 z1 zf zL zN);obtain ⟨zB,z0,z1,zf,zL,zN⟩:=zd;have BB2:Below W.heap.size W w7:=bstep (by repeat (first|refine Below.setCell ?_ (by simp;try omega) _|refine Below.alloc ?_ (by have:=BB.out.size;simp;try omega) _|refine Below.drew ?_|exact BB.out)) hb;clear BB;have BB:Hid (Below W.heap.size W w7):=BB2;clear BB2 hb))
  · exact bodyPost_ret (v:=idE ((m1,m2),0)) (by simp [results,Tryz.results35,go_sem,idE, *]) rfl ⟨rfl,(by repeat (first|refine Below.setCell ?_ (by simp;try omega) _|refine Below.alloc ?_ (by have:=BB.out.size;simp;try omega) _|refine Below.drew ?_|exact BB.out))⟩
  · exact bodyPost_ret (v:=idE ((0,0),eb)) (by simp [results,Tryz.results35,go_sem,idE, *]) rfl ⟨rfl,(by repeat (first|refine Below.setCell ?_ (by simp;try omega) _|refine Below.alloc ?_ (by have:=BB.out.size;simp;try omega) _|refine Below.drew ?_|exact BB.out))⟩
  · exact bodyPost_ret (v:=idE ((0,0),eh)) (by simp [results,Tryz.results35,go_sem,idE, *]) rfl ⟨rfl,(by repeat (first|refine Below.setCell ?_ (by simp;try omega) _|refine Below.alloc ?_ (by have:=BB.out.size;simp;try omega) _|refine Below.drew ?_|exact BB.out))⟩
  · exact bodyPost_ret (v:=idE ((v1,v2),v3)) (by simp [results,Tryz.results35,go_sem,idE, *]) rfl ⟨rfl,(by repeat (first|refine Below.setCell ?_ (by simp;try omega) _|refine Below.alloc ?_ (by have:=BB.out.size;simp;try omega) _|refine Below.drew ?_|exact BB.out))⟩
  · exact bodyPost_ret (v:=idE ((i1,i2),i3)) (by simp [results,Tryz.results35,go_sem,idE, *]) rfl ⟨rfl,(by repeat (first|refine Below.setCell ?_ (by simp;try omega) _|refine Below.alloc ?_ (by have:=BB.out.size;simp;try omega) _|refine Below.drew ?_|exact BB.out))⟩
  · exact bodyPost_ret (v:=idE ((s1,s2),s3)) (by simp [results,Tryz.results35,go_sem,idE, *]) rfl ⟨rfl,(by repeat (first|refine Below.setCell ?_ (by simp;try omega) _|refine Below.alloc ?_ (by have:=BB.out.size;simp;try omega) _|refine Below.drew ?_|exact BB.out))⟩
  · exact bodyPost_ret (v:=idE ((0,0),23)) (by simp [results,Tryz.results35,go_sem,idE, *]) rfl ⟨rfl,(by repeat (first|refine Below.setCell ?_ (by simp;try omega) _|refine Below.alloc ?_ (by have:=BB.out.size;simp;try omega) _|refine Below.drew ?_|exact BB.out))⟩
  · exact bodyPost_ret (v:=idE ((0,0),em)) (by simp [results,Tryz.results35,go_sem,idE, *]) rfl ⟨rfl,(by repeat (first|refine Below.setCell ?_ (by simp;try omega) _|refine Below.alloc ?_ (by have:=BB.out.size;simp;try omega) _|refine Below.drew ?_|exact BB.out))⟩
def calI (ps:List Plc) (d k:Int) (y:Bool) (c n ds:ByteArray) (tx:Int) (ts:ByteArray):(Int×Int)×Int :=
  if casI ps d k tx ts=0 then (if crfI k y c n ds=0 then (if (metR ps d y c n ds).2=0 then (if ftsB ps k (metR ps d y c n ds).1 then (if k=4 then ((metR ps d y c n ds).1,0) else (if cblI ps tx ts c=0 then (if (hldR ps tx ts).2=0 then (if k=1 then virI ps (hldR ps tx ts).1 (metR ps d y c n ds).1 else if k=2 then itfI ps (hldR ps tx ts).1 (metR ps d y c n ds).1 else spcI ps d y c n ds (metR ps d y c n ds).1) else ((0,0),(hldR ps tx ts).2)) else ((0,0),cblI ps tx ts c))) else ((0,0),23)) else ((0,0),(metR ps d y c n ds).2)) else ((0,0),crfI k y c n ds)) else ((0,0),casI ps d k tx ts)
theorem cal_c {b:Nat} {ps:List Plc} {W:World} (h:WAt b ps W) (hi:WI ps) (d k:Int) (y:Bool) (c n ds:ByteArray) (tx:Int) (ts:ByteArray) (hc:c.size≤maxLen) (hn:n.size≤maxLen) (hd:ds.size≤maxLen) (hs:ts.size≤maxLen):Calls Tryz.prog 35 #[.pointer (some ⟨b,0,none⟩),.int .i64 d,.int .i64 k,.agg #[.bool y,.string c,.string n,.string ds],.agg #[.int .i64 tx,.string ts]] W fun e w'=>e=.returned (idE (calI ps d k y c n ds tx ts))∧Below W.heap.size W w':=by
  exact cal_all W b d k y c n ds tx ts _ _ _ _ _ _ _ _ _ _ _ _ _ _ _ _ _ _ (fun w hb=>cas_c (h.below hb) d k tx ts hs) (fun w _=>crf_c k y c n ds hc hn hd w) (fun w hb=>met_c (h.below hb) hi d y c n ds hc hn hd) (fun w hb=>fit_c (h.below hb) hi k _ _) (fun w hb=>cbl_c (h.below hb) hi tx ts y c n ds hs hc) (fun w hb=>hld_c (h.below hb) tx ts hs) (fun w hb=>vir_c (h.below hb) hi _ _ _) (fun w hb=>itf_c (h.below hb) hi _ _ _) (fun w hb=>spc_c (h.below hb) hi d y c n ds _ _ hc hn hd) _ rfl
variable {ps:List Plc} {p:Plc}
theorem Gr.sp {a b:Int} {q r:Plc} (ha:plcI ps a=some q) (hb:plcI ps b=some r):spI (ps++[p]) a b=spI ps a b:=by
  rw [spI,spI,ha,hb,Gr.plc ha,Gr.plc hb]
theorem Gr.pln (h:Gr ps p) {c a:Int} {q r:Plc} (hc:plcI ps c=some q) (ha:plcI ps a=some r) (xn xd:ByteArray) (xf:Int) (yn yd:ByteArray) (yf:Int):plnB (ps++[p]) xn xd xf c yn yd yf a=plnB ps xn xd xf c yn yd yf a:=by
  unfold plnB bloB reaB
  rw [Gr.ifc hc,h.ext hc ha,Gr.ifc ha,Gr.sp hc ha]
theorem Gr.pl (h:Gr ps p) {c a:Int×Int} {q r:Plc} (hc:plcI ps c.1=some q) (ha:plcI ps a.1=some r):plI (ps++[p]) c a=plI ps c a:=by
  unfold plI
  rw [Gr.met hc,Gr.met ha]
  split
  · exact h.pln hc ha _ _ _ _ _ _
  · rfl
theorem Gr.st {c:Int×Int} {q:Plc} (hc:plcI ps c.1=some q):stI (ps++[p]) c=stI ps c:=by
  unfold stI
  rw [Gr.met hc]
def InP (ps:List Plc) (l:List (Int×Int)):Prop:=∀ m∈l,∃ q,plcI ps m.1=some q
theorem gth_sub (a:Int×Int):∀ (l k:List (Int×Int)),∀ m∈l.foldl (gth1 ps a) k,m∈k∨m∈l
  | [],k,m,hm=>.inl hm
  | c::r,k,m,hm=>by
    rw [List.foldl_cons] at hm
    rcases gth_sub a r _ m hm with h|h
    · rw [gth1] at h
      split at h
      · rcases List.mem_append.1 h with h|h
        · exact .inl h
        · rw [List.mem_singleton] at h;exact .inr (by rw [h];exact List.mem_cons_self)
      · exact .inl h
    · exact .inr (List.mem_cons_of_mem _ h)
theorem gthL_sub {a:Int×Int} {l:List (Int×Int)} {m:Int×Int} (h:m∈gthL ps a l):m∈l:=by
  rcases gth_sub (ps:=ps) a l [] m h with h|h
  · cases h
  · exact h
theorem any_congr {α:Type} {f g:α→Bool}:∀ {l:List α},(∀ x∈l,f x=g x)→l.any f=l.any g
  | [],_=>rfl
  | x::r,h=>by rw [List.any_cons,List.any_cons,h x List.mem_cons_self,any_congr (fun y hy=>h y (List.mem_cons_of_mem _ hy))]
theorem Gr.gth1 (h:Gr ps p) {a c:Int×Int} {q:Plc} (hc:plcI ps c.1=some q) {k:List (Int×Int)} (hk:InP ps k):Go.Proofs.YtfoldbhlmmmpeaaGreat.gth1 (ps++[p]) a k c=Go.Proofs.YtfoldbhlmmmpeaaGreat.gth1 ps a k c:=by
  unfold Go.Proofs.YtfoldbhlmmmpeaaGreat.gth1
  rw [Gr.st hc,any_congr (fun x hx=>by obtain ⟨r,hr⟩:=hk x hx;exact h.pl hc hr)]
theorem Gr.gthF (h:Gr ps p) (a:Int×Int):∀ (l k:List (Int×Int)),InP ps l→InP ps k→l.foldl (Go.Proofs.YtfoldbhlmmmpeaaGreat.gth1 (ps++[p]) a) k=l.foldl (Go.Proofs.YtfoldbhlmmmpeaaGreat.gth1 ps a) k
  | [],_,_,_=>rfl
  | c::r,k,hl,hk=>by
    obtain ⟨q,hq⟩:=hl c List.mem_cons_self
    rw [List.foldl_cons,List.foldl_cons,h.gth1 hq hk]
    refine Gr.gthF h a r _ (fun m hm=>hl m (List.mem_cons_of_mem _ hm)) (fun m hm=>?_)
    rw [Go.Proofs.YtfoldbhlmmmpeaaGreat.gth1] at hm
    split at hm
    · rcases List.mem_append.1 hm with hm|hm
      · exact hk m hm
      · rw [List.mem_singleton] at hm;subst hm;exact ⟨q,hq⟩
    · exact hk m hm
theorem Gr.gthL (h:Gr ps p) (a:Int×Int) {l:List (Int×Int)} (hl:InP ps l):Go.Proofs.YtfoldbhlmmmpeaaGreat.gthL (ps++[p]) a l=Go.Proofs.YtfoldbhlmmmpeaaGreat.gthL ps a l:=h.gthF a l [] hl (fun m hm=>by cases hm)
theorem Gr.nsk (nm ds:ByteArray) (a:Int):∀ l:List Nat,(∀ i∈l,i<ps.length)→nskL (ps++[p]) nm ds a l=nskL ps nm ds a l
  | [],_=>rfl
  | i::r,h=>by
    obtain ⟨q,hq⟩:=plc_nat (ps:=ps) (h i List.mem_cons_self)
    rw [nskL,nskL,Gr.fnd hq,Gr.nsk nm ds a r (fun j hj=>h j (List.mem_cons_of_mem _ hj))]
theorem nsk_in (nm ds:ByteArray) (a:Int):∀ l:List Nat,(∀ i∈l,i<ps.length)→InP ps (nskL ps nm ds a l)
  | [],_,m,hm=>by cases hm
  | i::r,h,m,hm=>by
    rw [nskL] at hm
    have ih:=nsk_in nm ds a r (fun j hj=>h j (List.mem_cons_of_mem _ hj))
    split at hm
    · rcases List.mem_cons.1 hm with rfl|hm
      · exact plc_nat (h i List.mem_cons_self)
      · exact ih m hm
    · exact ih m hm
theorem Gr.chn (h:Gr ps p) {c:Int} {q:Plc} (hc:plcI ps c=some q):chL ((ps++[p]).map nd) c.toNat=chL (ps.map nd) c.toNat∧∀ i∈chL (ps.map nd) c.toNat,i<ps.length:=by
  obtain ⟨h1,h2⟩:=plcI_lt hc
  have hw:=h.wi2.wo
  rw [List.map_append] at hw
  have hlt:c.toNat<(ps.map nd).length:=by simp;omega
  refine ⟨by rw [List.map_append];exact chL_snoc h.wi.wo hw _ hlt,fun i hi=>by have:=ch_in h.wi.wo _ hlt i hi;simpa using this⟩
theorem ask_in {m:HM} {a:Int×Int} {q:Plc} (ha:plcI ps a.1=some q) {l:List Nat} (hl:∀ i∈l,i<ps.length):InP ps (askL ps m a l):=by
  intro x hx
  rw [askL] at hx
  rcases List.mem_cons.1 hx with rfl|hx
  · exact ⟨q,ha⟩
  · exact nsk_in _ _ _ l hl x hx
theorem Gr.fir (h:Gr ps p) {r:Int} {a:Int×Int} {q s:Plc} (hr:plcI ps r=some q) (ha:plcI ps a.1=some s):firI (ps++[p]) r a=firI ps r a∧((firI ps r a).2=0→∃ t,plcI ps (firI ps r a).1.1=some t):=by
  obtain ⟨e1,e2⟩:=h.chn hr
  unfold firI
  rw [Gr.met ha,hr,Gr.plc hr]
  cases hm:methI ps a.1 a.2 with
  | none=>exact ⟨rfl,fun e=>absurd e (show ¬ (3:Int)=0 by decide)⟩
  | some m =>
    simp only
    have hl:∀ i∈(chL (ps.map nd) r.toNat).reverse,i<ps.length:=fun i hi=>e2 i (List.mem_reverse.1 hi)
    have ea:askL (ps++[p]) m a (chL (ps.map nd) r.toNat).reverse=askL ps m a (chL (ps.map nd) r.toNat).reverse:=by rw [askL,askL,Gr.nsk _ _ _ _ hl]
    have hin:=ask_in (m:=m) ha hl
    rw [e1,ea,h.gthL a hin]
    refine ⟨rfl,fun e=>?_⟩
    cases hg:(Go.Proofs.YtfoldbhlmmmpeaaGreat.gthL ps a (askL ps m a (chL (ps.map nd) r.toNat).reverse)).getLast? with
    | none=>rw [lstI,hg] at e;exact absurd e (show ¬ (6:Int)=0 by decide)
    | some x =>
      rw [lstI_last hg] at e ⊢
      split
      · exact hin x (gthL_sub (List.mem_of_getLast? hg))
      · rename_i hh;rw [if_neg hh] at e;exact absurd e (by decide)
theorem Gr.una {m:Int×Int} {q:Plc} (hm:plcI ps m.1=some q):unaI (ps++[p]) m=unaI ps m:=by rw [unaI,unaI,Gr.has hm]
theorem Gr.on (h:Gr ps p) {c:Int} {q:Plc} (hc:plcI ps c=some q) (nm ds:ByteArray):onI (ps++[p]) c nm ds=onI ps c nm ds:=by
  rw [onI,onI,hc,Gr.plc hc]
  simp only
  have hl:=cl_in h.wi hc
  rw [Gr.cand nm ds q.cl hl,h.one (fun m hm=>cand_in hl hm)]
theorem Gr.crd {d:Int} {m:Int×Int} {q r:Plc} (hd:plcI ps d=some q) (hm:plcI ps m.1=some r):crdI (ps++[p]) d m=crdI ps d m:=by
  rw [crdI,crdI,hd,Gr.plc hd,Gr.met hm]
theorem Gr.vir (h:Gr ps p) {r:Int} {m:Int×Int} {q s:Plc} (hr:plcI ps r=some q) (hm:plcI ps m.1=some s):virI (ps++[p]) r m=virI ps r m:=by
  unfold virI rfrI
  rw [Gr.crd hr hm,Gr.ifc hr]
  cases hD:crdI ps r m with
  | error e=>rfl
  | ok x =>
    obtain ⟨e1,e2⟩:=h.fir hr hm
    cases ifcI ps r with
    | true=>rfl
    | false =>
      simp only [Bool.false_eq_true,if_false]
      rw [e1,h.on hr]
      split
      · rfl
      · split
        · rename_i h0
          obtain ⟨t,ht⟩:=e2 h0
          rw [Gr.una ht]
        · rfl
theorem Gr.upp (nm ds:ByteArray):∀ l:List Nat,(∀ i∈l,i<ps.length)→uppI (ps++[p]) nm ds l=uppI ps nm ds l
  | [],_=>rfl
  | i::r,h=>by
    obtain ⟨q,hq⟩:=plc_nat (ps:=ps) (h i List.mem_cons_self)
    rw [uppI,uppI,Gr.fnd hq,Gr.has hq,Gr.upp nm ds r (fun j hj=>h j (List.mem_cons_of_mem _ hj))]
theorem upp_in (nm ds:ByteArray):∀ l:List Nat,(∀ i∈l,i<ps.length)→(uppI ps nm ds l).2=true→∃ q,plcI ps (uppI ps nm ds l).1.1=some q
  | [],_,e=>by cases e
  | i::r,h,e=>by
    rw [uppI] at e ⊢
    split at e
    · rename_i hh
      rw [if_pos hh]
      exact plc_nat (h i List.mem_cons_self)
    · rename_i hh
      rw [if_neg hh]
      exact upp_in nm ds r (fun j hj=>h j (List.mem_cons_of_mem _ hj)) e
theorem Gr.uch (h:Gr ps p) {c:Int} {q:Plc} (hc:plcI ps c=some q) (nm ds:ByteArray):uchI (ps++[p]) nm ds c=uchI ps nm ds c∧((uchI ps nm ds c).2=true→∃ t,plcI ps (uchI ps nm ds c).1.1=some t):=by
  obtain ⟨e1,e2⟩:=h.chn hc
  unfold uchI
  rw [hc,Gr.plc hc]
  simp only
  rw [e1,Gr.upp nm ds _ e2]
  exact ⟨rfl,upp_in nm ds _ e2⟩
theorem Gr.itf (h:Gr ps p) {r:Int} {m:Int×Int} {q s:Plc} (hr:plcI ps r=some q) (hm:plcI ps m.1=some s):itfI (ps++[p]) r m=itfI ps r m:=by
  unfold itfI rfrI
  rw [Gr.crd hr hm,Gr.ifc hr]
  cases hD:crdI ps r m with
  | error e=>rfl
  | ok x =>
    obtain ⟨e1,e2⟩:=h.uch hr x.nm x.ds
    cases ifcI ps r with
    | true=>rfl
    | false =>
      simp only [Bool.false_eq_true,if_false]
      rw [e1,h.on hr]
      split
      · rfl
      · split
        · rename_i h0
          obtain ⟨t,ht⟩:=e2 h0
          rw [Gr.una ht,Gr.has ht]
        · rfl
theorem Gr.ow {c:Int} {q:Plc} (hc:plcI ps c=some q) (nm ds:ByteArray):owB (ps++[p]) nm ds c=owB ps nm ds c:=by rw [owB,owB,Gr.fnd hc]
theorem ow_in {c:Int} (nm ds:ByteArray) (h:(owB ps nm ds c).2=true):(owB ps nm ds c).1.1=c:=by
  rw [owB] at h ⊢
  split at h
  · rename_i hh;rw [if_pos hh]
  · cases h
theorem Gr.spn (h:Gr ps p) {c:Int} {q:Plc} (hc:plcI ps c=some q) (nm ds:ByteArray):spcB (ps++[p]) nm ds c=spcB ps nm ds c∧((spcB ps nm ds c).2=true→∃ t,plcI ps (spcB ps nm ds c).1.1=some t):=by
  have hlo:=h.wi.lo
  obtain ⟨q0,hq0⟩:=plc_nat (ps:=ps) (k:=0) (by omega)
  have hq0:plcI ps 0=some q0:=hq0
  obtain ⟨e1,e2⟩:=h.uch hc nm ds
  unfold spcB
  rw [Gr.ifc hc,Gr.ow hc,Gr.ow hq0,e1]
  have f1:(owB ps nm ds c).2=true→∀ f,hasS (ps++[p]) (owB ps nm ds c).1.1 (owB ps nm ds c).1.2 f=hasS ps (owB ps nm ds c).1.1 (owB ps nm ds c).1.2 f:=fun e f=>by rw [ow_in nm ds e];exact Gr.has hc _ _
  have f2:(owB ps nm ds 0).2=true→∀ f,hasS (ps++[p]) (owB ps nm ds 0).1.1 (owB ps nm ds 0).1.2 f=hasS ps (owB ps nm ds 0).1.1 (owB ps nm ds 0).1.2 f:=fun e f=>by rw [ow_in nm ds e];exact Gr.has hq0 _ _
  cases ifcI ps c with
  | false=>exact ⟨rfl,e2⟩
  | true =>
    simp only [if_true]
    cases ho:(owB ps nm ds c).2 with
    | false =>
      simp only [Bool.false_eq_true,false_and,if_false]
      cases ht:(owB ps nm ds 0).2 with
      | false=>simp only [Bool.false_eq_true,false_and,if_false];exact ⟨trivial,fun e=>by cases e⟩
      | true =>
        rw [f2 ht,f2 ht]
        refine ⟨rfl,fun e=>?_⟩
        split at e
        · rename_i hh;rw [if_pos hh,ow_in nm ds ht];exact ⟨q0,hq0⟩
        · cases e
    | true =>
      rw [f1 ho]
      cases ht:(owB ps nm ds 0).2 with
      | false =>
        simp only [Bool.false_eq_true,false_and,if_false]
        refine ⟨trivial,fun e=>?_⟩
        split at e
        · rename_i hh;rw [if_pos hh,ow_in nm ds ho];exact ⟨q,hc⟩
        · cases e
      | true =>
        rw [f2 ht,f2 ht]
        refine ⟨rfl,fun e=>?_⟩
        split at e
        · rename_i hh;rw [if_pos hh,ow_in nm ds ho];exact ⟨q,hc⟩
        · rename_i hh
          rw [if_neg hh]
          split at e
          · rename_i h2;rw [if_pos h2,ow_in nm ds ht];exact ⟨q0,hq0⟩
          · cases e
theorem Gr.abv (h:Gr ps p) {d k:Int} {q r:Plc} (hd:plcI ps d=some q) (hk:plcI ps k=some r):abvB (ps++[p]) d k=abvB ps d k:=by
  rw [abvB,abvB,hd,Gr.plc hd]
  simp only
  rw [Gr.ifc hk,h.ext hd hk]
theorem Gr.sup {d:Int} {q:Plc} (hd:plcI ps d=some q):supI (ps++[p]) d=supI ps d:=by
  rw [supI,supI,hd,Gr.plc hd]
theorem sup_in (h:WI ps) {d:Int} {q:Plc} (hd:plcI ps d=some q):∃ t,plcI ps (supI ps d).1=some t:=by
  have hlo:=h.lo
  rw [supI,hd]
  simp only
  split
  · exact plc_nat (ps:=ps) (k:=0) (by omega)
  · rename_i h0
    obtain ⟨h1,h2⟩:=plcI_lt hd
    obtain ⟨k,rfl⟩:∃ k:Nat,d=(k:Int):=⟨d.toNat,by omega⟩
    rw [plcI_nat] at hd
    have:=(h.wo.sp k (nd q) (by omega) (by rw [List.getElem?_map,hd];rfl)).1
    exact plc_nat (ps:=ps) (k:=q.sp) (by have:(nd q).sp=q.sp:=rfl;omega)
theorem Gr.nmd (h:Gr ps p) {c n ds:ByteArray} (hn:(nmdR ps c n ds).2≠20):nmdR (ps++[p]) c n ds=nmdR ps c n ds∧((nmdR ps c n ds).2=0→∃ t,plcI ps (nmdR ps c n ds).1.2=some t):=by
  unfold nmdR at hn ⊢
  split
  · rename_i h1
    rw [if_pos h1] at hn
    split
    · rename_i h2
      rw [if_pos h2] at hn
      obtain ⟨e1,e2⟩:=h.hld hn
      rw [e1]
      exact ⟨rfl,fun _=>e2⟩
    · rename_i h2
      exact ⟨rfl,fun e=>absurd e h2⟩
  · exact ⟨rfl,fun e=>absurd e (by decide)⟩
theorem Gr.spc (h:Gr ps p) {d:Int} {y:Bool} {c n ds:ByteArray} {m:Int×Int} {q s:Plc} (hd:plcI ps d=some q) (hm:plcI ps m.1=some s) (h20:(spcI ps d y c n ds m).2≠20):spcI (ps++[p]) d y c n ds m=spcI ps d y c n ds m:=by
  unfold spcI at h20 ⊢
  rw [Gr.crd hd hm]
  cases hD:crdI ps d m with
  | error e=>rfl
  | ok x =>
    rw [hD] at h20
    simp only at h20 ⊢
    have hn:(nmdR ps c n ds).2≠20:=by
      intro e
      rw [if_neg (by rw [e];decide),e] at h20
      exact h20 rfl
    obtain ⟨e1,e2⟩:=h.nmd hn
    rw [e1]
    split
    · rename_i h0
      obtain ⟨t,ht⟩:=e2 h0
      have hsd:spdI (ps++[p]) d y (nmdR ps c n ds).1=spdI ps d y (nmdR ps c n ds).1:=by rw [spdI,spdI,h.abv hd ht,Gr.sup hd]
      have hsp:∃ u,plcI ps (spdI ps d y (nmdR ps c n ds).1)=some u:=by
        rw [spdI]
        split
        · exact sup_in h.wi hd
        · exact ⟨t,ht⟩
      obtain ⟨u,hu⟩:=hsp
      obtain ⟨e3,e4⟩:=h.spn hu x.nm x.ds
      rw [hsd,e3,h.on hu]
      split
      · rfl
      · split
        · rfl
        · split
          · rename_i hh
            obtain ⟨v,hv⟩:=e4 hh
            rw [Gr.una hv]
          · rfl
    · rfl
theorem Gr.crv (h:Gr ps p) {tx:Int} {ts:ByteArray} (hn:crvI ps tx ts≠20):crvI (ps++[p]) tx ts=crvI ps tx ts:=by
  have h2:(hldR ps tx ts).2≠20:=by
    intro e
    rw [crvI,if_neg (by rw [e];decide),e] at hn
    exact hn rfl
  obtain ⟨e1,q,hq⟩:=h.hld h2
  rw [crvI,crvI,e1,Gr.ifc hq]
theorem crv_ld {tx:Int} {ts:ByteArray} (h:crvI ps tx ts=0):(hldR ps tx ts).2=0∧ifcI ps (hldR ps tx ts).1=false∧ldI ps tx ts=0:=by
  have h0:(hldR ps tx ts).2=0:=by
    rw [crvI] at h
    split at h
    · assumption
    · exact h
  refine ⟨h0,?_,?_⟩
  · rw [crvI,if_pos h0] at h
    cases hi:ifcI ps (hldR ps tx ts).1 with
    | false=>rfl
    | true=>rw [hi] at h;exact absurd h (by decide)
  · rw [hldR] at h0
    split at h0
    · assumption
    · exact h0
theorem Gr.cas (h:Gr ps p) {d k tx:Int} {ts:ByteArray} (h3:casI ps d k tx ts≠3) (h20:casI ps d k tx ts≠20):casI (ps++[p]) d k tx ts=casI ps d k tx ts:=by
  by_cases hd:rckI ps d=0
  · obtain ⟨r,hr,hd2⟩:=rck_snoc (p:=p) hd
    unfold casI at h3 h20 ⊢
    rw [if_pos hd] at h20 ⊢
    rw [if_pos hd2]
    split
    · rename_i hk
      rw [if_pos hk] at h20
      exact h.crv h20
    · rfl
  · exfalso
    apply h3
    rw [casI,if_neg hd]
    rw [rckI] at hd ⊢
    split
    · rename_i hh;rw [if_pos hh] at hd;exact absurd rfl hd
    · rfl
theorem cas_d {d k tx:Int} {ts:ByteArray} (h:casI ps d k tx ts=0):rckI ps d=0∧(k=4∨(k=1∨k=2∨k=3)∧crvI ps tx ts=0):=by
  have h0:rckI ps d=0:=by
    rw [casI] at h
    split at h
    · assumption
    · exact h
  rw [casI,if_pos h0] at h
  refine ⟨h0,?_⟩
  split at h
  · rename_i hk;exact .inr ⟨hk,h⟩
  · split at h
    · rename_i hk;exact .inl hk
    · exact absurd h (by decide)
theorem Gr.sub (h:Gr ps p) {x:Int} {s:ByteArray} {y:Int} {t:ByteArray} (h1:ldI ps x s=0) (h2:ldI ps y t=0):subB (ps++[p]) x s y t=subB ps x s y t:=by
  unfold subB
  generalize x.toNat - min x.toNat y.toNat=a
  generalize y.toNat - min x.toNat y.toNat=b
  unfold belB
  by_cases hi:(intB (a:Int) s||intB (b:Int) t)=true
  · rw [if_pos hi,if_pos hi]
  · rw [if_neg hi,if_neg hi]
    by_cases hb:0<b
    · rw [if_pos hb,if_pos hb]
    · rw [if_neg hb,if_neg hb]
      by_cases ha:0<a
      · rw [if_pos ha,if_pos ha]
      · rw [if_neg ha,if_neg ha]
        obtain rfl:a=0:=by omega
        obtain rfl:b=0:=by omega
        have hs:¬ s.toList.isEmpty=true:=fun e=>hi (by rw [intB,e];rfl)
        have ht:¬ t.toList.isEmpty=true:=by
          intro e
          have e2:intB ((0:Nat):Int) t=true:=by rw [intB,e];rfl
          exact hi (by rw [e2,Bool.or_true])
        obtain ⟨k,hk⟩:=ld_some h1 hs
        obtain ⟨j,hj⟩:=ld_some h2 ht
        rw [look_snoc hk h.nn,look_snoc hj h.nn,hk,hj]
        simp only
        have hw:=h.wi2.wo
        rw [List.map_append] at hw
        rw [List.map_append]
        obtain ⟨_,qq,hqq,_⟩:=look_lt _ ps 0 k hk
        have hlt:=(List.getElem?_eq_some_iff.1 hqq).1
        exact extB_snoc h.wi.wo hw (by rw [List.length_map];omega) j
theorem Gr.suP (h:Gr ps p) {x:Int} {s:ByteArray} {y:Int} {t:ByteArray} (h1:ldI ps x s=0) (h2:(Go.Proofs.YtfoldbhlmmmpeaaGreat.suP ps x s y t).2≠20):Go.Proofs.YtfoldbhlmmmpeaaGreat.suP (ps++[p]) x s y t=Go.Proofs.YtfoldbhlmmmpeaaGreat.suP ps x s y t:=by
  have e1:ldI (ps++[p]) x s=0:=by rw [h.ld (by rw [h1];decide)];exact h1
  have h3:ldI ps y t≠20:=by
    intro e
    rw [Go.Proofs.YtfoldbhlmmmpeaaGreat.suP,if_pos h1,if_neg (by rw [e];decide),e] at h2
    exact h2 rfl
  unfold Go.Proofs.YtfoldbhlmmmpeaaGreat.suP
  rw [if_pos h1,if_pos e1,h.ld h3]
  split
  · rename_i h4;rw [h.sub h1 h4]
  · rfl
theorem Gr.cbl (h:Gr ps p) {tx:Int} {ts c:ByteArray} (h1:ldI ps tx ts=0) (h2:cblI ps tx ts c≠20):cblI (ps++[p]) tx ts c=cblI ps tx ts c:=by
  unfold cblI at h2 ⊢
  split
  · rename_i h3
    rw [if_pos h3] at h2
    have h4:(Go.Proofs.YtfoldbhlmmmpeaaGreat.suP ps tx ts ((prfT c.data.toList).1:Int) (tyS c.data.toList)).2≠20:=by
      intro e
      rw [if_neg (by rw [e];decide),e] at h2
      exact h2 rfl
    rw [h.suP h1 h4]
  · rfl
theorem Gr.cal (h:Gr ps p) {d k:Int} {y:Bool} {c n ds:ByteArray} {tx:Int} {ts:ByteArray} (h3:(calI ps d k y c n ds tx ts).2≠3) (h20:(calI ps d k y c n ds tx ts).2≠20):calI (ps++[p]) d k y c n ds tx ts=calI ps d k y c n ds tx ts:=by
  unfold calI at h3 h20 ⊢
  by_cases e1:casI ps d k tx ts=0
  · obtain ⟨hd,hk⟩:=cas_d e1
    obtain ⟨r,hr,_⟩:=rck_snoc (p:=p) hd
    rw [h.cas (by rw [e1];decide) (by rw [e1];decide)]
    rw [if_pos e1] at h3 h20 ⊢
    rw [if_pos e1]
    by_cases e2:crfI k y c n ds=0
    · rw [if_pos e2] at h3 h20 ⊢
      rw [if_pos e2]
      have g3:(Go.Proofs.YtfoldbhlmmmpeaaGreat.metR ps d y c n ds).2≠3:=by
        intro e
        rw [if_neg (by rw [e];decide),e] at h3
        exact h3 rfl
      have g20:(Go.Proofs.YtfoldbhlmmmpeaaGreat.metR ps d y c n ds).2≠20:=by
        intro e
        rw [if_neg (by rw [e];decide),e] at h20
        exact h20 rfl
      rw [h.metR g3 g20]
      by_cases e3:(Go.Proofs.YtfoldbhlmmmpeaaGreat.metR ps d y c n ds).2=0
      · rw [if_pos e3] at h3 h20 ⊢
        rw [if_pos e3]
        obtain ⟨x,hx,_⟩:=(lby_facts h.wi (met_facts (m:=(Go.Proofs.YtfoldbhlmmmpeaaGreat.metR ps d y c n ds).1) (Prod.ext rfl e3)).lb).1
        obtain ⟨_,qm,_,_,hqm,_⟩:=meth_plc hx
        generalize (Go.Proofs.YtfoldbhlmmmpeaaGreat.metR ps d y c n ds).1=m at *
        have ef:ftsB (ps++[p]) k m=ftsB ps k m:=by rw [ftsB,ftsB,Gr.has hqm,Gr.has hqm]
        rw [ef]
        cases hft:ftsB ps k m with
        | false=>rfl
        | true =>
          rw [hft] at h3 h20
          simp only [if_true] at h3 h20 ⊢
          by_cases k4:k=4
          · rw [if_pos k4,if_pos k4]
          · rw [if_neg k4] at h3 h20 ⊢
            rw [if_neg k4]
            rcases hk with hk|⟨hk,hcr⟩
            · exact absurd hk k4
            · obtain ⟨c1,c2,c3⟩:=crv_ld hcr
              have gb:cblI ps tx ts c≠20:=by
                intro e
                rw [if_neg (by rw [e];decide),e] at h20
                exact h20 rfl
              rw [h.cbl c3 gb]
              by_cases e5:cblI ps tx ts c=0
              · rw [if_pos e5] at h3 h20 ⊢
                rw [if_pos e5]
                obtain ⟨f1,qh,hqh⟩:=h.hld (x:=tx) (s:=ts) (by rw [c1];decide)
                rw [f1]
                rw [if_pos c1] at h20 ⊢
                rw [if_pos c1,h.vir hqh hqm,h.itf hqh hqm]
                split
                · rfl
                · rename_i k1
                  split
                  · rfl
                  · rename_i k2
                    rw [if_neg k1,if_neg k2] at h20
                    exact h.spc hr hqm h20
              · rw [if_neg e5,if_neg e5]
      · rw [if_neg e3,if_neg e3]
    · rw [if_neg e2,if_neg e2]
  · rw [if_neg e1] at h3 h20
    rw [h.cas h3 h20,if_neg e1,if_neg e1]
theorem clss_keep {w w':World} {v:Value} {l:List Cls} (h:IsClss w v l) (hb:Below w.heap.size w w'):IsClss w' v l:=by
  obtain ⟨ao,cap,rfl,h1,h2,h3⟩:=h
  refine ⟨ao,cap,rfl,h1,h2,fun hne=>?_⟩
  obtain ⟨bk,o,e,hlt,hc⟩:=h3 hne
  refine ⟨bk,o,e,Nat.lt_of_lt_of_le hlt hb.size,fun k c hk=>?_⟩
  obtain ⟨vi,vm,h4,h5⟩:=hc k c hk
  exact ⟨vi,vm,fun j u hj=>(hb.cell hlt).trans (h4 j u hj),h5.keep hb⟩
theorem vir3:virI P3 0 (0,1)=((0,1),0):=by kernel_rfl
theorem awake12_c (W:World):Calls Tryz.prog 34 #[] W fun e w'=>e=.returned (.bool true)∧Below W.heap.size W w':=by
  have HN:Hid (∀ w:World,Calls Tryz.prog 51 #[] w fun e w'=>∃ b,e=.returned (.pointer (some ⟨b,0,none⟩))∧WAt b P3 w'∧Below w.heap.size w w'):=fun w=>(new_any w).mono fun e w' zz=>⟨_,zz.1,by obtain ⟨vp,pv,hw⟩:=zz.2.1;exact hw.wat,zz.2.2⟩
  have HM:Hid (∀ (w:World) (b:Nat),WAt b P3 w→Calls Tryz.prog 38 #[.pointer (some ⟨b,0,none⟩),.int .i64 0,.agg #[.int .i64 0,.int .i64 1]] w fun e w'=>e=.returned (.tuple #[.agg #[.int .i64 0,.int .i64 1],.int .i64 0])∧Below w.heap.size w w'):=fun w b h=>(vir_c h wi3 0 0 1).mono fun e w' zz=>⟨by rw [zz.1,vir3];rfl,zz.2⟩
  have BB:Hid (Below W.heap.size W W):=Below.refl _ _
  go_enter Tryz.func34,Tryz.ntmps34
  go_wp2_with (first
    | (go_at_call 51;refine (HN.out _).mono ?_;rintro e w1 ⟨b,rfl,hw,hb⟩;have BB2:Below W.heap.size W w1:=bstep (by repeat (first|exact BB.out|exact Below.refl _ _|refine Below.setCell ?_ (by simp;try omega) _|refine Below.alloc ?_ (by have:=BB.out.size;simp;try omega) _|refine Below.drew ?_)) hb;clear BB;have BB:Hid (Below W.heap.size W w1):=BB2;(try clear HH);have HH:Hid (WAt b P3 w1):=hw;clear hw hb BB2)
    | (go_at_call 38;refine (HM.out _ _ HH.out).mono ?_;rintro e w2 ⟨rfl,hb⟩;have BB2:=bstep BB.out hb;clear BB;have BB:Hid (Below W.heap.size W w2):=BB2;clear hb BB2 HM))
  exact bodyPost_ret (results_tmp rfl _ _ _) rfl ⟨rfl,(by repeat (first|exact BB.out|exact Below.refl _ _|refine Below.setCell ?_ (by simp;try omega) _|refine Below.alloc ?_ (by have:=BB.out.size;simp;try omega) _|refine Below.drew ?_))⟩
def WN (n z b:Nat) (ps:List Plc) (w:World):Prop:=n≤z∧z≤w.heap.size∧∃ mb vp pv,HW w n b mb ps vp pv∧b<z∧mb<z∧∀ g,vp.ownBlock=some g→g<z
theorem WN.of {w:World} {n b mb:Nat} {ps:List Plc} {vp:Value} {pv:List PV} (h:HW w n b mb ps vp pv) (hn:n≤w.heap.size):WN n w.heap.size b ps w:=by
  obtain ⟨es,cl,hm,_⟩:=h.map
  exact ⟨hn,Nat.le_refl _,mb,vp,pv,h,(Array.getElem?_eq_some_iff.1 h.hb).1,(Array.getElem?_eq_some_iff.1 hm).1,fun g hg=>(h.row.lt g hg).2⟩
theorem WN.below {n z b:Nat} {ps:List Plc} {w w':World} (h:WN n z b ps w) (hb:Below w.heap.size w w'):WN n z b ps w':=by
  obtain ⟨h1,h2,mb,vp,pv,h3,h4⟩:=h
  exact ⟨h1,Nat.le_trans h2 hb.size,mb,vp,pv,h3.below hb,h4⟩
theorem WN.wat {n z b:Nat} {ps:List Plc} {w:World} (h:WN n z b ps w):WAt b ps w:=by
  obtain ⟨_,_,mb,vp,pv,h3,_⟩:=h
  exact ⟨_,_,_,_,h3⟩
structure KeepN (n z:Nat) (w w':World):Prop where
  bel:Below n w w'
  block:∀ k,(k<n∨(z≤k∧k<w.heap.size))→w'.heap[k]?=w.heap[k]?
theorem define_n {n z b:Nat} {ps:List Plc} {w:World} (h:WN n z b ps w) (hW:WI ps) (c:Cls) (vi vm:Value) (hc:ClsIn w vi vm c):Calls Tryz.prog 47 #[.pointer (some ⟨b,0,none⟩),.agg #[.string c.nm,.string c.su,vi,.int .i64 c.fl,.int .i64 c.ld,vm]] w fun e w'=>(∃ u,e=.returned u)∧WAt b (dfP ps (defN ps c)) w'∧KeepN n z w w':=by
  obtain ⟨h1,h2,mb,vp,pv,h3,h4,h5,h6⟩:=h
  refine (define_any n b mb ps vp pv c vi vm w h3 (Nat.le_trans h1 h2) hc hW.nm).mono ?_
  rintro e w' ⟨rfl,⟨vp',pv',hw'⟩,hb,hk⟩
  refine ⟨⟨_,rfl⟩,hw'.wat,hb,fun k hk2=>?_⟩
  rcases hk2 with hk2|⟨hk2,hk3⟩
  · exact hb.block k hk2
  · refine hk k hk3 (by omega) (by omega) (fun e=>?_)
    have:=h6 k e.symm
    omega
theorem kq2 {V w:World} {N z n:Nat} {t:TypeId} {a0 a1:Value} (hb:KeepN N z V w) (hn:n<N∨(z≤n∧n<V.heap.size)) (h:V.heap[n]?=some (.cells #[a0,a1] t (0,0))):Hid (w.heap[n]?=some (.cells #[a0,a1] t (0,0)))∧w.cell? ⟨n,0,none⟩=some a0∧w.cell? ⟨n,1,none⟩=some a1∧(∀ k,w.frozen? ⟨n,k,none⟩=false)∧n<w.heap.size∧¬ n=w.heap.size:=by
  have h2:=(hb.block n hn).trans h
  obtain ⟨c0,c1,f,l⟩:=rw2 h2
  exact ⟨h2,c0,c1,f,l,by omega⟩
theorem kq4 {V w:World} {N z n:Nat} {t:TypeId} {a0 a1 a2 a3:Value} (hb:KeepN N z V w) (hn:n<N∨(z≤n∧n<V.heap.size)) (h:V.heap[n]?=some (.cells #[a0,a1,a2,a3] t (0,0))):Hid (w.heap[n]?=some (.cells #[a0,a1,a2,a3] t (0,0)))∧w.cell? ⟨n,0,none⟩=some a0∧w.cell? ⟨n,1,none⟩=some a1∧w.cell? ⟨n,2,none⟩=some a2∧w.cell? ⟨n,3,none⟩=some a3∧(∀ k,w.frozen? ⟨n,k,none⟩=false)∧n<w.heap.size∧¬ n=w.heap.size:=by
  have h2:=(hb.block n hn).trans h
  obtain ⟨c0,c1,c2,c3,f,l⟩:=rw4 h2
  exact ⟨h2,c0,c1,c2,c3,f,l,by omega⟩
theorem cal_dfP {ps:List Plc} (hW:WI ps) {c:Cls} (hc:ClsW c) {d k:Int} {y:Bool} {t n ds:ByteArray} {tx:Int} {ts:ByteArray} (h3:(calI ps d k y t n ds tx ts).2≠3) (h20:(calI ps d k y t n ds tx ts).2≠20):calI (dfP ps (defN ps c)) d k y t n ds tx ts=calI ps d k y t n ds tx ts:=by
  have hW2:=hW.define c hc
  cases hd:defN ps c with
  | error e=>rfl
  | ok p =>
    rw [hd] at hW2
    obtain ⟨_,_,hn,s,l,_,_,rfl⟩:=def_ok hd
    exact Gr.cal ⟨hW,hW2,hn⟩ h3 h20
set_option maxHeartbeats 4000000 in
theorem built12_n (v:Value) (l:List Cls) (W:World) (h:IsClss W v l):Calls Tryz.prog 36 #[v] W fun e w'=>(∃ b,e=.returned (.pointer (some ⟨b,0,none⟩))∧∃ mb vp pv,HW w' W.heap.size b mb (wld l) vp pv)∧Below W.heap.size W w':=by
  have hCW:=clss_w h
  obtain ⟨ao,cap,rfl,h1,h2,h3⟩:=h
  unfold maxLen at h2
  obtain ⟨L,hL⟩:∃ L,l.length=L:=⟨_,rfl⟩
  have HL:Hid (l.length=L):=hL
  have HI:Hid _:=h3
  have HCW:Hid (∀ c∈l,ClsW c):=hCW
  rw [hL] at h1 ⊢
  clear hL h3 hCW
  have HN:Hid (∀ w:World,Calls Tryz.prog 51 #[] w fun e w'=>e=.returned (.pointer (some ⟨w.heap.size+1,0,none⟩))∧(∃ vp pv,HW w' w.heap.size (w.heap.size+1) w.heap.size P3 vp pv)∧Below w.heap.size w w'):=new_any
  go_enter Tryz.func36,Tryz.ntmps36
  go_wp2_with (first
    | (go_at_call 51;refine (HN.out _).mono ?_;rintro e w2 ⟨rfl,hw,hb⟩;have H2:Hid (∃ vp pv,HW w2 W.heap.size (W.heap.size+1) W.heap.size P3 vp pv):=hw;have B2:Hid (Below W.heap.size W w2):=hb;clear hb hw HN))
  go_loopw [4] (fun iv wr=>∃ (i:Nat),iv=.int .i64 i∧i≤L∧Hid (∃ vp pv,HW wr W.heap.size (W.heap.size+1) W.heap.size (wld (l.take i)) vp pv)∧Hid (Below W.heap.size W wr)) (fun iv _=>L - (intOf iv).toNat)
  case atStart=>exact ⟨0,rfl,Nat.zero_le _,H2,B2⟩
  case round =>
    clear H2 B2
    obtain ⟨i,rfl,hi,hHW,hB⟩:=hrel
    by_cases hlt:i<L
    · obtain ⟨c,hc⟩:∃ c,l[i]?=some c:=⟨_,List.getElem?_eq_getElem (by rw [HL.out];exact hlt)⟩
      obtain ⟨bk,o,rfl,hbk,hcl⟩:=HI.out (fun e=>by rw [e] at hc;simp at hc)
      obtain ⟨vi,vm,hcell,hin⟩:=hcl i c hc
      have bel:Below W.heap.size W wr:=hB.out
      have p0:wr.cell? ⟨bk,o+i * 6,none⟩=some (.string c.nm):=(bel.cell (p:=⟨bk,o+i * 6,none⟩) hbk).trans (hcell 0 _ rfl)
      have p1:wr.cell? ⟨bk,o+i * 6+1,none⟩=some (.string c.su):=(bel.cell (p:=⟨bk,o+i * 6+1,none⟩) hbk).trans (hcell 1 _ rfl)
      have p2:wr.cell? ⟨bk,o+i * 6+2,none⟩=some vi:=(bel.cell (p:=⟨bk,o+i * 6+2,none⟩) hbk).trans (hcell 2 _ rfl)
      have p3:wr.cell? ⟨bk,o+i * 6+3,none⟩=some (.int .i64 c.fl):=(bel.cell (p:=⟨bk,o+i * 6+3,none⟩) hbk).trans (hcell 3 _ rfl)
      have p4:wr.cell? ⟨bk,o+i * 6+4,none⟩=some (.int .i64 c.ld):=(bel.cell (p:=⟨bk,o+i * 6+4,none⟩) hbk).trans (hcell 4 _ rfl)
      have p5:wr.cell? ⟨bk,o+i * 6+5,none⟩=some vm:=(bel.cell (p:=⟨bk,o+i * 6+5,none⟩) hbk).trans (hcell 5 _ rfl)
      have hWI:WI (wld (l.take i)):=wld_wi _ (fun c hc=>HCW.out c (List.mem_of_mem_take hc))
      have HD:Hid (Calls Tryz.prog 47 #[.pointer (some ⟨W.heap.size+1,0,none⟩),.agg #[.string c.nm,.string c.su,vi,.int .i64 c.fl,.int .i64 c.ld,vm]] wr fun e w'=>(∃ u,e=.returned u)∧Hid (∃ vp pv,HW w' W.heap.size (W.heap.size+1) W.heap.size (wld (l.take (i+1))) vp pv)∧Hid (Below W.heap.size W w')):=by
        obtain ⟨vp,pv,hw⟩:=hHW.out
        refine (define_any W.heap.size (W.heap.size+1) W.heap.size _ vp pv c vi vm wr hw hB.out.size (hin.keep bel) hWI.nm).mono ?_
        rintro e w' ⟨rfl,hw',hb',_⟩
        rw [wld_at hc]
        exact ⟨⟨_,rfl⟩,hw',hB.out.trans hb'⟩
      clear hcl hcell hin hc bel hWI hHW hB HI
      go_wp2_with (go_at_call 47;refine HD.out.mono ?_;rintro e w3 ⟨⟨u3,rfl⟩,hw3,hb3⟩;clear HD)
      go_roundw
      case rel=>exact ⟨i+1,by go_num,by omega,hw3,hb3⟩
      case measure=>simp [intOf];omega
    · have e:i=L:=by omega
      subst e
      have HF:Hid (∃ mb vp pv,HW wr W.heap.size (W.heap.size+1) mb (wld l) vp pv):=by
        obtain ⟨vp,pv,hw⟩:=hHW.out
        rw [List.take_of_length_le (by rw [HL.out];exact Nat.le_refl _)] at hw
        exact ⟨_,_,_,hw⟩
      clear hHW HI
      go_wp2
      exact bodyPost_ret (results_tmp rfl _ _ _) rfl ⟨⟨_,rfl,HF.out⟩,hB.out⟩
set_option maxHeartbeats 8000000 in
theorem cgrows (v:Value) (l:List Cls) (ps ps2:List Plc) (hps:ps=wld l) (c:Cls) (ai:Option Addr) (ni ci:Nat) (am:Option Addr) (nm cm:Nat) (hps2:ps2=dfP ps (defN ps c)) (d k:Int) (y:Bool) (t n ds:ByteArray) (tx:Int) (ts:ByteArray) (W:World) (h:IsClss W v l) (hin:ClsIn W (.slice ai ni ci) (.slice am nm cm) c) (hc:t.size≤maxLen) (hn:n.size≤maxLen) (hd:ds.size≤maxLen) (hs:ts.size≤maxLen) (m1 m2 m3:Int) (he:calI ps d k y t n ds tx ts=((m1,m2),m3)):Calls Tryz.prog 11 #[v,.agg #[.string c.nm,.string c.su,.slice ai ni ci,.int .i64 c.fl,.int .i64 c.ld,.slice am nm cm],.int .i64 d,.int .i64 k,.agg #[.bool y,.string t,.string n,.string ds],.agg #[.int .i64 tx,.string ts]] W fun e w'=>e=.returned (.bool true)∧Below W.heap.size W w':=by
  have hCW:=clss_w h
  have hWI:WI ps:=by rw [hps];exact wld_wi l hCW
  have hWI2:WI ps2:=by rw [hps2];exact hWI.define c hin.ok
  have HA:Hid (∀ w:World,Calls Tryz.prog 34 #[] w fun e w'=>e=.returned (.bool true)∧Below w.heap.size w w'):=awake12_c
  have HB:Hid (∀ w:World,Below W.heap.size W w→Calls Tryz.prog 36 #[v] w fun e w'=>(∃ b,e=.returned (.pointer (some ⟨b,0,none⟩))∧WN w.heap.size w'.heap.size b ps w')∧Below w.heap.size w w'):=fun w hb=>(built12_n v l w (clss_keep h hb)).mono fun e w' zz=>by
    obtain ⟨⟨b,rfl,mb,vp,pv,hw⟩,hb2⟩:=zz
    exact ⟨⟨b,rfl,by rw [hps];exact WN.of hw hb2.size⟩,hb2⟩
  have HM:Hid (∀ b w,WAt b ps w→Calls Tryz.prog 35 #[.pointer (some ⟨b,0,none⟩),.int .i64 d,.int .i64 k,.agg #[.bool y,.string t,.string n,.string ds],.agg #[.int .i64 tx,.string ts]] w fun e w'=>e=.returned (idE (calI ps d k y t n ds tx ts))∧Below w.heap.size w w'):=fun b w hw=>cal_c hw hWI d k y t n ds tx ts hc hn hd hs
  have HM2:Hid (∀ b w,WAt b ps2 w→Calls Tryz.prog 35 #[.pointer (some ⟨b,0,none⟩),.int .i64 d,.int .i64 k,.agg #[.bool y,.string t,.string n,.string ds],.agg #[.int .i64 tx,.string ts]] w fun e w'=>e=.returned (idE (calI ps2 d k y t n ds tx ts))∧Below w.heap.size w w'):=fun b w hw=>cal_c hw hWI2 d k y t n ds tx ts hc hn hd hs
  have HD:Hid (∀ n0 z0 b w,WN n0 z0 b ps w→Below W.heap.size W w→Calls Tryz.prog 47 #[.pointer (some ⟨b,0,none⟩),.agg #[.string c.nm,.string c.su,.slice ai ni ci,.int .i64 c.fl,.int .i64 c.ld,.slice am nm cm]] w fun e w'=>(∃ u,e=.returned u)∧WAt b ps2 w'∧KeepN n0 z0 w w'):=fun n0 z0 b w hw hb=>by rw [hps2];exact define_n hw hWI c _ _ (hin.keep hb)
  have he2:m3≠3→m3≠20→calI ps2 d k y t n ds tx ts=((m1,m2),m3):=fun h3 h20=>by rw [hps2,cal_dfP hWI hin.ok (by rw [he];exact h3) (by rw [he];exact h20)];exact he
  have HI:Hid (∀ w:World,Calls Tryz.prog 24 #[.agg #[.int .i64 m1,.int .i64 m2],.agg #[.int .i64 m1,.int .i64 m2]] w fun e w'=>e=.returned (.bool true)∧Below w.heap.size w w'):=fun w=>(sameID_c (m1,m2) (m1,m2) w).mono fun e w' zz=>⟨by rw [zz.1];simp,zz.2⟩
  rw [he] at HM
  clear h hCW hWI hWI2 hps hps2 hin hc hn hd hs he
  have BB:Hid (Below W.heap.size W W):=Below.refl _ _
  have hk:m3=3∨m3=20∨(m3≠3∧m3≠20):=by omega
  rcases hk with rfl|rfl|⟨h3,h20⟩
  case' inr.inr =>
    rw [he2 h3 h20] at HM2
    have g3:(m3 == 3)=false:=by simp [h3]
    have g20:(m3 == 20)=false:=by simp [h20]
    have gE:(m3 == m3)=true:=by simp
    clear h3 h20
  all_goals
    clear he2
    simp only [idE] at HM HM2
    go_enter Tryz.func11,Tryz.ntmps11
    go_wp2_with (first
      | (go_at_call 34;refine (HA.out _).mono ?_;rintro e w1 ⟨rfl,hb⟩;have nxd:=kp6 (n:=W.heap.size) hb (by first|omega|(simp;try omega)) (hkeep (hkeep (halloc1 _ _)));(try clear nxB nx0 nx1 nx2 nx3 nx4 nx5 nxf nxL nxN);obtain ⟨nxB,nx0,nx1,nx2,nx3,nx4,nx5,nxf,nxL,nxN⟩:=nxd;have rrd:=kp4 (n:=W.heap.size+1) hb (by first|omega|(simp;try omega)) (hkeep (halloc2 _ _ (by simp)));(try clear rrB rr0 rr1 rr2 rr3 rrf rrL rrN);obtain ⟨rrB,rr0,rr1,rr2,rr3,rrf,rrL,rrN⟩:=rrd;have ttd:=kp2 (n:=W.heap.size+2) hb (by first|omega|(simp;try omega)) (halloc2 _ _ (by simp));(try clear ttB tt0 tt1 ttf ttL ttN);obtain ⟨ttB,tt0,tt1,ttf,ttL,ttN⟩:=ttd;have q1:W.heap.size+2<w1.heap.size:=ttL;have BB2:Below W.heap.size W w1:=bstep (by repeat (first|refine Below.setCell ?_ (by simp;try omega) _|refine Below.alloc ?_ (by have:=BB.out.size;simp;try omega) _|refine Below.drew ?_|exact BB.out)) hb;clear BB;have BB:Hid (Below W.heap.size W w1):=BB2;clear BB2;clear hb HA)
      | (go_at_call 36;refine (HB.out _ BB.out).mono ?_;rintro e w2 ⟨⟨b,rfl,hw⟩,hb⟩;have HH:Hid (WN w1.heap.size w2.heap.size b ps w2):=hw;have nxd:=kp6 (n:=W.heap.size) hb (by first|omega|(simp;try omega)) (nxB.out);(try clear nxB nx0 nx1 nx2 nx3 nx4 nx5 nxf nxL nxN);obtain ⟨nxB,nx0,nx1,nx2,nx3,nx4,nx5,nxf,nxL,nxN⟩:=nxd;have rrd:=kp4 (n:=W.heap.size+1) hb (by first|omega|(simp;try omega)) (rrB.out);(try clear rrB rr0 rr1 rr2 rr3 rrf rrL rrN);obtain ⟨rrB,rr0,rr1,rr2,rr3,rrf,rrL,rrN⟩:=rrd;have ttd:=kp2 (n:=W.heap.size+2) hb (by first|omega|(simp;try omega)) (ttB.out);(try clear ttB tt0 tt1 ttf ttL ttN);obtain ⟨ttB,tt0,tt1,ttf,ttL,ttN⟩:=ttd;have BB2:Below W.heap.size W w2:=bstep BB.out hb;clear BB;have BB:Hid (Below W.heap.size W w2):=BB2;clear BB2;clear hb HB hw)
      | (go_at_call 35;refine (HM.out _ _ HH.out.wat).mono ?_;rintro e w3 ⟨rfl,hb⟩;have nxd:=kp6 (n:=W.heap.size) hb (by first|omega|(simp;try omega)) (nxB.out);(try clear nxB nx0 nx1 nx2 nx3 nx4 nx5 nxf nxL nxN);obtain ⟨nxB,nx0,nx1,nx2,nx3,nx4,nx5,nxf,nxL,nxN⟩:=nxd;have rrd:=kp4 (n:=W.heap.size+1) hb (by first|omega|(simp;try omega)) (rrB.out);(try clear rrB rr0 rr1 rr2 rr3 rrf rrL rrN);obtain ⟨rrB,rr0,rr1,rr2,rr3,rrf,rrL,rrN⟩:=rrd;have ttd:=kp2 (n:=W.heap.size+2) hb (by first|omega|(simp;try omega)) (ttB.out);(try clear ttB tt0 tt1 ttf ttL ttN);obtain ⟨ttB,tt0,tt1,ttf,ttL,ttN⟩:=ttd;have q2:w2.heap.size≤w3.heap.size:=hb.size;have HH2:=HH.out.below hb;clear HH;have HH:Hid (WN w1.heap.size w2.heap.size b ps w3):=HH2;have BB2:Below W.heap.size W w3:=bstep BB.out hb;clear BB;have BB:Hid (Below W.heap.size W w3):=BB2;clear BB2;clear hb HH2 HM)
      | (go_at_call 47;refine (HD.out _ _ _ _ (HH.out.below ((Below.refl _ w3).alloc (Nat.le_refl _) _)) (BB.out.alloc BB.out.size _)).mono ?_;rintro e w4 ⟨⟨u4,rfl⟩,hw,hb⟩;have HG:Hid (WAt b ps2 w4):=hw;have rrd:=kq4 (n:=W.heap.size+1) hb (by simp;omega) (hkeep rrB.out);(try clear rrB rr0 rr1 rr2 rr3 rrf rrL rrN);obtain ⟨rrB,rr0,rr1,rr2,rr3,rrf,rrL,rrN⟩:=rrd;have ttd:=kq2 (n:=W.heap.size+2) hb (by simp;omega) (hkeep ttB.out);(try clear ttB tt0 tt1 ttf ttL ttN);obtain ⟨ttB,tt0,tt1,ttf,ttL,ttN⟩:=ttd;have mmd:=kq2 (n:=w3.heap.size) hb (by simp;omega) (halloc1 _ _);(try clear mmB mm0 mm1 mmf mmL mmN);obtain ⟨mmB,mm0,mm1,mmf,mmL,mmN⟩:=mmd;have BB2:Below W.heap.size W w4:=(BB.out.alloc BB.out.size _).trans (hb.bel.mono (by omega));clear BB;have BB:Hid (Below W.heap.size W w4):=BB2;clear BB2;clear hb hw HD HH)
      | (go_at_call 35;refine (HM2.out _ _ HG.out).mono ?_;rintro e w5 ⟨rfl,hb⟩;have mmd:=kp2 (n:=w3.heap.size) hb (by first|omega|(simp;try omega)) (mmB.out);(try clear mmB mm0 mm1 mmf mmL mmN);obtain ⟨mmB,mm0,mm1,mmf,mmL,mmN⟩:=mmd;have BB2:Below W.heap.size W w5:=bstep BB.out hb;clear BB;have BB:Hid (Below W.heap.size W w5):=BB2;clear BB2;clear hb HM2 HG)
      | (go_at_call 24;refine (HI.out _).mono ?_;rintro e w6 ⟨rfl,hb⟩;have BB2:Below W.heap.size W w6:=bstep (BB.out.alloc BB.out.size _) hb;clear BB;have BB:Hid (Below W.heap.size W w6):=BB2;clear BB2;clear hb HI))
  all_goals go_ret
  all_goals exact ⟨retB (by simp [*]),(by repeat (first|refine Below.setCell ?_ (by simp;try omega) _|refine Below.alloc ?_ (by have:=BB.out.size;simp;try omega) _|refine Below.drew ?_|exact BB.out))⟩
theorem shp_slice {v:Value} (h:Shp v):∃ a n c,v=.slice a n c:=by
  rcases h with rfl|⟨a,n,c,rfl⟩
  · exact ⟨none,0,0,rfl⟩
  · exact ⟨some a,n,c,rfl⟩
theorem ChooseGrows_any (v:Value) (l:List Cls) (c:Cls) (vi vm:Value) (d k:Int) (y:Bool) (t n ds:ByteArray) (tx:Int) (ts:ByteArray) (W:World) (h:IsClss W v l) (hin:ClsIn W vi vm c) (hc:t.size≤maxLen) (hn:n.size≤maxLen) (hd:ds.size≤maxLen) (hs:ts.size≤maxLen):Calls Tryz.prog 11 #[v,clsV c vi vm,.int .i64 d,.int .i64 k,.agg #[.bool y,.string t,.string n,.string ds],.agg #[.int .i64 tx,.string ts]] W fun e w'=>e=.returned (.bool true)∧Below W.heap.size W w':=by
  obtain ⟨ai,ni,ci,rfl⟩:=shp_slice hin.si
  obtain ⟨am,nm,cm,rfl⟩:=shp_slice hin.sm
  exact cgrows v l _ _ rfl c ai ni ci am nm cm rfl d k y t n ds tx ts W h hin hc hn hd hs _ _ _ rfl
end Go.Proofs.YtfoldbhlmmmpeaaGreat
