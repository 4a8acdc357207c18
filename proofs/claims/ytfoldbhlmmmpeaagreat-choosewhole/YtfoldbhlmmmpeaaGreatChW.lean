import Derived.Test.YtfoldbhlmmmpeaaGreatRsE
import Derived.Test.YtfoldbhlmmmpeaaGreatChE
import Derived.Test.YtfoldbhlmmmpeaaGreatRwA
import Derived.Test.YtfoldbhlmmmpeaaGreatRwB
import Derived.Deep.RegionHeld3
set_option maxRecDepth 100000
namespace Go.Proofs.YtfoldbhlmmmpeaaGreat
open Go.RowKit Go.Maps
def belB (ps:List Plc) (a:Nat) (s:ByteArray) (b:Nat) (t:ByteArray):Bool :=
  if intB (a:Int) s||intB (b:Int) t then ((a:Int) == (b:Int))&&(s.toList == t.toList)
  else if 0<b then false else if 0<a then abv3.contains t.data.toList
  else match lookL ps s.data.toList,lookL ps t.data.toList with
    | some x,some y=>extB (ps.map nd) x y
    | _,_=>false
set_option maxHeartbeats 4000000 in
theorem arrBelow_c {b:Nat} {ps:List Plc} {W:World} (h:WAt b ps W) (hi:WI ps) (da db M:Nat) (s t:ByteArray) (hs:s.size≤maxLen) (ht:t.size≤maxLen) (hab:da=0∨db=0) (hbg:da+M≤255∧db+M≤255) (hld:s.toList.isEmpty=false→∃ x,lookL ps s.data.toList=some x) (hlt:t.toList.isEmpty=false→∃ x,lookL ps t.data.toList=some x) :
    Calls Tryz.prog 120 #[.pointer (some ⟨b,0,none⟩),.agg #[.int .i64 ((da+M:Nat):Int),.string s],.agg #[.int .i64 ((db+M:Nat):Int),.string t]] W fun e w'=>e=.returned (.bool (belB ps da s db t))∧Below W.heap.size W w':=by
  have HI:Hid (∀ d u y w,intB d u=y→Calls Tryz.prog 116 #[.agg #[.int .i64 d,.string u]] w fun e w'=>e=.returned (.bool y)∧Below w.heap.size w w'):=fun d u y w hy=>by rw [← hy];exact isInt_c d u w
  have H3:Hid (∀ w:World,Calls Tryz.prog 189 #[] w fun e w'=>(∃ v,e=.returned v∧IsStrs w' v abv3)∧Below w.heap.size w w'):=above3_c
  have HCo:Hid (∀ v w,IsStrs w v abv3→Calls Tryz.prog 188 #[v,.string t] w fun e w'=>e=.returned (.bool (abv3.contains t.data.toList))∧Below w.heap.size w w'):=fun v w hv=>sContains_any v abv3 t.data.toList w hv
  have HX:Hid (∀ x y,lookL ps s.data.toList=some x→lookL ps t.data.toList=some y→∀ w,Below W.heap.size W w→Calls Tryz.prog 190 #[.pointer (some ⟨b,0,none⟩),.string s,.string t] w fun e w'=>e=.returned (.bool (extB (ps.map nd) x y))∧Below w.heap.size w w'):=fun x y hx hy w hb=>aExt_c (h.below hb) hi s t hs ht x y hx hy
  obtain ⟨R,hR⟩:∃ R,belB ps da s db t=R:=⟨_,rfl⟩
  have HR:Hid (belB ps da s db t=R):=hR
  rw [hR]
  have HLD:Hid _:=hld
  have HLT:Hid _:=hlt
  clear hR h hi hs ht hld hlt
  go_enter Tryz.func120,Tryz.ntmps120
  go_wp2
  go_loopg [] M (fun k wr=>k≤M∧Hid (wr.heap[W.heap.size]?=some (.cells #[.int .i64 ((da+k:Nat):Int),.string s] 58 (0,0)))∧Hid (wr.heap[W.heap.size+1]?=some (.cells #[.int .i64 ((db+k:Nat):Int),.string t] 58 (0,0)))∧Hid (Below W.heap.size W wr))
  case atStart=>exact ⟨Nat.le_refl _,heap_alloc2_old W _ _,heap_alloc2_new W _ _,(by repeat (first|exact Below.refl _ _|refine Below.setCell ?_ (by simp;try omega) _|refine Below.alloc ?_ (by simp;try omega) _|refine Below.drew ?_))⟩
  case round =>
    obtain ⟨hkM,hA,hB,hb⟩:=hrel
    have hsA:W.heap.size<wr.heap.size:=(Array.getElem?_eq_some_iff.1 hA.out).1
    have hsB:W.heap.size+1<wr.heap.size:=(Array.getElem?_eq_some_iff.1 hB.out).1
    have a0:=cell_of_row wr W.heap.size 0 _ _ _ hA.out
    have fa0:=frozen_of_row wr W.heap.size 0 _ _ hA.out
    have a1:=cell_of_row wr W.heap.size 1 _ _ _ hA.out
    have b0:=cell_of_row wr (W.heap.size+1) 0 _ _ _ hB.out
    have fb0:=frozen_of_row wr (W.heap.size+1) 0 _ _ hB.out
    have b1:=cell_of_row wr (W.heap.size+1) 1 _ _ _ hB.out
    simp only [List.getElem?_toArray,List.getElem?_cons_zero,List.getElem?_cons_succ] at a0 a1 b0 b1
    cases gk with
    | succ k =>
      have h1:(0:Int)<((da+(k+1):Nat):Int):=by omega
      have h2:(0:Int)<((db+(k+1):Nat):Int):=by omega
      go_wp2
      go_roundg k
      case rel =>
        have ea:((da:Int)+((k:Int)+1) - 1)=((da+k:Nat):Int):=by omega
        have eb:((db:Int)+((k:Int)+1) - 1)=((db+k:Nat):Int):=by omega
        rw [ea,eb]
        refine ⟨by omega,?_,?_,?_⟩
        · rw [Hid,heap_setCell_other _ _ _ _ (by simp),heap_setCell_same _ _ _ _ _ _ hA.out];rfl
        · rw [Hid,heap_setCell_same _ _ _ #[.int .i64 ((db+(k+1):Nat):Int),.string t] 58 _ (by rw [heap_setCell_other _ _ _ _ (by simp)];exact hB.out)];rfl
        · exact (hb.out.setCell (by simp) _).setCell (by simp) _
      case measure=>omega
    | zero =>
      simp only [Nat.add_zero] at a0 b0
      have hN:¬ ((0:Int)<(da:Int)∧(0:Int)<(db:Int)):=by omega
      clear hA hB fa0 fb0
      obtain ⟨i1,hi1⟩:∃ x,intB (da:Int) s=x:=⟨_,rfl⟩
      obtain ⟨i2,hi2⟩:∃ x,intB (db:Int) t=x:=⟨_,rfl⟩
      unfold belB at HR
      rw [hi1,hi2] at HR
      have E1:Hid _:=hi1
      have E2:Hid _:=hi2
      clear hi1 hi2
      have BB:Hid (Below W.heap.size W wr):=hb
      clear hb
      cases i1 with
      | true =>
        simp only [Bool.true_or,if_true] at HR
        clear HX HLD HLT hab hbg hkM
        generalize (da:Int)=xa at *
        generalize (db:Int)=xb at *
        go_wp2_with (first
          | (go_at_call 116;refine (HI.out _ _ _ _ (by first|exact E1.out|exact E2.out)).mono ?_;rintro e w1 ⟨rfl,hb1⟩;have BB2:Below W.heap.size W w1:=bstep BB.out hb1;replace a0:=(hb1.cell (p:=⟨W.heap.size,0,none⟩) hsA).trans a0;replace a1:=(hb1.cell (p:=⟨W.heap.size,1,none⟩) hsA).trans a1;replace b0:=(hb1.cell (p:=⟨W.heap.size+1,0,none⟩) hsB).trans b0;replace b1:=(hb1.cell (p:=⟨W.heap.size+1,1,none⟩) hsB).trans b1;replace hsA:=Nat.lt_of_lt_of_le hsA hb1.size;replace hsB:=Nat.lt_of_lt_of_le hsB hb1.size;clear BB;have BB:Hid (Below W.heap.size W w1):=BB2;clear hb1 BB2)
          | (go_at_call 189;refine (H3.out _).mono ?_;rintro e w1 ⟨⟨vv,rfl,hv⟩,hb1⟩;have HV:Hid (IsStrs w1 vv abv3):=hv;have BB2:Below W.heap.size W w1:=bstep BB.out hb1;replace b1:=(hb1.cell (p:=⟨W.heap.size+1,1,none⟩) hsB).trans b1;clear BB;have BB:Hid (Below W.heap.size W w1):=BB2;clear hb1 BB2 hv)
          | (go_at_call 188;refine (HCo.out _ _ HV.out).mono ?_;rintro e w2 ⟨rfl,hb1⟩;have BB2:Below W.heap.size W w2:=bstep BB.out hb1;clear BB;have BB:Hid (Below W.heap.size W w2):=BB2;clear hb1 BB2)
          | (go_at_call 190;refine (HX.out _ BB.out).mono ?_;rintro e w2 ⟨rfl,hb1⟩;have BB2:Below W.heap.size W w2:=bstep BB.out hb1;clear BB;have BB:Hid (Below W.heap.size W w2):=BB2;clear hb1 BB2))
        all_goals go_ret
        all_goals exact ⟨retB (by rw [← HR.out];first|(simp [*];done)|(simp [*];intro h;exfalso;omega)),BB.out⟩
      | false =>
        cases i2 with
        | true =>
          simp only [Bool.or_true,if_true] at HR
          clear HX HLD HLT hab hbg hkM
          generalize (da:Int)=xa at *
          generalize (db:Int)=xb at *
          go_wp2_with (first
            | (go_at_call 116;refine (HI.out _ _ _ _ (by first|exact E1.out|exact E2.out)).mono ?_;rintro e w1 ⟨rfl,hb1⟩;have BB2:Below W.heap.size W w1:=bstep BB.out hb1;replace a0:=(hb1.cell (p:=⟨W.heap.size,0,none⟩) hsA).trans a0;replace a1:=(hb1.cell (p:=⟨W.heap.size,1,none⟩) hsA).trans a1;replace b0:=(hb1.cell (p:=⟨W.heap.size+1,0,none⟩) hsB).trans b0;replace b1:=(hb1.cell (p:=⟨W.heap.size+1,1,none⟩) hsB).trans b1;replace hsA:=Nat.lt_of_lt_of_le hsA hb1.size;replace hsB:=Nat.lt_of_lt_of_le hsB hb1.size;clear BB;have BB:Hid (Below W.heap.size W w1):=BB2;clear hb1 BB2)
            | (go_at_call 189;refine (H3.out _).mono ?_;rintro e w1 ⟨⟨vv,rfl,hv⟩,hb1⟩;have HV:Hid (IsStrs w1 vv abv3):=hv;have BB2:Below W.heap.size W w1:=bstep BB.out hb1;replace b1:=(hb1.cell (p:=⟨W.heap.size+1,1,none⟩) hsB).trans b1;clear BB;have BB:Hid (Below W.heap.size W w1):=BB2;clear hb1 BB2 hv)
            | (go_at_call 188;refine (HCo.out _ _ HV.out).mono ?_;rintro e w2 ⟨rfl,hb1⟩;have BB2:Below W.heap.size W w2:=bstep BB.out hb1;clear BB;have BB:Hid (Below W.heap.size W w2):=BB2;clear hb1 BB2)
            | (go_at_call 190;refine (HX.out _ BB.out).mono ?_;rintro e w2 ⟨rfl,hb1⟩;have BB2:Below W.heap.size W w2:=bstep BB.out hb1;clear BB;have BB:Hid (Below W.heap.size W w2):=BB2;clear hb1 BB2))
          all_goals go_ret
          all_goals exact ⟨retB (by rw [← HR.out];first|(simp [*];done)|(simp [*];intro h;exfalso;omega)),BB.out⟩
        | false =>
          simp only [Bool.or_false,Bool.false_eq_true,if_false] at HR
          by_cases hdb:0<db
          · rw [if_pos hdb] at HR
            have hdb2:(0:Int)<(db:Int):=by omega
            clear HX HLD HLT
            go_wp2_with (first
              | (go_at_call 116;refine (HI.out _ _ _ _ (by first|exact E1.out|exact E2.out)).mono ?_;rintro e w1 ⟨rfl,hb1⟩;have BB2:Below W.heap.size W w1:=bstep BB.out hb1;replace a0:=(hb1.cell (p:=⟨W.heap.size,0,none⟩) hsA).trans a0;replace a1:=(hb1.cell (p:=⟨W.heap.size,1,none⟩) hsA).trans a1;replace b0:=(hb1.cell (p:=⟨W.heap.size+1,0,none⟩) hsB).trans b0;replace b1:=(hb1.cell (p:=⟨W.heap.size+1,1,none⟩) hsB).trans b1;replace hsA:=Nat.lt_of_lt_of_le hsA hb1.size;replace hsB:=Nat.lt_of_lt_of_le hsB hb1.size;clear BB;have BB:Hid (Below W.heap.size W w1):=BB2;clear hb1 BB2)
              | (go_at_call 189;refine (H3.out _).mono ?_;rintro e w1 ⟨⟨vv,rfl,hv⟩,hb1⟩;have HV:Hid (IsStrs w1 vv abv3):=hv;have BB2:Below W.heap.size W w1:=bstep BB.out hb1;replace b1:=(hb1.cell (p:=⟨W.heap.size+1,1,none⟩) hsB).trans b1;clear BB;have BB:Hid (Below W.heap.size W w1):=BB2;clear hb1 BB2 hv)
              | (go_at_call 188;refine (HCo.out _ _ HV.out).mono ?_;rintro e w2 ⟨rfl,hb1⟩;have BB2:Below W.heap.size W w2:=bstep BB.out hb1;clear BB;have BB:Hid (Below W.heap.size W w2):=BB2;clear hb1 BB2)
              | (go_at_call 190;refine (HX.out _ BB.out).mono ?_;rintro e w2 ⟨rfl,hb1⟩;have BB2:Below W.heap.size W w2:=bstep BB.out hb1;clear BB;have BB:Hid (Below W.heap.size W w2):=BB2;clear hb1 BB2))
            all_goals go_ret
            all_goals exact ⟨retB HR.out,BB.out⟩
          · rw [if_neg hdb] at HR
            have hdb2:¬ (0:Int)<(db:Int):=by omega
            by_cases hda:0<da
            · rw [if_pos hda] at HR
              generalize abv3.contains t.data.toList=ct at *
              have hda2:(0:Int)<(da:Int):=by omega
              clear HX HLD HLT
              go_wp2_with (first
                | (go_at_call 116;refine (HI.out _ _ _ _ (by first|exact E1.out|exact E2.out)).mono ?_;rintro e w1 ⟨rfl,hb1⟩;have BB2:Below W.heap.size W w1:=bstep BB.out hb1;replace a0:=(hb1.cell (p:=⟨W.heap.size,0,none⟩) hsA).trans a0;replace a1:=(hb1.cell (p:=⟨W.heap.size,1,none⟩) hsA).trans a1;replace b0:=(hb1.cell (p:=⟨W.heap.size+1,0,none⟩) hsB).trans b0;replace b1:=(hb1.cell (p:=⟨W.heap.size+1,1,none⟩) hsB).trans b1;replace hsA:=Nat.lt_of_lt_of_le hsA hb1.size;replace hsB:=Nat.lt_of_lt_of_le hsB hb1.size;clear BB;have BB:Hid (Below W.heap.size W w1):=BB2;clear hb1 BB2)
                | (go_at_call 189;refine (H3.out _).mono ?_;rintro e w1 ⟨⟨vv,rfl,hv⟩,hb1⟩;have HV:Hid (IsStrs w1 vv abv3):=hv;have BB2:Below W.heap.size W w1:=bstep BB.out hb1;replace b1:=(hb1.cell (p:=⟨W.heap.size+1,1,none⟩) hsB).trans b1;clear BB;have BB:Hid (Below W.heap.size W w1):=BB2;clear hb1 BB2 hv)
                | (go_at_call 188;refine (HCo.out _ _ HV.out).mono ?_;rintro e w2 ⟨rfl,hb1⟩;have BB2:Below W.heap.size W w2:=bstep BB.out hb1;clear BB;have BB:Hid (Below W.heap.size W w2):=BB2;clear hb1 BB2)
                | (go_at_call 190;refine (HX.out _ BB.out).mono ?_;rintro e w2 ⟨rfl,hb1⟩;have BB2:Below W.heap.size W w2:=bstep BB.out hb1;clear BB;have BB:Hid (Below W.heap.size W w2):=BB2;clear hb1 BB2))
              go_region_held3 (fun w'=>w'.cell? ⟨W.heap.size+1,1,none⟩=some (.string t)) (go_keep) (first
                | (go_at_call 189;refine (H3.out _).mono ?_;rintro e w3 ⟨⟨vv,rfl,hv⟩,hb1⟩;have HV:Hid (IsStrs w3 vv abv3):=hv;obtain ⟨ao,cap,rfl,_,_,_⟩:=hv;have BB2:Below W.heap.size W w3:=bstep BB.out.drew hb1;replace b1:w3.cell? ⟨W.heap.size+1,1,none⟩=some (.string t):=(hb1.cell (p:=⟨W.heap.size+1,1,none⟩) hsB).trans b1;clear BB;have BB:Hid (Below W.heap.size W w3):=BB2;clear hb1 BB2 H3)
                | (go_at_call 188;refine (HCo.out _ _ HV.out).mono ?_;rintro e w4 ⟨rfl,hb1⟩;have BB2:Below W.heap.size W w4:=bstep BB.out hb1;replace b1:w4.cell? ⟨W.heap.size+1,1,none⟩=some (.string t):=(hb1.cell (p:=⟨W.heap.size+1,1,none⟩) (World.block_lt_of_cell? _ _ b1)).trans b1;clear BB;have BB:Hid (Below W.heap.size W w4):=BB2;clear hb1 BB2 HCo))
              go_wp2
              all_goals go_ret
              all_goals exact ⟨retB HR.out,BB.out⟩
            · rw [if_neg hda] at HR
              have hda2:¬ (0:Int)<(da:Int):=by omega
              have hes:s.toList.isEmpty=false:=by
                have:=E1.out
                unfold intB at this
                rw [show (da:Int)=0 by omega] at this
                simpa using this
              have het:t.toList.isEmpty=false:=by
                have:=E2.out
                unfold intB at this
                rw [show (db:Int)=0 by omega] at this
                simpa using this
              obtain ⟨x,hx⟩:=HLD.out hes
              obtain ⟨y,hy⟩:=HLT.out het
              rw [hx,hy] at HR
              simp only at HR
              have HX:Hid _:=HX.out x y hx hy
              clear HLD HLT hes het hx hy
              go_wp2_with (first
                | (go_at_call 116;refine (HI.out _ _ _ _ (by first|exact E1.out|exact E2.out)).mono ?_;rintro e w1 ⟨rfl,hb1⟩;have BB2:Below W.heap.size W w1:=bstep BB.out hb1;replace a0:=(hb1.cell (p:=⟨W.heap.size,0,none⟩) hsA).trans a0;replace a1:=(hb1.cell (p:=⟨W.heap.size,1,none⟩) hsA).trans a1;replace b0:=(hb1.cell (p:=⟨W.heap.size+1,0,none⟩) hsB).trans b0;replace b1:=(hb1.cell (p:=⟨W.heap.size+1,1,none⟩) hsB).trans b1;replace hsA:=Nat.lt_of_lt_of_le hsA hb1.size;replace hsB:=Nat.lt_of_lt_of_le hsB hb1.size;clear BB;have BB:Hid (Below W.heap.size W w1):=BB2;clear hb1 BB2)
                | (go_at_call 189;refine (H3.out _).mono ?_;rintro e w1 ⟨⟨vv,rfl,hv⟩,hb1⟩;have HV:Hid (IsStrs w1 vv abv3):=hv;have BB2:Below W.heap.size W w1:=bstep BB.out hb1;replace b1:=(hb1.cell (p:=⟨W.heap.size+1,1,none⟩) hsB).trans b1;clear BB;have BB:Hid (Below W.heap.size W w1):=BB2;clear hb1 BB2 hv)
                | (go_at_call 188;refine (HCo.out _ _ HV.out).mono ?_;rintro e w2 ⟨rfl,hb1⟩;have BB2:Below W.heap.size W w2:=bstep BB.out hb1;clear BB;have BB:Hid (Below W.heap.size W w2):=BB2;clear hb1 BB2)
                | (go_at_call 190;refine (HX.out _ BB.out).mono ?_;rintro e w2 ⟨rfl,hb1⟩;have BB2:Below W.heap.size W w2:=bstep BB.out hb1;clear BB;have BB:Hid (Below W.heap.size W w2):=BB2;clear hb1 BB2))
              all_goals go_ret
              all_goals exact ⟨retB HR.out,BB.out⟩
def subB (ps:List Plc) (x:Int) (s:ByteArray) (y:Int) (t:ByteArray):Bool:=belB ps (x.toNat - min x.toNat y.toNat) s (y.toNat - min x.toNat y.toNat) t
def suI (ps:List Plc) (x:Int) (s:ByteArray) (y:Int) (t:ByteArray):Value :=
  if ldI ps x s=0 then (if ldI ps y t=0 then .tuple #[.bool (subB ps x s y t),.int .i64 0] else .tuple #[.bool false,.int .i64 (ldI ps y t)]) else .tuple #[.bool false,.int .i64 (ldI ps x s)]
theorem ld_facts {ps:List Plc} {x:Int} {s:ByteArray} (h:ldI ps x s=0):0≤x∧x≤255∧(s.toList.isEmpty=false→∃ k,lookL ps s.data.toList=some k):=by
  unfold ldI at h
  cases hs:sndB x s.data.toList with
  | false=>rw [hs] at h;revert h;simp
  | true =>
    rw [hs] at h
    have hs2:=hs
    unfold sndB at hs2
    simp only [Bool.and_eq_true,decide_eq_true_eq] at hs2
    refine ⟨hs2.1.1,hs2.1.2,fun he=>?_⟩
    rw [he] at h
    cases hl:lookL ps s.data.toList with
    | some k=>exact ⟨k,rfl⟩
    | none=>rw [hl] at h;revert h;simp
set_option maxHeartbeats 1000000 in
theorem sub_c {b:Nat} {ps:List Plc} {W:World} (h:WAt b ps W) (hi:WI ps) (x:Int) (s:ByteArray) (y:Int) (t:ByteArray) (hs:s.size≤maxLen) (ht:t.size≤maxLen):Calls Tryz.prog 50 #[.pointer (some ⟨b,0,none⟩),.agg #[.int .i64 x,.string s],.agg #[.int .i64 y,.string t]] W fun e w'=>e=.returned (suI ps x s y t)∧Below W.heap.size W w':=by
  have HL:Hid (∀ z u r w,Below W.heap.size W w→u.size≤maxLen→ldI ps z u=r→Calls Tryz.prog 115 #[.pointer (some ⟨b,0,none⟩),.agg #[.int .i64 z,.string u]] w fun e w'=>e=.returned (.int .i64 r)∧Below w.heap.size w w'):=fun z u r w hb hu hr=>by rw [← hr];exact loaded_c (h.below hb) z u hu
  have HL1:Hid (∀ z u w,Below W.heap.size W w→z=x→u=s→Calls Tryz.prog 115 #[.pointer (some ⟨b,0,none⟩),.agg #[.int .i64 z,.string u]] w fun e w'=>e=.returned (.int .i64 (ldI ps x s))∧Below w.heap.size w w'):=fun z u w hb hz hu=>by rw [hz,hu];exact HL.out x s _ w hb hs rfl
  have HL2:Hid (∀ z u w,Below W.heap.size W w→z=y→u=t→Calls Tryz.prog 115 #[.pointer (some ⟨b,0,none⟩),.agg #[.int .i64 z,.string u]] w fun e w'=>e=.returned (.int .i64 (ldI ps y t))∧Below w.heap.size w w'):=fun z u w hb hz hu=>by rw [hz,hu];exact HL.out y t _ w hb ht rfl
  clear HL
  have tl:∀ (w1:World) (o1 o2:Obj),Below ((W.alloc o1).alloc o2).heap.size ((W.alloc o1).alloc o2) w1→True:=fun _ _ _ _=>trivial
  clear tl
  by_cases h1:ldI ps x s=0
  · by_cases h2:ldI ps y t=0
    · have e:suI ps x s y t=.tuple #[.bool (subB ps x s y t),.int .i64 0]:=by rw [suI,if_pos h1,if_pos h2]
      rw [e]
      obtain ⟨x0,x1,xk⟩:=ld_facts h1
      obtain ⟨y0,y1,yk⟩:=ld_facts h2
      have HB:Hid (∀ w,Below W.heap.size W w→Calls Tryz.prog 120 #[.pointer (some ⟨b,0,none⟩),.agg #[.int .i64 x,.string s],.agg #[.int .i64 y,.string t]] w fun e w'=>e=.returned (.bool (subB ps x s y t))∧Below w.heap.size w w'):=fun w hb=>by
        have hq:=arrBelow_c (h.below hb) hi (x.toNat - min x.toNat y.toNat) (y.toNat - min x.toNat y.toNat) (min x.toNat y.toNat) s t hs ht (by omega) (by omega) xk yk
        rw [show ((x.toNat - min x.toNat y.toNat+min x.toNat y.toNat:Nat):Int)=x by omega,show ((y.toNat - min x.toNat y.toNat+min x.toNat y.toNat:Nat):Int)=y by omega] at hq
        exact hq
      rw [h1] at HL1
      rw [h2] at HL2
      generalize subB ps x s y t=R at *
      clear h hi hs ht h1 h2 e x0 x1 xk y0 y1 yk
      go_enter Tryz.func50,Tryz.ntmps50
      go_wp2_with (first
        | (go_at_call 115;refine (HL1.out _ _ _ (by repeat (first|exact Below.refl _ _|refine Below.setCell ?_ (by simp;try omega) _|refine Below.alloc ?_ (by simp;try omega) _|refine Below.drew ?_)) (by rfl) (by rfl)).mono ?_;rintro e w1 ⟨rfl,hb⟩;have hA:=(hb.block W.heap.size (by simp;omega)).trans (heap_alloc2_old W _ _);have hB:=(hb.block (W.heap.size+1) (by simp)).trans (heap_alloc2_new W _ _);have hsA:W.heap.size<w1.heap.size:=(Array.getElem?_eq_some_iff.1 hA).1;have hsB:W.heap.size+1<w1.heap.size:=(Array.getElem?_eq_some_iff.1 hB).1;have a0:=cell_of_row w1 W.heap.size 0 _ _ _ hA;have a1:=cell_of_row w1 W.heap.size 1 _ _ _ hA;have b0:=cell_of_row w1 (W.heap.size+1) 0 _ _ _ hB;have b1:=cell_of_row w1 (W.heap.size+1) 1 _ _ _ hB;simp only [List.getElem?_toArray,List.getElem?_cons_zero,List.getElem?_cons_succ] at a0 a1 b0 b1;have BB:Hid (Below W.heap.size W w1):=bstep (by repeat (first|exact Below.refl _ _|refine Below.setCell ?_ (by simp;try omega) _|refine Below.alloc ?_ (by simp;try omega) _|refine Below.drew ?_)) hb;clear hb HL1 hA hB)
        | (go_at_call 115;refine (HL2.out _ _ _ BB.out (by rfl) (by rfl)).mono ?_;rintro e w2 ⟨rfl,hb⟩;replace a0:=(hb.cell (p:=⟨W.heap.size,0,none⟩) hsA).trans a0;replace a1:=(hb.cell (p:=⟨W.heap.size,1,none⟩) hsA).trans a1;replace b0:=(hb.cell (p:=⟨W.heap.size+1,0,none⟩) hsB).trans b0;replace b1:=(hb.cell (p:=⟨W.heap.size+1,1,none⟩) hsB).trans b1;have BB2:Below W.heap.size W w2:=bstep BB.out hb;clear BB;have BB:Hid (Below W.heap.size W w2):=BB2;clear hb BB2 HL2)
        | (go_at_call 120;refine (HB.out _ BB.out).mono ?_;rintro e w3 ⟨rfl,hb⟩;have BB2:Below W.heap.size W w3:=bstep BB.out hb;clear BB;have BB:Hid (Below W.heap.size W w3):=BB2;clear hb BB2 HB))
      exact bodyPost_ret (results_tmp2 rfl _ _ _) rfl ⟨rfl,BB.out⟩
    · have e:suI ps x s y t=.tuple #[.bool false,.int .i64 (ldI ps y t)]:=by rw [suI,if_pos h1,if_neg h2]
      rw [e]
      rw [h1] at HL1
      generalize ldI ps y t=R at *
      clear h hi hs ht h1 e
      go_enter Tryz.func50,Tryz.ntmps50
      go_wp2_with (first
        | (go_at_call 115;refine (HL1.out _ _ _ (by repeat (first|exact Below.refl _ _|refine Below.setCell ?_ (by simp;try omega) _|refine Below.alloc ?_ (by simp;try omega) _|refine Below.drew ?_)) (by rfl) (by rfl)).mono ?_;rintro e w1 ⟨rfl,hb⟩;have hA:=(hb.block W.heap.size (by simp;omega)).trans (heap_alloc2_old W _ _);have hB:=(hb.block (W.heap.size+1) (by simp)).trans (heap_alloc2_new W _ _);have a0:=cell_of_row w1 W.heap.size 0 _ _ _ hA;have a1:=cell_of_row w1 W.heap.size 1 _ _ _ hA;have b0:=cell_of_row w1 (W.heap.size+1) 0 _ _ _ hB;have b1:=cell_of_row w1 (W.heap.size+1) 1 _ _ _ hB;simp only [List.getElem?_toArray,List.getElem?_cons_zero,List.getElem?_cons_succ] at a0 a1 b0 b1;have BB:Hid (Below W.heap.size W w1):=bstep (by repeat (first|exact Below.refl _ _|refine Below.setCell ?_ (by simp;try omega) _|refine Below.alloc ?_ (by simp;try omega) _|refine Below.drew ?_)) hb;clear hb HL1 hA hB)
        | (go_at_call 115;refine (HL2.out _ _ _ BB.out (by rfl) (by rfl)).mono ?_;rintro e w2 ⟨rfl,hb⟩;have BB2:Below W.heap.size W w2:=bstep BB.out hb;clear BB;have BB:Hid (Below W.heap.size W w2):=BB2;clear hb BB2 HL2))
      exact bodyPost_ret (results_tmp2 rfl _ _ _) rfl ⟨rfl,BB.out⟩
  · have e:suI ps x s y t=.tuple #[.bool false,.int .i64 (ldI ps x s)]:=by rw [suI,if_neg h1]
    rw [e]
    generalize ldI ps x s=R at *
    clear h hi hs ht e
    go_enter Tryz.func50,Tryz.ntmps50
    go_wp2_with (first
      | (go_at_call 115;refine (HL1.out _ _ _ (by repeat (first|exact Below.refl _ _|refine Below.setCell ?_ (by simp;try omega) _|refine Below.alloc ?_ (by simp;try omega) _|refine Below.drew ?_)) (by rfl) (by rfl)).mono ?_;rintro e w1 ⟨rfl,hb⟩;have BB:Hid (Below W.heap.size W w1):=bstep (by repeat (first|exact Below.refl _ _|refine Below.setCell ?_ (by simp;try omega) _|refine Below.alloc ?_ (by simp;try omega) _|refine Below.drew ?_)) hb;clear hb HL1))
    exact bodyPost_ret (results_tmp2 rfl _ _ _) rfl ⟨rfl,BB.out⟩
def crvI (ps:List Plc) (tx:Int) (ts:ByteArray):Int:=if (hldR ps tx ts).2=0 then (if ifcI ps (hldR ps tx ts).1 then 2 else 0) else (hldR ps tx ts).2
set_option maxHeartbeats 2000000 in
theorem crv_c {b:Nat} {ps:List Plc} {W:World} (h:WAt b ps W) (tx:Int) (ts:ByteArray) (hs:ts.size≤maxLen):Calls Tryz.prog 157 #[.pointer (some ⟨b,0,none⟩),.agg #[.int .i64 tx,.string ts]] W fun e w'=>e=.returned (.int .i64 (crvI ps tx ts))∧Below W.heap.size W w':=by
  have HH:Hid (∀ w,Below W.heap.size W w→Calls Tryz.prog 48 #[.pointer (some ⟨b,0,none⟩),.agg #[.int .i64 tx,.string ts]] w fun e w'=>e=.returned (.tuple #[.int .i64 (hldR ps tx ts).1,.int .i64 (hldR ps tx ts).2])∧Below w.heap.size w w'):=fun w hb=>hld_c (h.below hb) tx ts hs
  have HI:Hid (∀ w,Below W.heap.size W w→Calls Tryz.prog 44 #[.pointer (some ⟨b,0,none⟩),.int .i64 (hldR ps tx ts).1] w fun e w'=>e=.returned (.bool (ifcI ps (hldR ps tx ts).1))∧Below w.heap.size w w'):=fun w hb=>isIface_c (h.below hb) _
  unfold crvI
  generalize hldR ps tx ts=D at *
  obtain ⟨d1,d2⟩:=D
  simp only at HH HI ⊢
  generalize ifcI ps d1=I at *
  clear h hs
  have BB:Hid (Below W.heap.size W W):=Below.refl _ _
  by_cases h0:d2=0
  · subst h0
    rw [if_pos rfl]
    cases I
    all_goals
      go_enter Tryz.func157,Tryz.ntmps157
      go_wp2_with (first
        | (go_at_call 48;refine (HH.out _ (by repeat (first|refine Below.setCell ?_ (by simp;try omega) _|refine Below.alloc ?_ (by have:=BB.out.size;simp;try omega) _|refine Below.drew ?_|exact BB.out))).mono ?_;rintro e w1 ⟨rfl,hb⟩;have BB2:Below W.heap.size W w1:=bstep (by repeat (first|refine Below.setCell ?_ (by simp;try omega) _|refine Below.alloc ?_ (by have:=BB.out.size;simp;try omega) _|refine Below.drew ?_|exact BB.out)) hb;clear BB;have BB:Hid (Below W.heap.size W w1):=BB2;clear BB2 hb)
        | (go_at_call 44;refine (HI.out _ (by repeat (first|refine Below.setCell ?_ (by simp;try omega) _|refine Below.alloc ?_ (by have:=BB.out.size;simp;try omega) _|refine Below.drew ?_|exact BB.out))).mono ?_;rintro e w2 ⟨rfl,hb⟩;have BB2:Below W.heap.size W w2:=bstep (by repeat (first|refine Below.setCell ?_ (by simp;try omega) _|refine Below.alloc ?_ (by have:=BB.out.size;simp;try omega) _|refine Below.drew ?_|exact BB.out)) hb;clear BB;have BB:Hid (Below W.heap.size W w2):=BB2;clear BB2 hb))
    · exact bodyPost_ret (results_tmp rfl _ _ _) rfl ⟨rfl,(by repeat (first|refine Below.setCell ?_ (by simp;try omega) _|refine Below.alloc ?_ (by have:=BB.out.size;simp;try omega) _|refine Below.drew ?_|exact BB.out))⟩
    · exact bodyPost_ret (results_tmp rfl _ _ _) rfl ⟨rfl,(by repeat (first|refine Below.setCell ?_ (by simp;try omega) _|refine Below.alloc ?_ (by have:=BB.out.size;simp;try omega) _|refine Below.drew ?_|exact BB.out))⟩
  · rw [if_neg h0]
    clear HI
    go_enter Tryz.func157,Tryz.ntmps157
    go_wp2_with (first
      | (go_at_call 48;refine (HH.out _ (by repeat (first|refine Below.setCell ?_ (by simp;try omega) _|refine Below.alloc ?_ (by have:=BB.out.size;simp;try omega) _|refine Below.drew ?_|exact BB.out))).mono ?_;rintro e w1 ⟨rfl,hb⟩;have BB2:Below W.heap.size W w1:=bstep (by repeat (first|refine Below.setCell ?_ (by simp;try omega) _|refine Below.alloc ?_ (by have:=BB.out.size;simp;try omega) _|refine Below.drew ?_|exact BB.out)) hb;clear BB;have BB:Hid (Below W.heap.size W w1):=BB2;clear BB2 hb))
    exact bodyPost_ret (results_tmp rfl _ _ _) rfl ⟨rfl,(by repeat (first|refine Below.setCell ?_ (by simp;try omega) _|refine Below.alloc ?_ (by have:=BB.out.size;simp;try omega) _|refine Below.drew ?_|exact BB.out))⟩
def casI (ps:List Plc) (d k tx:Int) (ts:ByteArray):Int:=if rckI ps d=0 then (if k=1∨k=2∨k=3 then crvI ps tx ts else if k=4 then 0 else 2) else rckI ps d
set_option maxHeartbeats 2000000 in
theorem cas_c {b:Nat} {ps:List Plc} {W:World} (h:WAt b ps W) (d k tx:Int) (ts:ByteArray) (hs:ts.size≤maxLen):Calls Tryz.prog 83 #[.pointer (some ⟨b,0,none⟩),.int .i64 d,.int .i64 k,.agg #[.int .i64 tx,.string ts]] W fun e w'=>e=.returned (.int .i64 (casI ps d k tx ts))∧Below W.heap.size W w':=by
  have HC:Hid (∀ w,Below W.heap.size W w→Calls Tryz.prog 156 #[.pointer (some ⟨b,0,none⟩),.int .i64 d] w fun e w'=>e=.returned (.int .i64 (rckI ps d))∧w'=w):=fun w hb=>cck_c (h.below hb) d
  have HV:Hid (∀ w,Below W.heap.size W w→Calls Tryz.prog 157 #[.pointer (some ⟨b,0,none⟩),.agg #[.int .i64 tx,.string ts]] w fun e w'=>e=.returned (.int .i64 (crvI ps tx ts))∧Below w.heap.size w w'):=fun w hb=>crv_c (h.below hb) tx ts hs
  unfold casI
  generalize rckI ps d=R at *
  generalize crvI ps tx ts=V at *
  clear h hs
  have BB:Hid (Below W.heap.size W W):=Below.refl _ _
  by_cases h0:R=0
  · subst h0
    rw [if_pos rfl]
    by_cases h123:k=1∨k=2∨k=3
    · rw [if_pos h123]
      rcases h123 with rfl|rfl|rfl
      all_goals
        go_enter Tryz.func83,Tryz.ntmps83
        go_wp2_with (first
          | (go_at_call 156;refine (HC.out _ (by repeat (first|refine Below.setCell ?_ (by simp;try omega) _|refine Below.alloc ?_ (by have:=BB.out.size;simp;try omega) _|refine Below.drew ?_|exact BB.out))).mono ?_;rintro e w9 ⟨rfl,hw9⟩;rw [hw9];clear hw9 w9)
          | (go_at_call 157;refine (HV.out _ (by repeat (first|refine Below.setCell ?_ (by simp;try omega) _|refine Below.alloc ?_ (by have:=BB.out.size;simp;try omega) _|refine Below.drew ?_|exact BB.out))).mono ?_;rintro e w1 ⟨rfl,hb⟩;have BB2:Below W.heap.size W w1:=bstep (by repeat (first|refine Below.setCell ?_ (by simp;try omega) _|refine Below.alloc ?_ (by have:=BB.out.size;simp;try omega) _|refine Below.drew ?_|exact BB.out)) hb;clear BB;have BB:Hid (Below W.heap.size W w1):=BB2;clear BB2 hb))
      · exact bodyPost_ret (results_tmp rfl _ _ _) rfl ⟨rfl,(by repeat (first|refine Below.setCell ?_ (by simp;try omega) _|refine Below.alloc ?_ (by have:=BB.out.size;simp;try omega) _|refine Below.drew ?_|exact BB.out))⟩
      · exact bodyPost_ret (results_tmp rfl _ _ _) rfl ⟨rfl,(by repeat (first|refine Below.setCell ?_ (by simp;try omega) _|refine Below.alloc ?_ (by have:=BB.out.size;simp;try omega) _|refine Below.drew ?_|exact BB.out))⟩
      · exact bodyPost_ret (results_tmp rfl _ _ _) rfl ⟨rfl,(by repeat (first|refine Below.setCell ?_ (by simp;try omega) _|refine Below.alloc ?_ (by have:=BB.out.size;simp;try omega) _|refine Below.drew ?_|exact BB.out))⟩
    · rw [if_neg h123]
      clear HV
      have h1:¬ k=1:=fun e=>h123 (.inl e)
      have h2:¬ k=2:=fun e=>h123 (.inr (.inl e))
      have h3:¬ k=3:=fun e=>h123 (.inr (.inr e))
      clear h123
      by_cases h4:k=4
      · rw [if_pos h4]
        subst h4
        clear h1 h2 h3
        go_enter Tryz.func83,Tryz.ntmps83
        go_wp2_with (first
          | (go_at_call 156;refine (HC.out _ (by repeat (first|refine Below.setCell ?_ (by simp;try omega) _|refine Below.alloc ?_ (by have:=BB.out.size;simp;try omega) _|refine Below.drew ?_|exact BB.out))).mono ?_;rintro e w9 ⟨rfl,hw9⟩;rw [hw9];clear hw9 w9))
        exact bodyPost_ret (results_tmp rfl _ _ _) rfl ⟨rfl,(by repeat (first|refine Below.setCell ?_ (by simp;try omega) _|refine Below.alloc ?_ (by have:=BB.out.size;simp;try omega) _|refine Below.drew ?_|exact BB.out))⟩
      · rw [if_neg h4]
        go_enter Tryz.func83,Tryz.ntmps83
        go_wp2_with (first
          | (go_at_call 156;refine (HC.out _ (by repeat (first|refine Below.setCell ?_ (by simp;try omega) _|refine Below.alloc ?_ (by have:=BB.out.size;simp;try omega) _|refine Below.drew ?_|exact BB.out))).mono ?_;rintro e w9 ⟨rfl,hw9⟩;rw [hw9];clear hw9 w9))
        exact bodyPost_ret (results_tmp rfl _ _ _) rfl ⟨rfl,(by repeat (first|refine Below.setCell ?_ (by simp;try omega) _|refine Below.alloc ?_ (by have:=BB.out.size;simp;try omega) _|refine Below.drew ?_|exact BB.out))⟩
  · rw [if_neg h0]
    clear HV
    go_enter Tryz.func83,Tryz.ntmps83
    go_wp2_with (first
      | (go_at_call 156;refine (HC.out _ (by repeat (first|refine Below.setCell ?_ (by simp;try omega) _|refine Below.alloc ?_ (by have:=BB.out.size;simp;try omega) _|refine Below.drew ?_|exact BB.out))).mono ?_;rintro e w9 ⟨rfl,hw9⟩;rw [hw9];clear hw9 w9))
    exact bodyPost_ret (results_tmp rfl _ _ _) rfl ⟨rfl,(by repeat (first|refine Below.setCell ?_ (by simp;try omega) _|refine Below.alloc ?_ (by have:=BB.out.size;simp;try omega) _|refine Below.drew ?_|exact BB.out))⟩
def crfI (k:Int) (y:Bool) (c n ds:ByteArray):Int:=if rckE c.data.toList n.data.toList ds.data.toList=0 then (if k=1∧y=true∨k=2∧y=false∨k≠3∧iniB n=true then 35 else 0) else 1
set_option maxHeartbeats 8000000 in
theorem crf_c (k:Int) (y:Bool) (c n ds:ByteArray) (hc:c.size≤maxLen) (hn:n.size≤maxLen) (hd:ds.size≤maxLen) (W:World):Calls Tryz.prog 84 #[.int .i64 k,.agg #[.bool y,.string c,.string n,.string ds]] W fun e w'=>e=.returned (.int .i64 (crfI k y c n ds))∧Below W.heap.size W w':=by
  have HR:Hid (∀ w:World,Calls Tryz.prog 73 #[.agg #[.bool y,.string c,.string n,.string ds]] w fun e w'=>e=.returned (.int .i64 (rckE c.data.toList n.data.toList ds.data.toList))∧Below w.heap.size w w'):=refCheck_any y c n ds hc hn hd
  unfold crfI
  generalize rckE c.data.toList n.data.toList ds.data.toList=R at *
  clear hc hn hd
  have BB:Hid (Below W.heap.size W W):=Below.refl _ _
  by_cases h0:R=0
  · subst h0
    rw [if_pos rfl]
    obtain ⟨Q,hQ⟩:∃ Q:Int,(if k=1∧y=true∨k=2∧y=false∨k≠3∧iniB n=true then 35 else 0)=Q:=⟨_,rfl⟩
    rw [hQ]
    have HQ:Hid ((if k=1∧y=true∨k=2∧y=false∨k≠3∧iniB n=true then (35:Int) else 0)=Q):=hQ
    clear hQ
    cases hI:iniB n
    all_goals
      have hJ:=hI
      rw [iniB] at hJ
      rw [hI] at HQ
      clear hI
      cases y
    all_goals
      have hk:k=1∨k=2∨k=3∨(¬ k=1∧¬ k=2∧¬ k=3):=by omega
      rcases hk with rfl|rfl|rfl|⟨h1,h2,h3⟩
    all_goals
      have hQ:=HQ.out
      clear HQ
      simp [*] at hQ
      subst hQ
      go_enter Tryz.func84,Tryz.ntmps84
      go_wp2_with (first
        | (go_at_call 73;refine (HR.out _).mono ?_;rintro e w1 ⟨rfl,hb⟩;have rd:w1.heap[W.heap.size]?=some (.cells #[.bool true,.string c,.string n,.string ds] 53 (0,0)):=(hb.block (W.heap.size) (by first|omega|(simp;try omega))).trans (by first|exact rB.out|exact hkeep rB.out|exact halloc1 _ _|exact hkeep (halloc1 _ _)|exact hkeep (hkeep (halloc1 _ _))|exact halloc2 _ _ (by simp)|exact hkeep (halloc2 _ _ (by simp)));(try clear rB r0 r1 r2 r3 rf rL rN);have rB:Hid _:=rd;obtain ⟨r0,r1,r2,r3,rf,rL⟩:=rw4 rd;have rN:¬ W.heap.size=w1.heap.size:=(by omega);clear rd;have BB2:Below W.heap.size W w1:=bstep (by repeat (first|refine Below.setCell ?_ (by simp;try omega) _|refine Below.alloc ?_ (by have:=BB.out.size;simp;try omega) _|refine Below.drew ?_|exact BB.out)) hb;clear BB;have BB:Hid (Below W.heap.size W w1):=BB2;clear BB2 hb)
        | (go_at_call 73;refine (HR.out _).mono ?_;rintro e w1 ⟨rfl,hb⟩;have rd:w1.heap[W.heap.size]?=some (.cells #[.bool false,.string c,.string n,.string ds] 53 (0,0)):=(hb.block (W.heap.size) (by first|omega|(simp;try omega))).trans (by first|exact rB.out|exact hkeep rB.out|exact halloc1 _ _|exact hkeep (halloc1 _ _)|exact hkeep (hkeep (halloc1 _ _))|exact halloc2 _ _ (by simp)|exact hkeep (halloc2 _ _ (by simp)));(try clear rB r0 r1 r2 r3 rf rL rN);have rB:Hid _:=rd;obtain ⟨r0,r1,r2,r3,rf,rL⟩:=rw4 rd;have rN:¬ W.heap.size=w1.heap.size:=(by omega);clear rd;have BB2:Below W.heap.size W w1:=bstep (by repeat (first|refine Below.setCell ?_ (by simp;try omega) _|refine Below.alloc ?_ (by have:=BB.out.size;simp;try omega) _|refine Below.drew ?_|exact BB.out)) hb;clear BB;have BB:Hid (Below W.heap.size W w1):=BB2;clear BB2 hb))
    all_goals exact bodyPost_ret (results_tmp rfl _ _ _) rfl ⟨rfl,(by repeat (first|refine Below.setCell ?_ (by simp;try omega) _|refine Below.alloc ?_ (by have:=BB.out.size;simp;try omega) _|refine Below.drew ?_|exact BB.out))⟩
  · rw [if_neg h0]
    go_enter Tryz.func84,Tryz.ntmps84
    go_wp2_with (first
      | (go_at_call 73;refine (HR.out _).mono ?_;rintro e w1 ⟨rfl,hb⟩;have rd:w1.heap[W.heap.size]?=some (.cells #[.bool y,.string c,.string n,.string ds] 53 (0,0)):=(hb.block (W.heap.size) (by first|omega|(simp;try omega))).trans (by first|exact rB.out|exact hkeep rB.out|exact halloc1 _ _|exact hkeep (halloc1 _ _)|exact hkeep (hkeep (halloc1 _ _))|exact halloc2 _ _ (by simp)|exact hkeep (halloc2 _ _ (by simp)));(try clear rB r0 r1 r2 r3 rf rL rN);have rB:Hid _:=rd;obtain ⟨r0,r1,r2,r3,rf,rL⟩:=rw4 rd;have rN:¬ W.heap.size=w1.heap.size:=(by omega);clear rd;have BB2:Below W.heap.size W w1:=bstep (by repeat (first|refine Below.setCell ?_ (by simp;try omega) _|refine Below.alloc ?_ (by have:=BB.out.size;simp;try omega) _|refine Below.drew ?_|exact BB.out)) hb;clear BB;have BB:Hid (Below W.heap.size W w1):=BB2;clear BB2 hb))
    exact bodyPost_ret (results_tmp rfl _ _ _) rfl ⟨rfl,(by repeat (first|refine Below.setCell ?_ (by simp;try omega) _|refine Below.alloc ?_ (by have:=BB.out.size;simp;try omega) _|refine Below.drew ?_|exact BB.out))⟩
def suP (ps:List Plc) (x:Int) (s:ByteArray) (y:Int) (t:ByteArray):Bool×Int:=if ldI ps x s=0 then (if ldI ps y t=0 then (subB ps x s y t,0) else (false,ldI ps y t)) else (false,ldI ps x s)
theorem suI_eq (ps:List Plc) (x:Int) (s:ByteArray) (y:Int) (t:ByteArray):suI ps x s y t=.tuple #[.bool (suP ps x s y t).1,.int .i64 (suP ps x s y t).2]:=by
  rw [suI,suP]
  split
  · split <;> rfl
  · rfl
def cblI (ps:List Plc) (tx:Int) (ts:ByteArray) (c:ByteArray):Int:=if prfE c.data.toList=0 then (if (suP ps tx ts ((prfT c.data.toList).1:Int) (tyS c.data.toList)).2=0 then (if (suP ps tx ts ((prfT c.data.toList).1:Int) (tyS c.data.toList)).1 then 0 else 23) else (suP ps tx ts ((prfT c.data.toList).1:Int) (tyS c.data.toList)).2) else prfE c.data.toList
set_option maxHeartbeats 2000000 in
theorem cbl_c {b:Nat} {ps:List Plc} {W:World} (h:WAt b ps W) (hi:WI ps) (tx:Int) (ts:ByteArray) (y:Bool) (c n ds:ByteArray) (hs:ts.size≤maxLen) (hc:c.size≤maxLen):Calls Tryz.prog 86 #[.pointer (some ⟨b,0,none⟩),.agg #[.int .i64 tx,.string ts],.agg #[.bool y,.string c,.string n,.string ds]] W fun e w'=>e=.returned (.int .i64 (cblI ps tx ts c))∧Below W.heap.size W w':=by
  have HP:Hid (∀ w:World,Calls Tryz.prog 118 #[.string c] w fun e w'=>e=.returned (.tuple #[.agg #[.int .i64 ((prfT c.data.toList).1:Int),.string (tyS c.data.toList)],.int .i64 (prfE c.data.toList)])∧Below w.heap.size w w'):=parseRef_any c hc
  have HS:Hid (prfE c.data.toList=0→∀ w,Below W.heap.size W w→Calls Tryz.prog 50 #[.pointer (some ⟨b,0,none⟩),.agg #[.int .i64 tx,.string ts],.agg #[.int .i64 ((prfT c.data.toList).1:Int),.string (tyS c.data.toList)]] w fun e w'=>e=.returned (.tuple #[.bool (suP ps tx ts ((prfT c.data.toList).1:Int) (tyS c.data.toList)).1,.int .i64 (suP ps tx ts ((prfT c.data.toList).1:Int) (tyS c.data.toList)).2])∧Below w.heap.size w w'):=fun h0 w hb=>by
    have:=sub_c (h.below hb) hi tx ts ((prfT c.data.toList).1:Int) (tyS c.data.toList) hs (tyS_size h0)
    rw [suI_eq] at this
    exact this
  unfold cblI
  generalize suP ps tx ts ((prfT c.data.toList).1:Int) (tyS c.data.toList)=S at *
  generalize prfE c.data.toList=PE at *
  generalize ((prfT c.data.toList).1:Int)=tt1 at *
  generalize tyS c.data.toList=tt2 at *
  obtain ⟨s1,s2⟩:=S
  simp only at HS ⊢
  clear h hi hs hc
  have BB:Hid (Below W.heap.size W W):=Below.refl _ _
  by_cases h2:PE=0
  · subst h2
    rw [if_pos rfl]
    replace HS:Hid _:=HS.out rfl
    by_cases h3:s2=0
    · subst h3
      rw [if_pos rfl]
      cases s1
      all_goals
        go_enter Tryz.func86,Tryz.ntmps86
        go_wp2_with (first
          | (go_at_call 118;refine (HP.out _).mono ?_;rintro e w1 ⟨rfl,hb⟩;have td:w1.heap[W.heap.size]?=some (.cells #[.int .i64 tx,.string ts] 58 (0,0)):=(hb.block (W.heap.size) (by first|omega|(simp;try omega))).trans (by first|exact tB.out|exact hkeep tB.out|exact halloc1 _ _|exact hkeep (halloc1 _ _)|exact hkeep (hkeep (halloc1 _ _))|exact halloc2 _ _ (by simp)|exact hkeep (halloc2 _ _ (by simp)));(try clear tB t0 t1 tf tL tN);have tB:Hid _:=td;obtain ⟨t0,t1,tf,tL⟩:=rw2 td;have tN:¬ W.heap.size=w1.heap.size:=(by omega);clear td;have BB2:Below W.heap.size W w1:=bstep (by repeat (first|refine Below.setCell ?_ (by simp;try omega) _|refine Below.alloc ?_ (by have:=BB.out.size;simp;try omega) _|refine Below.drew ?_|exact BB.out)) hb;clear BB;have BB:Hid (Below W.heap.size W w1):=BB2;clear BB2 hb)
          | (go_at_call 50;refine (HS.out _ (by repeat (first|refine Below.setCell ?_ (by simp;try omega) _|refine Below.alloc ?_ (by have:=BB.out.size;simp;try omega) _|refine Below.drew ?_|exact BB.out))).mono ?_;rintro e w2 ⟨rfl,hb⟩;have BB2:Below W.heap.size W w2:=bstep (by repeat (first|refine Below.setCell ?_ (by simp;try omega) _|refine Below.alloc ?_ (by have:=BB.out.size;simp;try omega) _|refine Below.drew ?_|exact BB.out)) hb;clear BB;have BB:Hid (Below W.heap.size W w2):=BB2;clear BB2 hb))
      · exact bodyPost_ret (results_tmp rfl _ _ _) rfl ⟨rfl,(by repeat (first|refine Below.setCell ?_ (by simp;try omega) _|refine Below.alloc ?_ (by have:=BB.out.size;simp;try omega) _|refine Below.drew ?_|exact BB.out))⟩
      · exact bodyPost_ret (results_tmp rfl _ _ _) rfl ⟨rfl,(by repeat (first|refine Below.setCell ?_ (by simp;try omega) _|refine Below.alloc ?_ (by have:=BB.out.size;simp;try omega) _|refine Below.drew ?_|exact BB.out))⟩
    · rw [if_neg h3]
      go_enter Tryz.func86,Tryz.ntmps86
      go_wp2_with (first
        | (go_at_call 118;refine (HP.out _).mono ?_;rintro e w1 ⟨rfl,hb⟩;have td:w1.heap[W.heap.size]?=some (.cells #[.int .i64 tx,.string ts] 58 (0,0)):=(hb.block (W.heap.size) (by first|omega|(simp;try omega))).trans (by first|exact tB.out|exact hkeep tB.out|exact halloc1 _ _|exact hkeep (halloc1 _ _)|exact hkeep (hkeep (halloc1 _ _))|exact halloc2 _ _ (by simp)|exact hkeep (halloc2 _ _ (by simp)));(try clear tB t0 t1 tf tL tN);have tB:Hid _:=td;obtain ⟨t0,t1,tf,tL⟩:=rw2 td;have tN:¬ W.heap.size=w1.heap.size:=(by omega);clear td;have BB2:Below W.heap.size W w1:=bstep (by repeat (first|refine Below.setCell ?_ (by simp;try omega) _|refine Below.alloc ?_ (by have:=BB.out.size;simp;try omega) _|refine Below.drew ?_|exact BB.out)) hb;clear BB;have BB:Hid (Below W.heap.size W w1):=BB2;clear BB2 hb)
        | (go_at_call 50;refine (HS.out _ (by repeat (first|refine Below.setCell ?_ (by simp;try omega) _|refine Below.alloc ?_ (by have:=BB.out.size;simp;try omega) _|refine Below.drew ?_|exact BB.out))).mono ?_;rintro e w2 ⟨rfl,hb⟩;have BB2:Below W.heap.size W w2:=bstep (by repeat (first|refine Below.setCell ?_ (by simp;try omega) _|refine Below.alloc ?_ (by have:=BB.out.size;simp;try omega) _|refine Below.drew ?_|exact BB.out)) hb;clear BB;have BB:Hid (Below W.heap.size W w2):=BB2;clear BB2 hb))
      exact bodyPost_ret (results_tmp rfl _ _ _) rfl ⟨rfl,(by repeat (first|refine Below.setCell ?_ (by simp;try omega) _|refine Below.alloc ?_ (by have:=BB.out.size;simp;try omega) _|refine Below.drew ?_|exact BB.out))⟩
  · rw [if_neg h2]
    clear HS
    go_enter Tryz.func86,Tryz.ntmps86
    go_wp2_with (first
      | (go_at_call 118;refine (HP.out _).mono ?_;rintro e w1 ⟨rfl,hb⟩;have td:w1.heap[W.heap.size]?=some (.cells #[.int .i64 tx,.string ts] 58 (0,0)):=(hb.block (W.heap.size) (by first|omega|(simp;try omega))).trans (by first|exact tB.out|exact hkeep tB.out|exact halloc1 _ _|exact hkeep (halloc1 _ _)|exact hkeep (hkeep (halloc1 _ _))|exact halloc2 _ _ (by simp)|exact hkeep (halloc2 _ _ (by simp)));(try clear tB t0 t1 tf tL tN);have tB:Hid _:=td;obtain ⟨t0,t1,tf,tL⟩:=rw2 td;have tN:¬ W.heap.size=w1.heap.size:=(by omega);clear td;have BB2:Below W.heap.size W w1:=bstep (by repeat (first|refine Below.setCell ?_ (by simp;try omega) _|refine Below.alloc ?_ (by have:=BB.out.size;simp;try omega) _|refine Below.drew ?_|exact BB.out)) hb;clear BB;have BB:Hid (Below W.heap.size W w1):=BB2;clear BB2 hb))
    exact bodyPost_ret (results_tmp rfl _ _ _) rfl ⟨rfl,(by repeat (first|refine Below.setCell ?_ (by simp;try omega) _|refine Below.alloc ?_ (by have:=BB.out.size;simp;try omega) _|refine Below.drew ?_|exact BB.out))⟩
def ftsB (ps:List Plc) (k:Int) (m:Int×Int):Bool:=if k=4 then hasS ps m.1 m.2 8 else if k=2 then !hasS ps m.1 m.2 10 else !hasS ps m.1 m.2 8
set_option maxHeartbeats 2000000 in
theorem fit_c {b:Nat} {ps:List Plc} {W:World} (h:WAt b ps W) (hi:WI ps) (k c i:Int):Calls Tryz.prog 85 #[.pointer (some ⟨b,0,none⟩),.int .i64 k,.agg #[.int .i64 c,.int .i64 i]] W fun e w'=>e=.returned (.bool (ftsB ps k (c,i)))∧Below W.heap.size W w':=by
  have HS:Hid (∀ w,Below W.heap.size W w→Calls Tryz.prog 98 #[.pointer (some ⟨b,0,none⟩),.agg #[.int .i64 c,.int .i64 i],.int .i64 8] w fun e w'=>e=.returned (.bool (hasS ps c i 8))∧Below w.heap.size w w'):=fun w hb=>chS_c (h.below hb) hi.pb c i 8
  have HT:Hid (∀ w,Below W.heap.size W w→Calls Tryz.prog 98 #[.pointer (some ⟨b,0,none⟩),.agg #[.int .i64 c,.int .i64 i],.int .i64 10] w fun e w'=>e=.returned (.bool (hasS ps c i 10))∧Below w.heap.size w w'):=fun w hb=>chS_c (h.below hb) hi.pb c i 10
  unfold ftsB
  simp only
  generalize hasS ps c i 8=A at *
  generalize hasS ps c i 10=B at *
  clear h hi
  have BB:Hid (Below W.heap.size W W):=Below.refl _ _
  by_cases h4:k=4
  · rw [if_pos h4]
    subst h4
    clear HT
    go_enter Tryz.func85,Tryz.ntmps85
    go_wp2_with (first
      | (go_at_call 98;refine (HS.out _ (by repeat (first|refine Below.setCell ?_ (by simp;try omega) _|refine Below.alloc ?_ (by have:=BB.out.size;simp;try omega) _|refine Below.drew ?_|exact BB.out))).mono ?_;rintro e w1 ⟨rfl,hb⟩;have BB2:Below W.heap.size W w1:=bstep (by repeat (first|refine Below.setCell ?_ (by simp;try omega) _|refine Below.alloc ?_ (by have:=BB.out.size;simp;try omega) _|refine Below.drew ?_|exact BB.out)) hb;clear BB;have BB:Hid (Below W.heap.size W w1):=BB2;clear BB2 hb))
    exact bodyPost_ret (results_tmp rfl _ _ _) rfl ⟨rfl,(by repeat (first|refine Below.setCell ?_ (by simp;try omega) _|refine Below.alloc ?_ (by have:=BB.out.size;simp;try omega) _|refine Below.drew ?_|exact BB.out))⟩
  · rw [if_neg h4]
    by_cases h2:k=2
    · rw [if_pos h2]
      subst h2
      clear HS h4
      go_enter Tryz.func85,Tryz.ntmps85
      go_wp2_with (first
        | (go_at_call 98;refine (HT.out _ (by repeat (first|refine Below.setCell ?_ (by simp;try omega) _|refine Below.alloc ?_ (by have:=BB.out.size;simp;try omega) _|refine Below.drew ?_|exact BB.out))).mono ?_;rintro e w1 ⟨rfl,hb⟩;have BB2:Below W.heap.size W w1:=bstep (by repeat (first|refine Below.setCell ?_ (by simp;try omega) _|refine Below.alloc ?_ (by have:=BB.out.size;simp;try omega) _|refine Below.drew ?_|exact BB.out)) hb;clear BB;have BB:Hid (Below W.heap.size W w1):=BB2;clear BB2 hb))
      exact bodyPost_ret (results_tmp rfl _ _ _) rfl ⟨rfl,(by repeat (first|refine Below.setCell ?_ (by simp;try omega) _|refine Below.alloc ?_ (by have:=BB.out.size;simp;try omega) _|refine Below.drew ?_|exact BB.out))⟩
    · rw [if_neg h2]
      clear HT
      go_enter Tryz.func85,Tryz.ntmps85
      go_wp2_with (first
        | (go_at_call 98;refine (HS.out _ (by repeat (first|refine Below.setCell ?_ (by simp;try omega) _|refine Below.alloc ?_ (by have:=BB.out.size;simp;try omega) _|refine Below.drew ?_|exact BB.out))).mono ?_;rintro e w1 ⟨rfl,hb⟩;have BB2:Below W.heap.size W w1:=bstep (by repeat (first|refine Below.setCell ?_ (by simp;try omega) _|refine Below.alloc ?_ (by have:=BB.out.size;simp;try omega) _|refine Below.drew ?_|exact BB.out)) hb;clear BB;have BB:Hid (Below W.heap.size W w1):=BB2;clear BB2 hb))
      exact bodyPost_ret (results_tmp rfl _ _ _) rfl ⟨rfl,(by repeat (first|refine Below.setCell ?_ (by simp;try omega) _|refine Below.alloc ?_ (by have:=BB.out.size;simp;try omega) _|refine Below.drew ?_|exact BB.out))⟩
set_option maxHeartbeats 20000000 in
theorem cal_all (W:World) (b:Nat) (d k:Int) (y:Bool) (c n ds:ByteArray) (tx:Int) (ts:ByteArray) (ea er m1 m2 em:Int) (ft:Bool) (eb h1 eh v1 v2 v3 i1 i2 i3 s1 s2 s3:Int)
    (HA:Hid (∀ w,Below W.heap.size W w→Calls Tryz.prog 83 #[.pointer (some ⟨b,0,none⟩),.int .i64 d,.int .i64 k,.agg #[.int .i64 tx,.string ts]] w fun e w'=>e=.returned (.int .i64 ea)∧Below w.heap.size w w'))
    (HF:Hid (∀ w,Below W.heap.size W w→Calls Tryz.prog 84 #[.int .i64 k,.agg #[.bool y,.string c,.string n,.string ds]] w fun e w'=>e=.returned (.int .i64 er)∧Below w.heap.size w w'))
    (HM:Hid (∀ w,Below W.heap.size W w→Calls Tryz.prog 31 #[.pointer (some ⟨b,0,none⟩),.int .i64 d,.agg #[.bool y,.string c,.string n,.string ds]] w fun e w'=>e=.returned (.tuple #[.agg #[.int .i64 m1,.int .i64 m2],.int .i64 em])∧Below w.heap.size w w'))
    (HT:Hid (∀ w,Below W.heap.size W w→Calls Tryz.prog 85 #[.pointer (some ⟨b,0,none⟩),.int .i64 k,.agg #[.int .i64 m1,.int .i64 m2]] w fun e w'=>e=.returned (.bool ft)∧Below w.heap.size w w'))
    (HB:Hid (∀ w,Below W.heap.size W w→Calls Tryz.prog 86 #[.pointer (some ⟨b,0,none⟩),.agg #[.int .i64 tx,.string ts],.agg #[.bool y,.string c,.string n,.string ds]] w fun e w'=>e=.returned (.int .i64 eb)∧Below w.heap.size w w'))
    (HH:Hid (∀ w,Below W.heap.size W w→Calls Tryz.prog 48 #[.pointer (some ⟨b,0,none⟩),.agg #[.int .i64 tx,.string ts]] w fun e w'=>e=.returned (.tuple #[.int .i64 h1,.int .i64 eh])∧Below w.heap.size w w'))
    (HV:Hid (∀ w,Below W.heap.size W w→Calls Tryz.prog 38 #[.pointer (some ⟨b,0,none⟩),.int .i64 h1,.agg #[.int .i64 m1,.int .i64 m2]] w fun e w'=>e=.returned (.tuple #[.agg #[.int .i64 v1,.int .i64 v2],.int .i64 v3])∧Below w.heap.size w w'))
    (HI:Hid (∀ w,Below W.heap.size W w→Calls Tryz.prog 40 #[.pointer (some ⟨b,0,none⟩),.int .i64 h1,.agg #[.int .i64 m1,.int .i64 m2]] w fun e w'=>e=.returned (.tuple #[.agg #[.int .i64 i1,.int .i64 i2],.int .i64 i3])∧Below w.heap.size w w'))
    (HS:Hid (∀ w,Below W.heap.size W w→Calls Tryz.prog 42 #[.pointer (some ⟨b,0,none⟩),.int .i64 d,.agg #[.bool y,.string c,.string n,.string ds],.agg #[.int .i64 m1,.int .i64 m2]] w fun e w'=>e=.returned (.tuple #[.agg #[.int .i64 s1,.int .i64 s2],.int .i64 s3])∧Below w.heap.size w w')) (RR:(Int×Int)×Int)
    (hRR:RR=if ea=0 then (if er=0 then (if em=0 then (if ft then (if k=4 then ((m1,m2),0) else (if eb=0 then (if eh=0 then (if k=1 then ((v1,v2),v3) else if k=2 then ((i1,i2),i3) else ((s1,s2),s3)) else ((0,0),eh)) else ((0,0),eb))) else ((0,0),23)) else ((0,0),em)) else ((0,0),er)) else ((0,0),ea)):Calls Tryz.prog 35 #[.pointer (some ⟨b,0,none⟩),.int .i64 d,.int .i64 k,.agg #[.bool y,.string c,.string n,.string ds],.agg #[.int .i64 tx,.string ts]] W fun e w'=>e=.returned (idE RR)∧Below W.heap.size W w':=by
  have BB:Hid (Below W.heap.size W W):=Below.refl _ _
  by_cases e1:ea=0
  rotate_left
  · rw [if_neg e1] at hRR
    clear HF HM HT HB HH HV HI HS
    subst hRR
    go_enter Tryz.func35,Tryz.ntmps35
    go_wp2_with (first
      | (go_at_call 83;refine (HA.out _ (by repeat (first|refine Below.setCell ?_ (by simp;try omega) _|refine Below.alloc ?_ (by have:=BB.out.size;simp;try omega) _|refine Below.drew ?_|exact BB.out))).mono ?_;rintro e w1 ⟨rfl,hb⟩;have rd:=kp4 (n:=W.heap.size) hb (by first|omega|(simp;try omega)) (hkeep (hkeep (halloc1 _ _)));(try clear rB r0 r1 r2 r3 rf rL rN);obtain ⟨rB,r0,r1,r2,r3,rf,rL,rN⟩:=rd;have td:=kp2 (n:=W.heap.size+1) hb (by first|omega|(simp;try omega)) (hkeep (halloc2 _ _ (by simp)));(try clear tB t0 t1 tf tL tN);obtain ⟨tB,t0,t1,tf,tL,tN⟩:=td;have zd:=kp2 (n:=W.heap.size+2) hb (by first|omega|(simp;try omega)) (halloc2 _ _ (by simp));(try clear zB z0 z1 zf zL zN);obtain ⟨zB,z0,z1,zf,zL,zN⟩:=zd;have BB2:Below W.heap.size W w1:=bstep (by repeat (first|refine Below.setCell ?_ (by simp;try omega) _|refine Below.alloc ?_ (by have:=BB.out.size;simp;try omega) _|refine Below.drew ?_|exact BB.out)) hb;clear BB;have BB:Hid (Below W.heap.size W w1):=BB2;clear BB2 hb))
    exact bodyPost_ret (v:=idE ((0,0),ea)) (by simp [results,Tryz.results35,go_sem,idE, *]) rfl ⟨rfl,(by repeat (first|refine Below.setCell ?_ (by simp;try omega) _|refine Below.alloc ?_ (by have:=BB.out.size;simp;try omega) _|refine Below.drew ?_|exact BB.out))⟩
  rw [if_pos e1] at hRR
  subst e1
  by_cases e2:er=0
  rotate_left
  · rw [if_neg e2] at hRR
    clear HM HT HB HH HV HI HS
    subst hRR
    go_enter Tryz.func35,Tryz.ntmps35
    go_wp2_with (first
      | (go_at_call 83;refine (HA.out _ (by repeat (first|refine Below.setCell ?_ (by simp;try omega) _|refine Below.alloc ?_ (by have:=BB.out.size;simp;try omega) _|refine Below.drew ?_|exact BB.out))).mono ?_;rintro e w1 ⟨rfl,hb⟩;have rd:=kp4 (n:=W.heap.size) hb (by first|omega|(simp;try omega)) (hkeep (hkeep (halloc1 _ _)));(try clear rB r0 r1 r2 r3 rf rL rN);obtain ⟨rB,r0,r1,r2,r3,rf,rL,rN⟩:=rd;have td:=kp2 (n:=W.heap.size+1) hb (by first|omega|(simp;try omega)) (hkeep (halloc2 _ _ (by simp)));(try clear tB t0 t1 tf tL tN);obtain ⟨tB,t0,t1,tf,tL,tN⟩:=td;have zd:=kp2 (n:=W.heap.size+2) hb (by first|omega|(simp;try omega)) (halloc2 _ _ (by simp));(try clear zB z0 z1 zf zL zN);obtain ⟨zB,z0,z1,zf,zL,zN⟩:=zd;have BB2:Below W.heap.size W w1:=bstep (by repeat (first|refine Below.setCell ?_ (by simp;try omega) _|refine Below.alloc ?_ (by have:=BB.out.size;simp;try omega) _|refine Below.drew ?_|exact BB.out)) hb;clear BB;have BB:Hid (Below W.heap.size W w1):=BB2;clear BB2 hb)
      | (go_at_call 84;refine (HF.out _ (by repeat (first|refine Below.setCell ?_ (by simp;try omega) _|refine Below.alloc ?_ (by have:=BB.out.size;simp;try omega) _|refine Below.drew ?_|exact BB.out))).mono ?_;rintro e w2 ⟨rfl,hb⟩;have rd:=kp4 (n:=W.heap.size) hb (by first|omega|(simp;try omega)) (rB.out);(try clear rB r0 r1 r2 r3 rf rL rN);obtain ⟨rB,r0,r1,r2,r3,rf,rL,rN⟩:=rd;have td:=kp2 (n:=W.heap.size+1) hb (by first|omega|(simp;try omega)) (tB.out);(try clear tB t0 t1 tf tL tN);obtain ⟨tB,t0,t1,tf,tL,tN⟩:=td;have zd:=kp2 (n:=W.heap.size+2) hb (by first|omega|(simp;try omega)) (zB.out);(try clear zB z0 z1 zf zL zN);obtain ⟨zB,z0,z1,zf,zL,zN⟩:=zd;have BB2:Below W.heap.size W w2:=bstep (by repeat (first|refine Below.setCell ?_ (by simp;try omega) _|refine Below.alloc ?_ (by have:=BB.out.size;simp;try omega) _|refine Below.drew ?_|exact BB.out)) hb;clear BB;have BB:Hid (Below W.heap.size W w2):=BB2;clear BB2 hb))
    exact bodyPost_ret (v:=idE ((0,0),er)) (by simp [results,Tryz.results35,go_sem,idE, *]) rfl ⟨rfl,(by repeat (first|refine Below.setCell ?_ (by simp;try omega) _|refine Below.alloc ?_ (by have:=BB.out.size;simp;try omega) _|refine Below.drew ?_|exact BB.out))⟩
  rw [if_pos e2] at hRR
  subst e2
  have hk:em=0∧ft=true∧(k=4∨¬ k=4∧(¬ eb=0∨eb=0∧(¬ eh=0∨eh=0∧(k=1∨k=2∨(¬ k=1∧¬ k=2)))))∨em=0∧ft=false∨¬ em=0:=by
    cases ft <;> simp <;> omega
  rcases hk with ⟨rfl,rfl,rfl|⟨h4,h5|⟨rfl,h6|⟨rfl,rfl|rfl|⟨h7,h8⟩⟩⟩⟩⟩|⟨rfl,rfl⟩|h3
  all_goals
    simp [*] at hRR
    subst hRR
    go_enter Tryz.func35,Tryz.ntmps35
    go_wp2_with (first
      | (go_at_call 83;refine (HA.out _ (by repeat (first|refine Below.setCell ?_ (by simp;try omega) _|refine Below.alloc ?_ (by have:=BB.out.size;simp;try omega) _|refine Below.drew ?_|exact BB.out))).mono ?_;rintro e w1 ⟨rfl,hb⟩;have rd:=kp4 (n:=W.heap.size) hb (by first|omega|(simp;try omega)) (hkeep (hkeep (halloc1 _ _)));(try clear rB r0 r1 r2 r3 rf rL rN);obtain ⟨rB,r0,r1,r2,r3,rf,rL,rN⟩:=rd;have td:=kp2 (n:=W.heap.size+1) hb (by first|omega|(simp;try omega)) (hkeep (halloc2 _ _ (by simp)));(try clear tB t0 t1 tf tL tN);obtain ⟨tB,t0,t1,tf,tL,tN⟩:=td;have zd:=kp2 (n:=W.heap.size+2) hb (by first|omega|(simp;try omega)) (halloc2 _ _ (by simp));(try clear zB z0 z1 zf zL zN);obtain ⟨zB,z0,z1,zf,zL,zN⟩:=zd;have BB2:Below W.heap.size W w1:=bstep (by repeat (first|refine Below.setCell ?_ (by simp;try omega) _|refine Below.alloc ?_ (by have:=BB.out.size;simp;try omega) _|refine Below.drew ?_|exact BB.out)) hb;clear BB;have BB:Hid (Below W.heap.size W w1):=BB2;clear BB2 hb)
      | (go_at_call 84;refine (HF.out _ (by repeat (first|refine Below.setCell ?_ (by simp;try omega) _|refine Below.alloc ?_ (by have:=BB.out.size;simp;try omega) _|refine Below.drew ?_|exact BB.out))).mono ?_;rintro e w2 ⟨rfl,hb⟩;have rd:=kp4 (n:=W.heap.size) hb (by first|omega|(simp;try omega)) (rB.out);(try clear rB r0 r1 r2 r3 rf rL rN);obtain ⟨rB,r0,r1,r2,r3,rf,rL,rN⟩:=rd;have td:=kp2 (n:=W.heap.size+1) hb (by first|omega|(simp;try omega)) (tB.out);(try clear tB t0 t1 tf tL tN);obtain ⟨tB,t0,t1,tf,tL,tN⟩:=td;have zd:=kp2 (n:=W.heap.size+2) hb (by first|omega|(simp;try omega)) (zB.out);(try clear zB z0 z1 zf zL zN);obtain ⟨zB,z0,z1,zf,zL,zN⟩:=zd;have BB2:Below W.heap.size W w2:=bstep (by repeat (first|refine Below.setCell ?_ (by simp;try omega) _|refine Below.alloc ?_ (by have:=BB.out.size;simp;try omega) _|refine Below.drew ?_|exact BB.out)) hb;clear BB;have BB:Hid (Below W.heap.size W w2):=BB2;clear BB2 hb)
      | (go_at_call 31;refine (HM.out _ (by repeat (first|refine Below.setCell ?_ (by simp;try omega) _|refine Below.alloc ?_ (by have:=BB.out.size;simp;try omega) _|refine Below.drew ?_|exact BB.out))).mono ?_;rintro e w3 ⟨rfl,hb⟩;have rd:=kp4 (n:=W.heap.size) hb (by first|omega|(simp;try omega)) (rB.out);(try clear rB r0 r1 r2 r3 rf rL rN);obtain ⟨rB,r0,r1,r2,r3,rf,rL,rN⟩:=rd;have td:=kp2 (n:=W.heap.size+1) hb (by first|omega|(simp;try omega)) (tB.out);(try clear tB t0 t1 tf tL tN);obtain ⟨tB,t0,t1,tf,tL,tN⟩:=td;have zd:=kp2 (n:=W.heap.size+2) hb (by first|omega|(simp;try omega)) (zB.out);(try clear zB z0 z1 zf zL zN);obtain ⟨zB,z0,z1,zf,zL,zN⟩:=zd;have BB2:Below W.heap.size W w3:=bstep (by repeat (first|refine Below.setCell ?_ (by simp;try omega) _|refine Below.alloc ?_ (by have:=BB.out.size;simp;try omega) _|refine Below.drew ?_|exact BB.out)) hb;clear BB;have BB:Hid (Below W.heap.size W w3):=BB2;clear BB2 hb)
      | (go_at_call 85;refine (HT.out _ (by repeat (first|refine Below.setCell ?_ (by simp;try omega) _|refine Below.alloc ?_ (by have:=BB.out.size;simp;try omega) _|refine Below.drew ?_|exact BB.out))).mono ?_;rintro e w4 ⟨rfl,hb⟩;have rd:=kp4 (n:=W.heap.size) hb (by first|omega|(simp;try omega)) (hkeep rB.out);(try clear rB r0 r1 r2 r3 rf rL rN);obtain ⟨rB,r0,r1,r2,r3,rf,rL,rN⟩:=rd;have td:=kp2 (n:=W.heap.size+1) hb (by first|omega|(simp;try omega)) (hkeep tB.out);(try clear tB t0 t1 tf tL tN);obtain ⟨tB,t0,t1,tf,tL,tN⟩:=td;have zd:=kp2 (n:=W.heap.size+2) hb (by first|omega|(simp;try omega)) (hkeep zB.out);(try clear zB z0 z1 zf zL zN);obtain ⟨zB,z0,z1,zf,zL,zN⟩:=zd;have gd:=kp2 (n:=w3.heap.size) hb (by first|omega|(simp;try omega)) (halloc1 _ _);(try clear gB g0 g1 gf gL gN);obtain ⟨gB,g0,g1,gf,gL,gN⟩:=gd;have BB2:Below W.heap.size W w4:=bstep (by repeat (first|refine Below.setCell ?_ (by simp;try omega) _|refine Below.alloc ?_ (by have:=BB.out.size;simp;try omega) _|refine Below.drew ?_|exact BB.out)) hb;clear BB;have BB:Hid (Below W.heap.size W w4):=BB2;clear BB2 hb)
      | (go_at_call 86;refine (HB.out _ (by repeat (first|refine Below.setCell ?_ (by simp;try omega) _|refine Below.alloc ?_ (by have:=BB.out.size;simp;try omega) _|refine Below.drew ?_|exact BB.out))).mono ?_;rintro e w5 ⟨rfl,hb⟩;have rd:=kp4 (n:=W.heap.size) hb (by first|omega|(simp;try omega)) (rB.out);(try clear rB r0 r1 r2 r3 rf rL rN);obtain ⟨rB,r0,r1,r2,r3,rf,rL,rN⟩:=rd;have td:=kp2 (n:=W.heap.size+1) hb (by first|omega|(simp;try omega)) (tB.out);(try clear tB t0 t1 tf tL tN);obtain ⟨tB,t0,t1,tf,tL,tN⟩:=td;have zd:=kp2 (n:=W.heap.size+2) hb (by first|omega|(simp;try omega)) (zB.out);(try clear zB z0 z1 zf zL zN);obtain ⟨zB,z0,z1,zf,zL,zN⟩:=zd;have gd:=kp2 (n:=w3.heap.size) hb (by first|omega|(simp;try omega)) (gB.out);(try clear gB g0 g1 gf gL gN);obtain ⟨gB,g0,g1,gf,gL,gN⟩:=gd;have BB2:Below W.heap.size W w5:=bstep (by repeat (first|refine Below.setCell ?_ (by simp;try omega) _|refine Below.alloc ?_ (by have:=BB.out.size;simp;try omega) _|refine Below.drew ?_|exact BB.out)) hb;clear BB;have BB:Hid (Below W.heap.size W w5):=BB2;clear BB2 hb)
      | (go_at_call 48;refine (HH.out _ (by repeat (first|refine Below.setCell ?_ (by simp;try omega) _|refine Below.alloc ?_ (by have:=BB.out.size;simp;try omega) _|refine Below.drew ?_|exact BB.out))).mono ?_;rintro e w6 ⟨rfl,hb⟩;have rd:=kp4 (n:=W.heap.size) hb (by first|omega|(simp;try omega)) (rB.out);(try clear rB r0 r1 r2 r3 rf rL rN);obtain ⟨rB,r0,r1,r2,r3,rf,rL,rN⟩:=rd;have zd:=kp2 (n:=W.heap.size+2) hb (by first|omega|(simp;try omega)) (zB.out);(try clear zB z0 z1 zf zL zN);obtain ⟨zB,z0,z1,zf,zL,zN⟩:=zd;have gd:=kp2 (n:=w3.heap.size) hb (by first|omega|(simp;try omega)) (gB.out);(try clear gB g0 g1 gf gL gN);obtain ⟨gB,g0,g1,gf,gL,gN⟩:=gd;have BB2:Below W.heap.size W w6:=bstep (by repeat (first|refine Below.setCell ?_ (by simp;try omega) _|refine Below.alloc ?_ (by have:=BB.out.size;simp;try omega) _|refine Below.drew ?_|exact BB.out)) hb;clear BB;have BB:Hid (Below W.heap.size W w6):=BB2;clear BB2 hb)
      | (go_at_call 38;refine (HV.out _ (by repeat (first|refine Below.setCell ?_ (by simp;try omega) _|refine Below.alloc ?_ (by have:=BB.out.size;simp;try omega) _|refine Below.drew ?_|exact BB.out))).mono ?_;rintro e w7 ⟨rfl,hb⟩;have zd:=kp2 (n:=W.heap.size+2) hb (by first|omega|(simp;try omega)) (zB.out);(try clear zB z0 z1 zf zL zN);obtain ⟨zB,z0,z1,zf,zL,zN⟩:=zd;have BB2:Below W.heap.size W w7:=bstep (by repeat (first|refine Below.setCell ?_ (by simp;try omega) _|refine Below.alloc ?_ (by have:=BB.out.size;simp;try omega) _|refine Below.drew ?_|exact BB.out)) hb;clear BB;have BB:Hid (Below W.heap.size W w7):=BB2;clear BB2 hb)
      | (go_at_call 40;refine (HI.out _ (by repeat (first|refine Below.setCell ?_ (by simp;try omega) _|refine Below.alloc ?_ (by have:=BB.out.size;simp;try omega) _|refine Below.drew ?_|exact BB.out))).mono ?_;rintro e w7 ⟨rfl,hb⟩;have zd:=kp2 (n:=W.heap.size+2) hb (by first|omega|(simp;try omega)) (zB.out);(try clear zB z0 z1 zf zL zN);obtain ⟨zB,z0,z1,zf,zL,zN⟩:=zd;have BB2:Below W.heap.size W w7:=bstep (by repeat (first|refine Below.setCell ?_ (by simp;try omega) _|refine Below.alloc ?_ (by have:=BB.out.size;simp;try omega) _|refine Below.drew ?_|exact BB.out)) hb;clear BB;have BB:Hid (Below W.heap.size W w7):=BB2;clear BB2 hb)
      | (go_at_call 42;refine (HS.out _ (by repeat (first|refine Below.setCell ?_ (by simp;try omega) _|refine Below.alloc ?_ (by have:=BB.out.size;simp;try omega) _|refine Below.drew ?_|exact BB.out))).mono ?_;rintro e w7 ⟨rfl,hb⟩;have zd:=kp2 (n:=W.heap.size+2) hb (by first|omega|(simp;try omega)) (zB.out);(try clear zB z0 z1 zf zL zN);obtain ⟨zB,z0,z1,zf,zL,zN⟩:=zd;have BB2:Below W.heap.size W w7:=bstep (by repeat (first|refine Below.setCell ?_ (by simp;try omega) _|refine Below.alloc ?_ (by have:=BB.out.size;simp;try omega) _|refine Below.drew ?_|exact BB.out)) hb;clear BB;have BB:Hid (Below W.heap.size W w7):=BB2;clear BB2 hb))
  · exact bodyPost_ret (v:=idE ((m1,m2),0)) (by simp [results,Tryz.results35,go_sem,idE, *]) rfl ⟨rfl,(by repeat (first|refine Below.setCell ?_ (by simp;try omega) _|refine Below.alloc ?_ (by have:=BB.out.size;simp;try omega) _|refine Below.drew ?_|exact BB.out))⟩
  · exact bodyPost_ret (v:=idE ((0,0),eb)) (by simp [results,Tryz.results35,go_sem,idE, *]) rfl ⟨rfl,(by repeat (first|refine Below.setCell ?_ (by simp;try omega) _|refine Below.alloc ?_ (by have:=BB.out.size;simp;try omega) _|refine Below.drew ?_|exact BB.out))⟩
  · exact bodyPost_ret (v:=idE ((0,0),eh)) (by simp [results,Tryz.results35,go_sem,idE, *]) rfl ⟨rfl,(by repeat (first|refine Below.setCell ?_ (by simp;try omega) _|refine Below.alloc ?_ (by have:=BB.out.size;simp;try omega) _|refine Below.drew ?_|exact BB.out))⟩
  · exact bodyPost_ret (v:=idE ((v1,v2),v3)) (by simp [results,Tryz.results35,go_sem,idE, *]) rfl ⟨rfl,(by repeat (first|refine Below.setCell ?_ (by simp;try omega) _|refine Below.alloc ?_ (by have:=BB.out.size;simp;try omega) _|refine Below.drew ?_|exact BB.out))⟩
  · exact bodyPost_ret (v:=idE ((i1,i2),i3)) (by simp [results,Tryz.results35,go_sem,idE, *]) rfl ⟨rfl,(by repeat (first|refine Below.setCell ?_ (by simp;try omega) _|refine Below.alloc ?_ (by have:=BB.out.size;simp;try omega) _|refine Below.drew ?_|exact BB.out))⟩
  · exact bodyPost_ret (v:=idE ((s1,s2),s3)) (by simp [results,Tryz.results35,go_sem,idE, *]) rfl ⟨rfl,(by repeat (first|refine Below.setCell ?_ (by simp;try omega) _|refine Below.alloc ?_ (by have:=BB.out.size;simp;try omega) _|refine Below.drew ?_|exact BB.out))⟩
  · exact bodyPost_ret (v:=idE ((0,0),23)) (by simp [results,Tryz.results35,go_sem,idE, *]) rfl ⟨rfl,(by repeat (first|refine Below.setCell ?_ (by simp;try omega) _|refine Below.alloc ?_ (by have:=BB.out.size;simp;try omega) _|refine Below.drew ?_|exact BB.out))⟩
  · exact bodyPost_ret (v:=idE ((0,0),em)) (by simp [results,Tryz.results35,go_sem,idE, *]) rfl ⟨rfl,(by repeat (first|refine Below.setCell ?_ (by simp;try omega) _|refine Below.alloc ?_ (by have:=BB.out.size;simp;try omega) _|refine Below.drew ?_|exact BB.out))⟩
def calI (ps:List Plc) (d k:Int) (y:Bool) (c n ds:ByteArray) (tx:Int) (ts:ByteArray):(Int×Int)×Int :=
  if casI ps d k tx ts=0 then (if crfI k y c n ds=0 then (if (metR ps d y c n ds).2=0 then (if ftsB ps k (metR ps d y c n ds).1 then (if k=4 then ((metR ps d y c n ds).1,0) else (if cblI ps tx ts c=0 then (if (hldR ps tx ts).2=0 then (if k=1 then virI ps (hldR ps tx ts).1 (metR ps d y c n ds).1 else if k=2 then itfI ps (hldR ps tx ts).1 (metR ps d y c n ds).1 else spcI ps d y c n ds (metR ps d y c n ds).1) else ((0,0),(hldR ps tx ts).2)) else ((0,0),cblI ps tx ts c))) else ((0,0),23)) else ((0,0),(metR ps d y c n ds).2)) else ((0,0),crfI k y c n ds)) else ((0,0),casI ps d k tx ts)
theorem cal_c {b:Nat} {ps:List Plc} {W:World} (h:WAt b ps W) (hi:WI ps) (d k:Int) (y:Bool) (c n ds:ByteArray) (tx:Int) (ts:ByteArray) (hc:c.size≤maxLen) (hn:n.size≤maxLen) (hd:ds.size≤maxLen) (hs:ts.size≤maxLen):Calls Tryz.prog 35 #[.pointer (some ⟨b,0,none⟩),.int .i64 d,.int .i64 k,.agg #[.bool y,.string c,.string n,.string ds],.agg #[.int .i64 tx,.string ts]] W fun e w'=>e=.returned (idE (calI ps d k y c n ds tx ts))∧Below W.heap.size W w':=by
  exact cal_all W b d k y c n ds tx ts _ _ _ _ _ _ _ _ _ _ _ _ _ _ _ _ _ _ (fun w hb=>cas_c (h.below hb) d k tx ts hs) (fun w _=>crf_c k y c n ds hc hn hd w) (fun w hb=>met_c (h.below hb) hi d y c n ds hc hn hd) (fun w hb=>fit_c (h.below hb) hi k _ _) (fun w hb=>cbl_c (h.below hb) hi tx ts y c n ds hs hc) (fun w hb=>hld_c (h.below hb) tx ts hs) (fun w hb=>vir_c (h.below hb) hi _ _ _) (fun w hb=>itf_c (h.below hb) hi _ _ _) (fun w hb=>spc_c (h.below hb) hi d y c n ds _ _ hc hn hd) _ rfl
variable {ps:List Plc} {p:Plc}
theorem has10c (f:Int):hasI f 10=(hasI f 2||hasI f 8):=by
  have e10:bits .and .i64 f 10=IntKind.wrap .i64 (((BitVec.ofInt 64 f).toNat &&& 10:Nat):Int):=rfl
  have e2:bits .and .i64 f 2=IntKind.wrap .i64 (((BitVec.ofInt 64 f).toNat &&& 2:Nat):Int):=rfl
  have e8:bits .and .i64 f 8=IntKind.wrap .i64 (((BitVec.ofInt 64 f).toNat &&& 8:Nat):Int):=rfl
  have h:(BitVec.ofInt 64 f).toNat &&& 10=((BitVec.ofInt 64 f).toNat &&& 2) ||| ((BitVec.ofInt 64 f).toNat &&& 8):=by
    rw [← Nat.and_or_distrib_left];rfl
  unfold hasI
  rw [e10,e2,e8,h]
  have h2:(BitVec.ofInt 64 f).toNat &&& 2≤2:=Nat.and_le_right
  have h2':((BitVec.ofInt 64 f).toNat &&& 2) &&& 2=(BitVec.ofInt 64 f).toNat &&& 2:=by rw [Nat.and_assoc,Nat.and_self]
  have h8:(BitVec.ofInt 64 f).toNat &&& 8≤8:=Nat.and_le_right
  have h8':((BitVec.ofInt 64 f).toNat &&& 8) &&& 8=(BitVec.ofInt 64 f).toNat &&& 8:=by rw [Nat.and_assoc,Nat.and_self]
  generalize (BitVec.ofInt 64 f).toNat &&& 2=a at *
  generalize (BitVec.ofInt 64 f).toNat &&& 8=b at *
  have ha:a=0∨a=2:=by
    have:a=0∨a=1∨a=2:=by omega
    rcases this with rfl|rfl|rfl
    · exact .inl rfl
    · exact absurd h2' (by decide)
    · exact .inr rfl
  have hb:b=0∨b=8:=by
    have:b=0∨b=1∨b=2∨b=3∨b=4∨b=5∨b=6∨b=7∨b=8:=by omega
    rcases this with rfl|rfl|rfl|rfl|rfl|rfl|rfl|rfl|rfl
    · exact .inl rfl
    all_goals first|exact .inr rfl|exact absurd h8' (by decide)
  rcases ha with rfl|rfl <;> rcases hb with rfl|rfl <;> decide
theorem met_cal0 {ps:List Plc} {d k:Int} {y:Bool} {c n ds:ByteArray} {tx:Int} {ts:ByteArray} (hf:(metR ps d y c n ds).2≠0):(calI ps d k y c n ds tx ts).2≠0∧(calI ps d k y c n ds tx ts).1=(0,0):=by
  unfold calI
  by_cases e1:casI ps d k tx ts=0
  · rw [if_pos e1]
    by_cases e2:crfI k y c n ds=0
    · rw [if_pos e2,if_neg hf];exact ⟨hf,rfl⟩
    · rw [if_neg e2];exact ⟨e2,rfl⟩
  · rw [if_neg e1];exact ⟨e1,rfl⟩
theorem crf_35 {k:Int} {y:Bool} {c n ds:ByteArray} (h:rckE c.data.toList n.data.toList ds.data.toList=0):crfI k y c n ds=0∨crfI k y c n ds=35:=by
  rw [crfI,if_pos h]
  split
  · exact .inr rfl
  · exact .inl rfl
structure WhF (k e:Int) (cc nn:Int×Int) (g:Int) (ifc st pv bl:Bool) (v i s:(Int×Int)×Int):Prop where
  s4:k=4→st=true→(e=0∧cc=nn)∨e=35
  n4:k=4→st=false→e=23∨e=35
  lo:k<1∨4<k→e≠0
  gg:¬ k=4→g≠0→e≠0
  ii:¬ k=4→ifc=true→g=0→e≠0
  no:1≤k→k<4→g=0→ifc=false→e≠35→(st=true∨bl=false∨(k=2∧pv=true))→e=23
  ok:1≤k→k<4→g=0→ifc=false→e≠35→st=false→bl=true→(k=2→pv=false)→(cc,e)=if k=1 then v else if k=2 then i else s
theorem whole_facts {ps:List Plc} {d k:Int} {y:Bool} {c n ds:ByteArray} {tx:Int} {ts:ByteArray} {x:HM} (hf:(metR ps d y c n ds).2=0) (hx:methI ps (metR ps d y c n ds).1.1 (metR ps d y c n ds).1.2=some x) :
    (clsR ps d c.data.toList).2=0∧((hldR ps tx ts).2=0→(suP ps tx ts (clsR ps d c.data.toList).1.1 (clsR ps d c.data.toList).1.2).2=0) ∧
    WhF k (calI ps d k y c n ds tx ts).2 (calI ps d k y c n ds tx ts).1 (metR ps d y c n ds).1 (hldR ps tx ts).2 (ifcI ps (hldR ps tx ts).1) (hasI x.fl 8) (hasI x.fl 2) (suP ps tx ts (clsR ps d c.data.toList).1.1 (clsR ps d c.data.toList).1.2).1 (virI ps (hldR ps tx ts).1 (metR ps d y c n ds).1) (itfI ps (hldR ps tx ts).1 (metR ps d y c n ds).1) (spcI ps d y c n ds (metR ps d y c n ds).1):=by
  have mf:=met_facts (m:=(metR ps d y c n ds).1) (Prod.ext rfl hf)
  have hck:=mf.ck
  have hcl:=mf.cl
  have hrf:=crf_35 (k:=k) (y:=y) mf.rc
  have hst:∀ f,hasS ps (metR ps d y c n ds).1.1 (metR ps d y c n ds).1.2 f=hasI x.fl f:=fun f=>by rw [hasS,hx]
  have hld:∀ {u:Int} {s:ByteArray},(hldR ps u s).2=0→ldI ps u s=0:=fun {u s} h=>by
    rw [hldR] at h
    split at h
    · assumption
    · exact h
  have hpr:prfE c.data.toList=0∧(clsR ps d c.data.toList).1=(((prfT c.data.toList).1:Int),tyS c.data.toList):=by
    have h:=hcl
    rw [clsR,if_pos hck] at h ⊢
    split at h
    · rename_i h1
      rw [if_pos h1]
      split at h
      · rename_i h2;rw [if_pos h2];exact ⟨h1,rfl⟩
      · rename_i h2;exact absurd h h2
    · exact absurd h (by decide)
  have hsu:(hldR ps tx ts).2=0→(suP ps tx ts (clsR ps d c.data.toList).1.1 (clsR ps d c.data.toList).1.2).2=0:=fun h=>by
    rw [suP,if_pos (hld h),if_pos (hld mf.hl)]
  refine ⟨hcl,hsu,?_⟩
  have hcb:(hldR ps tx ts).2=0→cblI ps tx ts c=if (suP ps tx ts (clsR ps d c.data.toList).1.1 (clsR ps d c.data.toList).1.2).1 then 0 else 23:=fun h=>by
    have h2:=hsu h
    rw [hpr.2] at h2 ⊢
    rw [cblI,if_pos hpr.1,if_pos h2]
  generalize suP ps tx ts (clsR ps d c.data.toList).1.1 (clsR ps d c.data.toList).1.2=S at *
  have hcas:casI ps d k tx ts=if k=1∨k=2∨k=3 then crvI ps tx ts else if k=4 then 0 else 2:=by rw [casI,if_pos hck]
  have hcrv:crvI ps tx ts=if (hldR ps tx ts).2=0 then (if ifcI ps (hldR ps tx ts).1 then 2 else 0) else (hldR ps tx ts).2:=rfl
  have hft:ftsB ps k (metR ps d y c n ds).1=if k=4 then hasI x.fl 8 else if k=2 then !hasI x.fl 10 else !hasI x.fl 8:=by rw [ftsB,hst,hst]
  have hca:calI ps d k y c n ds tx ts=if casI ps d k tx ts=0 then (if crfI k y c n ds=0 then (if ftsB ps k (metR ps d y c n ds).1 then (if k=4 then ((metR ps d y c n ds).1,0) else (if cblI ps tx ts c=0 then (if (hldR ps tx ts).2=0 then (if k=1 then virI ps (hldR ps tx ts).1 (metR ps d y c n ds).1 else if k=2 then itfI ps (hldR ps tx ts).1 (metR ps d y c n ds).1 else spcI ps d y c n ds (metR ps d y c n ds).1) else ((0,0),(hldR ps tx ts).2)) else ((0,0),cblI ps tx ts c))) else ((0,0),23)) else ((0,0),crfI k y c n ds)) else ((0,0),casI ps d k tx ts):=by rw [calI,if_pos hf]
  rw [hca,hft,hcas,hcrv,has10c]
  clear hca hft hcas hcrv hsu hpr hst hld mf hck hx hf
  generalize virI ps (hldR ps tx ts).1 (metR ps d y c n ds).1=V
  generalize itfI ps (hldR ps tx ts).1 (metR ps d y c n ds).1=I
  generalize spcI ps d y c n ds (metR ps d y c n ds).1=P
  generalize (metR ps d y c n ds).1=nn
  generalize ifcI ps (hldR ps tx ts).1=F at *
  generalize (hldR ps tx ts).2=g at *
  generalize hasI x.fl 8=st
  generalize hasI x.fl 2=pv
  generalize crfI k y c n ds=rf at *
  generalize cblI ps tx ts c=cb at *
  obtain ⟨bl,b2⟩:=S
  simp only at hcb ⊢
  refine ⟨?_,?_,?_,?_,?_,?_,?_⟩
  · rintro rfl rfl
    rcases hrf with rfl|rfl <;> simp
  · rintro rfl rfl
    rcases hrf with rfl|rfl <;> simp
  · intro hk
    have h1:¬ (k=1∨k=2∨k=3):=by omega
    have h4:¬ k=4:=by omega
    simp [h1,h4]
  · intro h4 hg
    by_cases h1:k=1∨k=2∨k=3
    · simp [h1,hg]
    · simp [h1,h4]
  · intro h4 hF hg
    by_cases h1:k=1∨k=2∨k=3
    · simp [h1,hg,hF]
    · simp [h1,h4]
  · intro k1 k4 hg hF he hno
    have h1:k=1∨k=2∨k=3:=by omega
    have h4:¬ k=4:=by omega
    have hcb2:=hcb hg
    clear hcb
    subst hg hF hcb2
    have hrf0:rf=0:=by
      rcases hrf with h|h
      · exact h
      · subst h;simp [h1] at he
    subst hrf0
    rcases h1 with rfl|rfl|rfl <;> cases st <;> cases bl <;> cases pv <;> simp at hno ⊢
  · intro k1 k4 hg hF he hst hbl hpv
    have h1:k=1∨k=2∨k=3:=by omega
    have hcb2:=hcb hg
    clear hcb
    subst hg hF hst hbl hcb2
    have hrf0:rf=0:=by
      rcases hrf with h|h
      · exact h
      · subst h;simp [h1] at he
    subst hrf0
    rcases h1 with rfl|rfl|rfl
    · simp
    · simp [hpv rfl]
    · simp
theorem clss_keep {w w':World} {v:Value} {l:List Cls} (h:IsClss w v l) (hb:Below w.heap.size w w'):IsClss w' v l:=by
  obtain ⟨ao,cap,rfl,h1,h2,h3⟩:=h
  refine ⟨ao,cap,rfl,h1,h2,fun hne=>?_⟩
  obtain ⟨bk,o,e,hlt,hc⟩:=h3 hne
  refine ⟨bk,o,e,Nat.lt_of_lt_of_le hlt hb.size,fun k c hk=>?_⟩
  obtain ⟨vi,vm,h4,h5⟩:=hc k c hk
  exact ⟨vi,vm,fun j u hj=>(hb.cell hlt).trans (h4 j u hj),h5.keep hb⟩
set_option maxHeartbeats 4000000 in
theorem built12_c (v:Value) (l:List Cls) (W:World) (h:IsClss W v l):Calls Tryz.prog 36 #[v] W fun e w'=>(∃ b,e=.returned (.pointer (some ⟨b,0,none⟩))∧WAt b (wld l) w')∧Below W.heap.size W w':=by
  have hCW:=clss_w h
  obtain ⟨ao,cap,rfl,h1,h2,h3⟩:=h
  unfold maxLen at h2
  obtain ⟨L,hL⟩:∃ L,l.length=L:=⟨_,rfl⟩
  have HL:Hid (l.length=L):=hL
  have HI:Hid _:=h3
  have HCW:Hid (∀ c∈l,ClsW c):=hCW
  rw [hL] at h1 ⊢
  clear hL h3 hCW
  have HN:Hid (∀ w:World,Calls Tryz.prog 51 #[] w fun e w'=>e=.returned (.pointer (some ⟨w.heap.size+1,0,none⟩))∧(∃ vp pv,HW w' w.heap.size (w.heap.size+1) w.heap.size P3 vp pv)∧Below w.heap.size w w'):=new_any
  go_enter Tryz.func36,Tryz.ntmps36
  go_wp2_with (first
    | (go_at_call 51;refine (HN.out _).mono ?_;rintro e w2 ⟨rfl,hw,hb⟩;have H2:Hid (∃ vp pv,HW w2 W.heap.size (W.heap.size+1) W.heap.size P3 vp pv):=hw;have B2:Hid (Below W.heap.size W w2):=hb;clear hb hw HN))
  go_loopw [4] (fun iv wr=>∃ (i:Nat),iv=.int .i64 i∧i≤L∧Hid (∃ vp pv,HW wr W.heap.size (W.heap.size+1) W.heap.size (wld (l.take i)) vp pv)∧Hid (Below W.heap.size W wr)) (fun iv _=>L - (intOf iv).toNat)
  case atStart=>exact ⟨0,rfl,Nat.zero_le _,H2,B2⟩
  case round =>
    clear H2 B2
    obtain ⟨i,rfl,hi,hHW,hB⟩:=hrel
    by_cases hlt:i<L
    · obtain ⟨c,hc⟩:∃ c,l[i]?=some c:=⟨_,List.getElem?_eq_getElem (by rw [HL.out];exact hlt)⟩
      obtain ⟨bk,o,rfl,hbk,hcl⟩:=HI.out (fun e=>by rw [e] at hc;simp at hc)
      obtain ⟨vi,vm,hcell,hin⟩:=hcl i c hc
      have bel:Below W.heap.size W wr:=hB.out
      have p0:wr.cell? ⟨bk,o+i * 6,none⟩=some (.string c.nm):=(bel.cell (p:=⟨bk,o+i * 6,none⟩) hbk).trans (hcell 0 _ rfl)
      have p1:wr.cell? ⟨bk,o+i * 6+1,none⟩=some (.string c.su):=(bel.cell (p:=⟨bk,o+i * 6+1,none⟩) hbk).trans (hcell 1 _ rfl)
      have p2:wr.cell? ⟨bk,o+i * 6+2,none⟩=some vi:=(bel.cell (p:=⟨bk,o+i * 6+2,none⟩) hbk).trans (hcell 2 _ rfl)
      have p3:wr.cell? ⟨bk,o+i * 6+3,none⟩=some (.int .i64 c.fl):=(bel.cell (p:=⟨bk,o+i * 6+3,none⟩) hbk).trans (hcell 3 _ rfl)
      have p4:wr.cell? ⟨bk,o+i * 6+4,none⟩=some (.int .i64 c.ld):=(bel.cell (p:=⟨bk,o+i * 6+4,none⟩) hbk).trans (hcell 4 _ rfl)
      have p5:wr.cell? ⟨bk,o+i * 6+5,none⟩=some vm:=(bel.cell (p:=⟨bk,o+i * 6+5,none⟩) hbk).trans (hcell 5 _ rfl)
      have hWI:WI (wld (l.take i)):=wld_wi _ (fun c hc=>HCW.out c (List.mem_of_mem_take hc))
      have HD:Hid (Calls Tryz.prog 47 #[.pointer (some ⟨W.heap.size+1,0,none⟩),.agg #[.string c.nm,.string c.su,vi,.int .i64 c.fl,.int .i64 c.ld,vm]] wr fun e w'=>(∃ u,e=.returned u)∧Hid (∃ vp pv,HW w' W.heap.size (W.heap.size+1) W.heap.size (wld (l.take (i+1))) vp pv)∧Hid (Below W.heap.size W w')):=by
        obtain ⟨vp,pv,hw⟩:=hHW.out
        refine (define_any W.heap.size (W.heap.size+1) W.heap.size _ vp pv c vi vm wr hw hB.out.size (hin.keep bel) hWI.nm).mono ?_
        rintro e w' ⟨rfl,hw',hb',_⟩
        rw [wld_at hc]
        exact ⟨⟨_,rfl⟩,hw',hB.out.trans hb'⟩
      clear hcl hcell hin hc bel hWI hHW hB HI
      go_wp2_with (go_at_call 47;refine HD.out.mono ?_;rintro e w3 ⟨⟨u3,rfl⟩,hw3,hb3⟩;clear HD)
      go_roundw
      case rel=>exact ⟨i+1,by go_num,by omega,hw3,hb3⟩
      case measure=>simp [intOf];omega
    · have e:i=L:=by omega
      subst e
      have HF:Hid (WAt (W.heap.size+1) (wld l) wr):=by
        obtain ⟨vp,pv,hw⟩:=hHW.out
        rw [List.take_of_length_le (by rw [HL.out];exact Nat.le_refl _)] at hw
        exact hw.wat
      clear hHW HI
      go_wp2
      exact bodyPost_ret (results_tmp rfl _ _ _) rfl ⟨⟨_,rfl,HF.out⟩,hB.out⟩
theorem vir3:virI P3 0 (0,1)=((0,1),0):=by kernel_rfl
theorem awake12_c (W:World):Calls Tryz.prog 34 #[] W fun e w'=>e=.returned (.bool true)∧Below W.heap.size W w':=by
  have HN:Hid (∀ w:World,Calls Tryz.prog 51 #[] w fun e w'=>∃ b,e=.returned (.pointer (some ⟨b,0,none⟩))∧WAt b P3 w'∧Below w.heap.size w w'):=fun w=>(new_any w).mono fun e w' zz=>⟨_,zz.1,by obtain ⟨vp,pv,hw⟩:=zz.2.1;exact hw.wat,zz.2.2⟩
  have HM:Hid (∀ (w:World) (b:Nat),WAt b P3 w→Calls Tryz.prog 38 #[.pointer (some ⟨b,0,none⟩),.int .i64 0,.agg #[.int .i64 0,.int .i64 1]] w fun e w'=>e=.returned (.tuple #[.agg #[.int .i64 0,.int .i64 1],.int .i64 0])∧Below w.heap.size w w'):=fun w b h=>(vir_c h wi3 0 0 1).mono fun e w' zz=>⟨by rw [zz.1,vir3];rfl,zz.2⟩
  have BB:Hid (Below W.heap.size W W):=Below.refl _ _
  go_enter Tryz.func34,Tryz.ntmps34
  go_wp2_with (first
    | (go_at_call 51;refine (HN.out _).mono ?_;rintro e w1 ⟨b,rfl,hw,hb⟩;have BB2:Below W.heap.size W w1:=bstep (by repeat (first|exact BB.out|exact Below.refl _ _|refine Below.setCell ?_ (by simp;try omega) _|refine Below.alloc ?_ (by have:=BB.out.size;simp;try omega) _|refine Below.drew ?_)) hb;clear BB;have BB:Hid (Below W.heap.size W w1):=BB2;(try clear HH);have HH:Hid (WAt b P3 w1):=hw;clear hw hb BB2)
    | (go_at_call 38;refine (HM.out _ _ HH.out).mono ?_;rintro e w2 ⟨rfl,hb⟩;have BB2:=bstep BB.out hb;clear BB;have BB:Hid (Below W.heap.size W w2):=BB2;clear hb BB2 HM))
  exact bodyPost_ret (results_tmp rfl _ _ _) rfl ⟨rfl,(by repeat (first|exact BB.out|exact Below.refl _ _|refine Below.setCell ?_ (by simp;try omega) _|refine Below.alloc ?_ (by have:=BB.out.size;simp;try omega) _|refine Below.drew ?_))⟩
end Go.Proofs.YtfoldbhlmmmpeaaGreat
