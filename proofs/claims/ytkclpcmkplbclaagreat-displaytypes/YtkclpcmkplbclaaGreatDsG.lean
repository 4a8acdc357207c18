import Derived.Test.YtkclpcmkplbclaaGreatArB
import Derived.Deep.RegionHeld3
set_option maxRecDepth 100000
namespace Go.Proofs.YtkclpcmkplbclaaGreat
open Go.RowKit Go.Maps
def belB (ps:List Plc) (a:Nat) (s:ByteArray) (b:Nat) (t:ByteArray):Bool :=
  if intB (a:Int) s||intB (b:Int) t then ((a:Int) == (b:Int))&&(s.toList == t.toList)
  else if 0<b then false else if 0<a then abv3.contains t.data.toList
  else match lookL ps s.data.toList,lookL ps t.data.toList with
    | some x,some y=>extB (ps.map nd) x y
    | _,_=>false
set_option maxHeartbeats 4000000 in
theorem arrBelow_c {b:Nat} {ps:List Plc} {W:World} (h:WAt b ps W) (hi:WI ps) (da db M:Nat) (s t:ByteArray) (hs:s.size≤maxLen) (ht:t.size≤maxLen) (hab:da=0∨db=0) (hbg:da+M≤255∧db+M≤255) (hld:s.toList.isEmpty=false→∃ x,lookL ps s.data.toList=some x) (hlt:t.toList.isEmpty=false→∃ x,lookL ps t.data.toList=some x) :
    Calls Tryz.prog 81 #[.pointer (some ⟨b,0,none⟩),.agg #[.int .i64 ((da+M:Nat):Int),.string s],.agg #[.int .i64 ((db+M:Nat):Int),.string t]] W fun e w'=>e=.returned (.bool (belB ps da s db t))∧Below W.heap.size W w':=by
  have HI:Hid (∀ d u y w,intB d u=y→Calls Tryz.prog 105 #[.agg #[.int .i64 d,.string u]] w fun e w'=>e=.returned (.bool y)∧Below w.heap.size w w'):=fun d u y w hy=>by rw [← hy];exact isInt_c d u w
  have H3:Hid (∀ w:World,Calls Tryz.prog 110 #[] w fun e w'=>(∃ v,e=.returned v∧IsStrs w' v abv3)∧Below w.heap.size w w'):=above3_c
  have HCo:Hid (∀ v w,IsStrs w v abv3→Calls Tryz.prog 122 #[v,.string t] w fun e w'=>e=.returned (.bool (abv3.contains t.data.toList))∧Below w.heap.size w w'):=fun v w hv=>sContains_any v abv3 t.data.toList w hv
  have HX:Hid (∀ x y,lookL ps s.data.toList=some x→lookL ps t.data.toList=some y→∀ w,Below W.heap.size W w→Calls Tryz.prog 123 #[.pointer (some ⟨b,0,none⟩),.string s,.string t] w fun e w'=>e=.returned (.bool (extB (ps.map nd) x y))∧Below w.heap.size w w'):=fun x y hx hy w hb=>aExt_c (h.below hb) hi s t hs ht x y hx hy
  obtain ⟨R,hR⟩:∃ R,belB ps da s db t=R:=⟨_,rfl⟩
  have HR:Hid (belB ps da s db t=R):=hR
  rw [hR]
  have HLD:Hid _:=hld
  have HLT:Hid _:=hlt
  clear hR h hi hs ht hld hlt
  go_enter Tryz.func81,Tryz.ntmps81
  go_wp2
  go_loopg [] M (fun k wr=>k≤M∧Hid (wr.heap[W.heap.size]?=some (.cells #[.int .i64 ((da+k:Nat):Int),.string s] 24 (0,0)))∧Hid (wr.heap[W.heap.size+1]?=some (.cells #[.int .i64 ((db+k:Nat):Int),.string t] 24 (0,0)))∧Hid (Below W.heap.size W wr))
  case atStart=>exact ⟨Nat.le_refl _,heap_alloc2_old W _ _,heap_alloc2_new W _ _,(by repeat (first|exact Below.refl _ _|refine Below.setCell ?_ (by simp;try omega) _|refine Below.alloc ?_ (by simp;try omega) _|refine Below.drew ?_))⟩
  case round =>
    obtain ⟨hkM,hA,hB,hb⟩:=hrel
    have hsA:W.heap.size<wr.heap.size:=(Array.getElem?_eq_some_iff.1 hA.out).1
    have hsB:W.heap.size+1<wr.heap.size:=(Array.getElem?_eq_some_iff.1 hB.out).1
    have a0:=cell_of_row wr W.heap.size 0 _ _ _ hA.out
    have fa0:=frozen_of_row wr W.heap.size 0 _ _ hA.out
    have a1:=cell_of_row wr W.heap.size 1 _ _ _ hA.out
    have b0:=cell_of_row wr (W.heap.size+1) 0 _ _ _ hB.out
    have fb0:=frozen_of_row wr (W.heap.size+1) 0 _ _ hB.out
    have b1:=cell_of_row wr (W.heap.size+1) 1 _ _ _ hB.out
    simp only [List.getElem?_toArray,List.getElem?_cons_zero,List.getElem?_cons_succ] at a0 a1 b0 b1
    cases gk with
    | succ k =>
      have h1:(0:Int)<((da+(k+1):Nat):Int):=by omega
      have h2:(0:Int)<((db+(k+1):Nat):Int):=by omega
      go_wp2
      go_roundg k
      case rel =>
        have ea:((da:Int)+((k:Int)+1) - 1)=((da+k:Nat):Int):=by omega
        have eb:((db:Int)+((k:Int)+1) - 1)=((db+k:Nat):Int):=by omega
        rw [ea,eb]
        refine ⟨by omega,?_,?_,?_⟩
        · rw [Hid,heap_setCell_other _ _ _ _ (by simp),heap_setCell_same _ _ _ _ _ _ hA.out];rfl
        · rw [Hid,heap_setCell_same _ _ _ #[.int .i64 ((db+(k+1):Nat):Int),.string t] 24 _ (by rw [heap_setCell_other _ _ _ _ (by simp)];exact hB.out)];rfl
        · exact (hb.out.setCell (by simp) _).setCell (by simp) _
      case measure=>omega
    | zero =>
      simp only [Nat.add_zero] at a0 b0
      have hN:¬ ((0:Int)<(da:Int)∧(0:Int)<(db:Int)):=by omega
      clear hA hB fa0 fb0
      obtain ⟨i1,hi1⟩:∃ x,intB (da:Int) s=x:=⟨_,rfl⟩
      obtain ⟨i2,hi2⟩:∃ x,intB (db:Int) t=x:=⟨_,rfl⟩
      unfold belB at HR
      rw [hi1,hi2] at HR
      have E1:Hid _:=hi1
      have E2:Hid _:=hi2
      clear hi1 hi2
      have BB:Hid (Below W.heap.size W wr):=hb
      clear hb
      cases i1 with
      | true =>
        simp only [Bool.true_or,if_true] at HR
        clear HX HLD HLT hab hbg hkM
        generalize (da:Int)=xa at *
        generalize (db:Int)=xb at *
        go_wp2_with (first
          | (go_at_call 105;refine (HI.out _ _ _ _ (by first|exact E1.out|exact E2.out)).mono ?_;rintro e w1 ⟨rfl,hb1⟩;have BB2:Below W.heap.size W w1:=bstep BB.out hb1;replace a0:=(hb1.cell (p:=⟨W.heap.size,0,none⟩) hsA).trans a0;replace a1:=(hb1.cell (p:=⟨W.heap.size,1,none⟩) hsA).trans a1;replace b0:=(hb1.cell (p:=⟨W.heap.size+1,0,none⟩) hsB).trans b0;replace b1:=(hb1.cell (p:=⟨W.heap.size+1,1,none⟩) hsB).trans b1;replace hsA:=Nat.lt_of_lt_of_le hsA hb1.size;replace hsB:=Nat.lt_of_lt_of_le hsB hb1.size;clear BB;have BB:Hid (Below W.heap.size W w1):=BB2;clear hb1 BB2)
          | (go_at_call 110;refine (H3.out _).mono ?_;rintro e w1 ⟨⟨vv,rfl,hv⟩,hb1⟩;have HV:Hid (IsStrs w1 vv abv3):=hv;have BB2:Below W.heap.size W w1:=bstep BB.out hb1;replace b1:=(hb1.cell (p:=⟨W.heap.size+1,1,none⟩) hsB).trans b1;clear BB;have BB:Hid (Below W.heap.size W w1):=BB2;clear hb1 BB2 hv)
          | (go_at_call 122;refine (HCo.out _ _ HV.out).mono ?_;rintro e w2 ⟨rfl,hb1⟩;have BB2:Below W.heap.size W w2:=bstep BB.out hb1;clear BB;have BB:Hid (Below W.heap.size W w2):=BB2;clear hb1 BB2)
          | (go_at_call 123;refine (HX.out _ BB.out).mono ?_;rintro e w2 ⟨rfl,hb1⟩;have BB2:Below W.heap.size W w2:=bstep BB.out hb1;clear BB;have BB:Hid (Below W.heap.size W w2):=BB2;clear hb1 BB2))
        all_goals go_ret
        all_goals exact ⟨retB (by rw [← HR.out];first|(simp [*];done)|(simp [*];intro h;exfalso;omega)),BB.out⟩
      | false =>
        cases i2 with
        | true =>
          simp only [Bool.or_true,if_true] at HR
          clear HX HLD HLT hab hbg hkM
          generalize (da:Int)=xa at *
          generalize (db:Int)=xb at *
          go_wp2_with (first
            | (go_at_call 105;refine (HI.out _ _ _ _ (by first|exact E1.out|exact E2.out)).mono ?_;rintro e w1 ⟨rfl,hb1⟩;have BB2:Below W.heap.size W w1:=bstep BB.out hb1;replace a0:=(hb1.cell (p:=⟨W.heap.size,0,none⟩) hsA).trans a0;replace a1:=(hb1.cell (p:=⟨W.heap.size,1,none⟩) hsA).trans a1;replace b0:=(hb1.cell (p:=⟨W.heap.size+1,0,none⟩) hsB).trans b0;replace b1:=(hb1.cell (p:=⟨W.heap.size+1,1,none⟩) hsB).trans b1;replace hsA:=Nat.lt_of_lt_of_le hsA hb1.size;replace hsB:=Nat.lt_of_lt_of_le hsB hb1.size;clear BB;have BB:Hid (Below W.heap.size W w1):=BB2;clear hb1 BB2)
            | (go_at_call 110;refine (H3.out _).mono ?_;rintro e w1 ⟨⟨vv,rfl,hv⟩,hb1⟩;have HV:Hid (IsStrs w1 vv abv3):=hv;have BB2:Below W.heap.size W w1:=bstep BB.out hb1;replace b1:=(hb1.cell (p:=⟨W.heap.size+1,1,none⟩) hsB).trans b1;clear BB;have BB:Hid (Below W.heap.size W w1):=BB2;clear hb1 BB2 hv)
            | (go_at_call 122;refine (HCo.out _ _ HV.out).mono ?_;rintro e w2 ⟨rfl,hb1⟩;have BB2:Below W.heap.size W w2:=bstep BB.out hb1;clear BB;have BB:Hid (Below W.heap.size W w2):=BB2;clear hb1 BB2)
            | (go_at_call 123;refine (HX.out _ BB.out).mono ?_;rintro e w2 ⟨rfl,hb1⟩;have BB2:Below W.heap.size W w2:=bstep BB.out hb1;clear BB;have BB:Hid (Below W.heap.size W w2):=BB2;clear hb1 BB2))
          all_goals go_ret
          all_goals exact ⟨retB (by rw [← HR.out];first|(simp [*];done)|(simp [*];intro h;exfalso;omega)),BB.out⟩
        | false =>
          simp only [Bool.or_false,Bool.false_eq_true,if_false] at HR
          by_cases hdb:0<db
          · rw [if_pos hdb] at HR
            have hdb2:(0:Int)<(db:Int):=by omega
            clear HX HLD HLT
            go_wp2_with (first
              | (go_at_call 105;refine (HI.out _ _ _ _ (by first|exact E1.out|exact E2.out)).mono ?_;rintro e w1 ⟨rfl,hb1⟩;have BB2:Below W.heap.size W w1:=bstep BB.out hb1;replace a0:=(hb1.cell (p:=⟨W.heap.size,0,none⟩) hsA).trans a0;replace a1:=(hb1.cell (p:=⟨W.heap.size,1,none⟩) hsA).trans a1;replace b0:=(hb1.cell (p:=⟨W.heap.size+1,0,none⟩) hsB).trans b0;replace b1:=(hb1.cell (p:=⟨W.heap.size+1,1,none⟩) hsB).trans b1;replace hsA:=Nat.lt_of_lt_of_le hsA hb1.size;replace hsB:=Nat.lt_of_lt_of_le hsB hb1.size;clear BB;have BB:Hid (Below W.heap.size W w1):=BB2;clear hb1 BB2)
              | (go_at_call 110;refine (H3.out _).mono ?_;rintro e w1 ⟨⟨vv,rfl,hv⟩,hb1⟩;have HV:Hid (IsStrs w1 vv abv3):=hv;have BB2:Below W.heap.size W w1:=bstep BB.out hb1;replace b1:=(hb1.cell (p:=⟨W.heap.size+1,1,none⟩) hsB).trans b1;clear BB;have BB:Hid (Below W.heap.size W w1):=BB2;clear hb1 BB2 hv)
              | (go_at_call 122;refine (HCo.out _ _ HV.out).mono ?_;rintro e w2 ⟨rfl,hb1⟩;have BB2:Below W.heap.size W w2:=bstep BB.out hb1;clear BB;have BB:Hid (Below W.heap.size W w2):=BB2;clear hb1 BB2)
              | (go_at_call 123;refine (HX.out _ BB.out).mono ?_;rintro e w2 ⟨rfl,hb1⟩;have BB2:Below W.heap.size W w2:=bstep BB.out hb1;clear BB;have BB:Hid (Below W.heap.size W w2):=BB2;clear hb1 BB2))
            all_goals go_ret
            all_goals exact ⟨retB HR.out,BB.out⟩
          · rw [if_neg hdb] at HR
            have hdb2:¬ (0:Int)<(db:Int):=by omega
            by_cases hda:0<da
            · rw [if_pos hda] at HR
              generalize abv3.contains t.data.toList=ct at *
              have hda2:(0:Int)<(da:Int):=by omega
              clear HX HLD HLT
              go_wp2_with (first
                | (go_at_call 105;refine (HI.out _ _ _ _ (by first|exact E1.out|exact E2.out)).mono ?_;rintro e w1 ⟨rfl,hb1⟩;have BB2:Below W.heap.size W w1:=bstep BB.out hb1;replace a0:=(hb1.cell (p:=⟨W.heap.size,0,none⟩) hsA).trans a0;replace a1:=(hb1.cell (p:=⟨W.heap.size,1,none⟩) hsA).trans a1;replace b0:=(hb1.cell (p:=⟨W.heap.size+1,0,none⟩) hsB).trans b0;replace b1:=(hb1.cell (p:=⟨W.heap.size+1,1,none⟩) hsB).trans b1;replace hsA:=Nat.lt_of_lt_of_le hsA hb1.size;replace hsB:=Nat.lt_of_lt_of_le hsB hb1.size;clear BB;have BB:Hid (Below W.heap.size W w1):=BB2;clear hb1 BB2)
                | (go_at_call 110;refine (H3.out _).mono ?_;rintro e w1 ⟨⟨vv,rfl,hv⟩,hb1⟩;have HV:Hid (IsStrs w1 vv abv3):=hv;have BB2:Below W.heap.size W w1:=bstep BB.out hb1;replace b1:=(hb1.cell (p:=⟨W.heap.size+1,1,none⟩) hsB).trans b1;clear BB;have BB:Hid (Below W.heap.size W w1):=BB2;clear hb1 BB2 hv)
                | (go_at_call 122;refine (HCo.out _ _ HV.out).mono ?_;rintro e w2 ⟨rfl,hb1⟩;have BB2:Below W.heap.size W w2:=bstep BB.out hb1;clear BB;have BB:Hid (Below W.heap.size W w2):=BB2;clear hb1 BB2)
                | (go_at_call 123;refine (HX.out _ BB.out).mono ?_;rintro e w2 ⟨rfl,hb1⟩;have BB2:Below W.heap.size W w2:=bstep BB.out hb1;clear BB;have BB:Hid (Below W.heap.size W w2):=BB2;clear hb1 BB2))
              go_region_held3 (fun w'=>w'.cell? ⟨W.heap.size+1,1,none⟩=some (.string t)) (go_keep) (first
                | (go_at_call 110;refine (H3.out _).mono ?_;rintro e w3 ⟨⟨vv,rfl,hv⟩,hb1⟩;have HV:Hid (IsStrs w3 vv abv3):=hv;obtain ⟨ao,cap,rfl,_,_,_⟩:=hv;have BB2:Below W.heap.size W w3:=bstep BB.out.drew hb1;replace b1:w3.cell? ⟨W.heap.size+1,1,none⟩=some (.string t):=(hb1.cell (p:=⟨W.heap.size+1,1,none⟩) hsB).trans b1;clear BB;have BB:Hid (Below W.heap.size W w3):=BB2;clear hb1 BB2 H3)
                | (go_at_call 122;refine (HCo.out _ _ HV.out).mono ?_;rintro e w4 ⟨rfl,hb1⟩;have BB2:Below W.heap.size W w4:=bstep BB.out hb1;replace b1:w4.cell? ⟨W.heap.size+1,1,none⟩=some (.string t):=(hb1.cell (p:=⟨W.heap.size+1,1,none⟩) (World.block_lt_of_cell? _ _ b1)).trans b1;clear BB;have BB:Hid (Below W.heap.size W w4):=BB2;clear hb1 BB2 HCo))
              go_wp2
              all_goals go_ret
              all_goals exact ⟨retB HR.out,BB.out⟩
            · rw [if_neg hda] at HR
              have hda2:¬ (0:Int)<(da:Int):=by omega
              have hes:s.toList.isEmpty=false:=by
                have:=E1.out
                unfold intB at this
                rw [show (da:Int)=0 by omega] at this
                simpa using this
              have het:t.toList.isEmpty=false:=by
                have:=E2.out
                unfold intB at this
                rw [show (db:Int)=0 by omega] at this
                simpa using this
              obtain ⟨x,hx⟩:=HLD.out hes
              obtain ⟨y,hy⟩:=HLT.out het
              rw [hx,hy] at HR
              simp only at HR
              have HX:Hid _:=HX.out x y hx hy
              clear HLD HLT hes het hx hy
              go_wp2_with (first
                | (go_at_call 105;refine (HI.out _ _ _ _ (by first|exact E1.out|exact E2.out)).mono ?_;rintro e w1 ⟨rfl,hb1⟩;have BB2:Below W.heap.size W w1:=bstep BB.out hb1;replace a0:=(hb1.cell (p:=⟨W.heap.size,0,none⟩) hsA).trans a0;replace a1:=(hb1.cell (p:=⟨W.heap.size,1,none⟩) hsA).trans a1;replace b0:=(hb1.cell (p:=⟨W.heap.size+1,0,none⟩) hsB).trans b0;replace b1:=(hb1.cell (p:=⟨W.heap.size+1,1,none⟩) hsB).trans b1;replace hsA:=Nat.lt_of_lt_of_le hsA hb1.size;replace hsB:=Nat.lt_of_lt_of_le hsB hb1.size;clear BB;have BB:Hid (Below W.heap.size W w1):=BB2;clear hb1 BB2)
                | (go_at_call 110;refine (H3.out _).mono ?_;rintro e w1 ⟨⟨vv,rfl,hv⟩,hb1⟩;have HV:Hid (IsStrs w1 vv abv3):=hv;have BB2:Below W.heap.size W w1:=bstep BB.out hb1;replace b1:=(hb1.cell (p:=⟨W.heap.size+1,1,none⟩) hsB).trans b1;clear BB;have BB:Hid (Below W.heap.size W w1):=BB2;clear hb1 BB2 hv)
                | (go_at_call 122;refine (HCo.out _ _ HV.out).mono ?_;rintro e w2 ⟨rfl,hb1⟩;have BB2:Below W.heap.size W w2:=bstep BB.out hb1;clear BB;have BB:Hid (Below W.heap.size W w2):=BB2;clear hb1 BB2)
                | (go_at_call 123;refine (HX.out _ BB.out).mono ?_;rintro e w2 ⟨rfl,hb1⟩;have BB2:Below W.heap.size W w2:=bstep BB.out hb1;clear BB;have BB:Hid (Below W.heap.size W w2):=BB2;clear hb1 BB2))
              all_goals go_ret
              all_goals exact ⟨retB HR.out,BB.out⟩
def subB (ps:List Plc) (x:Int) (s:ByteArray) (y:Int) (t:ByteArray):Bool:=belB ps (x.toNat - min x.toNat y.toNat) s (y.toNat - min x.toNat y.toNat) t
def suI (ps:List Plc) (x:Int) (s:ByteArray) (y:Int) (t:ByteArray):Value :=
  if ldI ps x s=0 then (if ldI ps y t=0 then .tuple #[.bool (subB ps x s y t),.int .i64 0] else .tuple #[.bool false,.int .i64 (ldI ps y t)]) else .tuple #[.bool false,.int .i64 (ldI ps x s)]
theorem ld_facts {ps:List Plc} {x:Int} {s:ByteArray} (h:ldI ps x s=0):0≤x∧x≤255∧(s.toList.isEmpty=false→∃ k,lookL ps s.data.toList=some k):=by
  unfold ldI at h
  cases hs:sndB x s.data.toList with
  | false=>rw [hs] at h;revert h;simp
  | true =>
    rw [hs] at h
    have hs2:=hs
    unfold sndB at hs2
    simp only [Bool.and_eq_true,decide_eq_true_eq] at hs2
    refine ⟨hs2.1.1,hs2.1.2,fun he=>?_⟩
    rw [he] at h
    cases hl:lookL ps s.data.toList with
    | some k=>exact ⟨k,rfl⟩
    | none=>rw [hl] at h;revert h;simp
set_option maxHeartbeats 1000000 in
theorem sub_c {b:Nat} {ps:List Plc} {W:World} (h:WAt b ps W) (hi:WI ps) (x:Int) (s:ByteArray) (y:Int) (t:ByteArray) (hs:s.size≤maxLen) (ht:t.size≤maxLen):Calls Tryz.prog 23 #[.pointer (some ⟨b,0,none⟩),.agg #[.int .i64 x,.string s],.agg #[.int .i64 y,.string t]] W fun e w'=>e=.returned (suI ps x s y t)∧Below W.heap.size W w':=by
  have HL:Hid (∀ z u r w,Below W.heap.size W w→u.size≤maxLen→ldI ps z u=r→Calls Tryz.prog 71 #[.pointer (some ⟨b,0,none⟩),.agg #[.int .i64 z,.string u]] w fun e w'=>e=.returned (.int .i64 r)∧Below w.heap.size w w'):=fun z u r w hb hu hr=>by rw [← hr];exact loaded_c (h.below hb) z u hu
  have HL1:Hid (∀ z u w,Below W.heap.size W w→z=x→u=s→Calls Tryz.prog 71 #[.pointer (some ⟨b,0,none⟩),.agg #[.int .i64 z,.string u]] w fun e w'=>e=.returned (.int .i64 (ldI ps x s))∧Below w.heap.size w w'):=fun z u w hb hz hu=>by rw [hz,hu];exact HL.out x s _ w hb hs rfl
  have HL2:Hid (∀ z u w,Below W.heap.size W w→z=y→u=t→Calls Tryz.prog 71 #[.pointer (some ⟨b,0,none⟩),.agg #[.int .i64 z,.string u]] w fun e w'=>e=.returned (.int .i64 (ldI ps y t))∧Below w.heap.size w w'):=fun z u w hb hz hu=>by rw [hz,hu];exact HL.out y t _ w hb ht rfl
  clear HL
  have tl:∀ (w1:World) (o1 o2:Obj),Below ((W.alloc o1).alloc o2).heap.size ((W.alloc o1).alloc o2) w1→True:=fun _ _ _ _=>trivial
  clear tl
  by_cases h1:ldI ps x s=0
  · by_cases h2:ldI ps y t=0
    · have e:suI ps x s y t=.tuple #[.bool (subB ps x s y t),.int .i64 0]:=by rw [suI,if_pos h1,if_pos h2]
      rw [e]
      obtain ⟨x0,x1,xk⟩:=ld_facts h1
      obtain ⟨y0,y1,yk⟩:=ld_facts h2
      have HB:Hid (∀ w,Below W.heap.size W w→Calls Tryz.prog 81 #[.pointer (some ⟨b,0,none⟩),.agg #[.int .i64 x,.string s],.agg #[.int .i64 y,.string t]] w fun e w'=>e=.returned (.bool (subB ps x s y t))∧Below w.heap.size w w'):=fun w hb=>by
        have hq:=arrBelow_c (h.below hb) hi (x.toNat - min x.toNat y.toNat) (y.toNat - min x.toNat y.toNat) (min x.toNat y.toNat) s t hs ht (by omega) (by omega) xk yk
        rw [show ((x.toNat - min x.toNat y.toNat+min x.toNat y.toNat:Nat):Int)=x by omega,show ((y.toNat - min x.toNat y.toNat+min x.toNat y.toNat:Nat):Int)=y by omega] at hq
        exact hq
      rw [h1] at HL1
      rw [h2] at HL2
      generalize subB ps x s y t=R at *
      clear h hi hs ht h1 h2 e x0 x1 xk y0 y1 yk
      go_enter Tryz.func23,Tryz.ntmps23
      go_wp2_with (first
        | (go_at_call 71;refine (HL1.out _ _ _ (by repeat (first|exact Below.refl _ _|refine Below.setCell ?_ (by simp;try omega) _|refine Below.alloc ?_ (by simp;try omega) _|refine Below.drew ?_)) (by rfl) (by rfl)).mono ?_;rintro e w1 ⟨rfl,hb⟩;have hA:=(hb.block W.heap.size (by simp;omega)).trans (heap_alloc2_old W _ _);have hB:=(hb.block (W.heap.size+1) (by simp)).trans (heap_alloc2_new W _ _);have hsA:W.heap.size<w1.heap.size:=(Array.getElem?_eq_some_iff.1 hA).1;have hsB:W.heap.size+1<w1.heap.size:=(Array.getElem?_eq_some_iff.1 hB).1;have a0:=cell_of_row w1 W.heap.size 0 _ _ _ hA;have a1:=cell_of_row w1 W.heap.size 1 _ _ _ hA;have b0:=cell_of_row w1 (W.heap.size+1) 0 _ _ _ hB;have b1:=cell_of_row w1 (W.heap.size+1) 1 _ _ _ hB;simp only [List.getElem?_toArray,List.getElem?_cons_zero,List.getElem?_cons_succ] at a0 a1 b0 b1;have BB:Hid (Below W.heap.size W w1):=bstep (by repeat (first|exact Below.refl _ _|refine Below.setCell ?_ (by simp;try omega) _|refine Below.alloc ?_ (by simp;try omega) _|refine Below.drew ?_)) hb;clear hb HL1 hA hB)
        | (go_at_call 71;refine (HL2.out _ _ _ BB.out (by rfl) (by rfl)).mono ?_;rintro e w2 ⟨rfl,hb⟩;replace a0:=(hb.cell (p:=⟨W.heap.size,0,none⟩) hsA).trans a0;replace a1:=(hb.cell (p:=⟨W.heap.size,1,none⟩) hsA).trans a1;replace b0:=(hb.cell (p:=⟨W.heap.size+1,0,none⟩) hsB).trans b0;replace b1:=(hb.cell (p:=⟨W.heap.size+1,1,none⟩) hsB).trans b1;have BB2:Below W.heap.size W w2:=bstep BB.out hb;clear BB;have BB:Hid (Below W.heap.size W w2):=BB2;clear hb BB2 HL2)
        | (go_at_call 81;refine (HB.out _ BB.out).mono ?_;rintro e w3 ⟨rfl,hb⟩;have BB2:Below W.heap.size W w3:=bstep BB.out hb;clear BB;have BB:Hid (Below W.heap.size W w3):=BB2;clear hb BB2 HB))
      exact bodyPost_ret (results_tmp2 rfl _ _ _) rfl ⟨rfl,BB.out⟩
    · have e:suI ps x s y t=.tuple #[.bool false,.int .i64 (ldI ps y t)]:=by rw [suI,if_pos h1,if_neg h2]
      rw [e]
      rw [h1] at HL1
      generalize ldI ps y t=R at *
      clear h hi hs ht h1 e
      go_enter Tryz.func23,Tryz.ntmps23
      go_wp2_with (first
        | (go_at_call 71;refine (HL1.out _ _ _ (by repeat (first|exact Below.refl _ _|refine Below.setCell ?_ (by simp;try omega) _|refine Below.alloc ?_ (by simp;try omega) _|refine Below.drew ?_)) (by rfl) (by rfl)).mono ?_;rintro e w1 ⟨rfl,hb⟩;have hA:=(hb.block W.heap.size (by simp;omega)).trans (heap_alloc2_old W _ _);have hB:=(hb.block (W.heap.size+1) (by simp)).trans (heap_alloc2_new W _ _);have a0:=cell_of_row w1 W.heap.size 0 _ _ _ hA;have a1:=cell_of_row w1 W.heap.size 1 _ _ _ hA;have b0:=cell_of_row w1 (W.heap.size+1) 0 _ _ _ hB;have b1:=cell_of_row w1 (W.heap.size+1) 1 _ _ _ hB;simp only [List.getElem?_toArray,List.getElem?_cons_zero,List.getElem?_cons_succ] at a0 a1 b0 b1;have BB:Hid (Below W.heap.size W w1):=bstep (by repeat (first|exact Below.refl _ _|refine Below.setCell ?_ (by simp;try omega) _|refine Below.alloc ?_ (by simp;try omega) _|refine Below.drew ?_)) hb;clear hb HL1 hA hB)
        | (go_at_call 71;refine (HL2.out _ _ _ BB.out (by rfl) (by rfl)).mono ?_;rintro e w2 ⟨rfl,hb⟩;have BB2:Below W.heap.size W w2:=bstep BB.out hb;clear BB;have BB:Hid (Below W.heap.size W w2):=BB2;clear hb BB2 HL2))
      exact bodyPost_ret (results_tmp2 rfl _ _ _) rfl ⟨rfl,BB.out⟩
  · have e:suI ps x s y t=.tuple #[.bool false,.int .i64 (ldI ps x s)]:=by rw [suI,if_neg h1]
    rw [e]
    generalize ldI ps x s=R at *
    clear h hi hs ht e
    go_enter Tryz.func23,Tryz.ntmps23
    go_wp2_with (first
      | (go_at_call 71;refine (HL1.out _ _ _ (by repeat (first|exact Below.refl _ _|refine Below.setCell ?_ (by simp;try omega) _|refine Below.alloc ?_ (by simp;try omega) _|refine Below.drew ?_)) (by rfl) (by rfl)).mono ?_;rintro e w1 ⟨rfl,hb⟩;have BB:Hid (Below W.heap.size W w1):=bstep (by repeat (first|exact Below.refl _ _|refine Below.setCell ?_ (by simp;try omega) _|refine Below.alloc ?_ (by simp;try omega) _|refine Below.drew ?_)) hb;clear hb HL1))
    exact bodyPost_ret (results_tmp2 rfl _ _ _) rfl ⟨rfl,BB.out⟩
theorem dset2 {w:World} {n:Nat} {t:TypeId} {a0 a1:Value} (h:w.heap[n]?=some (.cells #[a0,a1] t (0,0))) (v:Value):(w.setCell ⟨n,0,none⟩ v).heap[n]?=some (.cells #[v,a1] t (0,0))∧(w.setCell ⟨n,1,none⟩ v).heap[n]?=some (.cells #[a0,v] t (0,0)) :=
  ⟨(Go.Joins.block_setCell (i:=0) h v).trans (by simp),(Go.Joins.block_setCell (i:=1) h v).trans (by simp)⟩
theorem dset4 {w:World} {n:Nat} {t:TypeId} {a0 a1 a2 a3:Value} (h:w.heap[n]?=some (.cells #[a0,a1,a2,a3] t (0,0))) (v:Value):(w.setCell ⟨n,0,none⟩ v).heap[n]?=some (.cells #[v,a1,a2,a3] t (0,0))∧(w.setCell ⟨n,2,none⟩ v).heap[n]?=some (.cells #[a0,a1,v,a3] t (0,0)) :=
  ⟨(Go.Joins.block_setCell (i:=0) h v).trans (by simp),(Go.Joins.block_setCell (i:=2) h v).trans (by simp)⟩
theorem keepS {w:World} {n m i:Nat} {v:Value} {o:Option Obj} (hn:¬ n=m) (h:w.heap[n]?=o):(w.setCell ⟨m,i,none⟩ v).heap[n]?=o:=(Below.heap_setCell _ _ _ _ hn).trans h
set_option maxHeartbeats 4000000 in
theorem low_c (d1 d2 c:Nat) (s t:ByteArray) (hc:min d1 d2=c) (h1:d1≤255) (h2:d2≤255) (W:World):Calls Tryz.prog 120 #[.agg #[.int .i64 (d1:Int),.string s,.int .i64 (d2:Int),.string t]] W fun e w'=>e=.returned (.agg #[.int .i64 ((d1:Int) - (c:Int)),.string s,.int .i64 ((d2:Int) - (c:Int)),.string t])∧Below W.heap.size W w':=by
  have hmin:min (d1:Int) (d2:Int)=(c:Int):=by omega
  have hc1:c≤d1:=by omega
  have hc2:c≤d2:=by omega
  clear hc
  go_enter Tryz.func120,Tryz.ntmps120
  go_wp2
  go_loopw [12] (fun kv wr=>((kv=.int .i64 0∧Hid (wr.heap[W.heap.size]?=some (.cells #[.int .i64 (d1:Int),.string s,.int .i64 (d2:Int),.string t] 128 (0,0))))∨(kv=.int .i64 1∧Hid (wr.heap[W.heap.size]?=some (.cells #[.int .i64 ((d1:Int) - (c:Int)),.string s,.int .i64 (d2:Int),.string t] 128 (0,0))))∨(kv=.int .i64 2∧Hid (wr.heap[W.heap.size]?=some (.cells #[.int .i64 ((d1:Int) - (c:Int)),.string s,.int .i64 ((d2:Int) - (c:Int)),.string t] 128 (0,0)))))∧Hid (Below W.heap.size W wr)∧Hid (wr.heap[W.heap.size+1]?=some (.cells #[.int .i64 0,.string ⟨#[]⟩,.int .i64 0,.string ⟨#[]⟩] 128 (0,0)))) (fun kv _=>2 - (intOf kv).toNat)
  case atStart=>exact ⟨.inl ⟨rfl,hkeep (halloc1 _ _)⟩,((Below.refl _ _).alloc (Nat.le_refl _) _).alloc (by simp) _,halloc2 _ _ (by simp)⟩
  case round =>
    obtain ⟨hk,hB,rrB⟩:=hrel
    obtain ⟨rr0,rr1,rr2,rr3,rrf,rrL⟩:=rw4 rrB.out
    have rrN:¬ W.heap.size+1=W.heap.size:=by omega
    have rrN2:¬ W.heap.size=W.heap.size+1:=by omega
    rcases hk with ⟨rfl,eeB⟩|⟨rfl,eeB⟩|⟨rfl,eeB⟩
    · obtain ⟨ee0,ee1,ee2,ee3,eef,eeL⟩:=rw4 eeB.out
      go_wp2
      exact ⟨⟨.inr (.inl ⟨rfl,(dset4 eeB.out _).1⟩),hB.out.setCell (Nat.le_refl _) _,keepS rrN rrB.out⟩,by simp [intOf]⟩
    · obtain ⟨ee0,ee1,ee2,ee3,eef,eeL⟩:=rw4 eeB.out
      go_wp2
      exact ⟨⟨.inr (.inr ⟨rfl,(dset4 eeB.out _).2⟩),hB.out.setCell (Nat.le_refl _) _,keepS rrN rrB.out⟩,by simp [intOf]⟩
    · obtain ⟨ee0,ee1,ee2,ee3,eef,eeL⟩:=rw4 eeB.out
      go_wp2
      exact bodyPost_ret (v:=.agg #[.int .i64 ((d1:Int) - (c:Int)),.string s,.int .i64 ((d2:Int) - (c:Int)),.string t]) (by simp [results,Tryz.results120,go_sem, *]) rfl ⟨rfl,(((hB.out.setCell (Nat.le_succ _) _).setCell (Nat.le_succ _) _).setCell (Nat.le_succ _) _).setCell (Nat.le_succ _) _⟩
set_option maxHeartbeats 4000000 in
theorem ict_c (d:Int) (s:ByteArray) (W:World):Calls Tryz.prog 121 #[.agg #[.int .i64 d,.string s]] W fun e w'=>e=.returned (.bool (decide (d=0)&&!s.toList.isEmpty))∧Below W.heap.size W w':=by
  by_cases h0:d=0
  · subst h0
    cases he:s.toList.isEmpty
    all_goals
      go_enter Tryz.func121,Tryz.ntmps121
      go_wp2
      go_ret
      exact ⟨by first|rfl|simp_all,(by repeat (first|exact Below.refl _ _|refine Below.setCell ?_ (by simp;try omega) _|refine Below.alloc ?_ (by simp;try omega) _|refine Below.drew ?_))⟩
  · have e:(decide (d=0)&&!s.toList.isEmpty)=false:=by simp [h0]
    rw [e]
    go_enter Tryz.func121,Tryz.ntmps121
    go_wp2
    go_ret
    exact ⟨rfl,(by repeat (first|exact Below.refl _ _|refine Below.setCell ?_ (by simp;try omega) _|refine Below.alloc ?_ (by simp;try omega) _|refine Below.drew ?_))⟩
theorem idxT_0 (x y:Int) (s t:ByteArray) (w:World):(Instr.index 128 (.agg #[.int .i64 x,.string s,.int .i64 y,.string t]) (.int .i64 0)).run Tryz.prog w=.ok (.agg #[.int .i64 x,.string s]) w:=by
  simp [Instr.index,run_underlying Tryz.underlying128,go_sem,part]
theorem idxT_1 (x y:Int) (s t:ByteArray) (w:World):(Instr.index 128 (.agg #[.int .i64 x,.string s,.int .i64 y,.string t]) (.int .i64 1)).run Tryz.prog w=.ok (.agg #[.int .i64 y,.string t]) w:=by
  simp [Instr.index,run_underlying Tryz.underlying128,go_sem,part]
theorem bl4 {w:World} {n:Nat} {t:TypeId} {a0 a1 a2 a3:Value} (h:w.heap[n]?=some (.cells #[a0,a1,a2,a3] t (0,0))) (b0 b1 b2 b3:Value):((((w.setCell ⟨n,0,none⟩ b0).setCell ⟨n,1,none⟩ b1).setCell ⟨n,2,none⟩ b2).setCell ⟨n,3,none⟩ b3).heap[n]?=some (.cells #[b0,b1,b2,b3] t (0,0)):=by
  have h0:=(Go.Joins.block_setCell (i:=0) h b0).trans (by simp:_=some (.cells #[b0,a1,a2,a3] t (0,0)))
  have h1:=(Go.Joins.block_setCell (i:=1) h0 b1).trans (by simp:_=some (.cells #[b0,b1,a2,a3] t (0,0)))
  have h2:=(Go.Joins.block_setCell (i:=2) h1 b2).trans (by simp:_=some (.cells #[b0,b1,b2,a3] t (0,0)))
  exact (Go.Joins.block_setCell (i:=3) h2 b3).trans (by simp)
set_option maxHeartbeats 4000000 in
theorem itb_1 (V W:World) (b rb m:Nat) (x y X Y:Int) (s t:ByteArray) (hb:Below V.heap.size V W) (hr:V.heap.size≤rb) (hrb:W.heap[rb]?=some (.cells #[.int .i64 (m:Int)] 3 (0,0))) (hm:m≤1000000) (HLW:Hid (∀ w,Calls Tryz.prog 120 #[.agg #[.int .i64 x,.string s,.int .i64 y,.string t]] w fun e w'=>e=.returned (.agg #[.int .i64 X,.string s,.int .i64 Y,.string t])∧Below w.heap.size w w')) (R:Bool) (HIC1:Hid (∀ z u w,z=X→u=s→Calls Tryz.prog 121 #[.agg #[.int .i64 z,.string u]] w fun e w'=>e=.returned (.bool false)∧Below w.heap.size w w')) (HSB:Hid (∀ w,Below V.heap.size V w→Calls Tryz.prog 23 #[.pointer (some ⟨b,0,none⟩),.agg #[.int .i64 X,.string s],.agg #[.int .i64 Y,.string t]] w fun e w'=>e=.returned (.tuple #[.bool R,.int .i64 0])∧Below w.heap.size w w')) :
    Calls Tryz.prog 80 #[.pointer (some ⟨b,0,none⟩),.agg #[.int .i64 x,.string s,.int .i64 y,.string t],.pointer (some ⟨rb,0,none⟩)] W fun e w'=>e=.returned (.bool R)∧w'.heap[rb]?=some (.cells #[.int .i64 ((m+1:Nat):Int)] 3 (0,0))∧Below V.heap.size V w':=by
  have HB:Hid (Below V.heap.size V W):=hb
  have HR:Hid (W.heap[rb]?=some (.cells #[.int .i64 (m:Int)] 3 (0,0))):=hrb
  obtain ⟨r0,rf,rl⟩:=rw1 hrb
  have hW0:=hb.size
  have rbW:¬ rb=W.heap.size:=by omega
  have Wrb:¬ W.heap.size=rb:=by omega
  clear hb hrb
  have IX0:=idxT_0 X Y s t
  have IX1:=idxT_1 X Y s t
  go_enter Tryz.func80,Tryz.ntmps80
  go_upto_region 2 with (go_at_call 120;refine (HLW.out _).mono ?_;rintro e w1 ⟨rfl,hb⟩;have eed:=kp4 (n:=W.heap.size) hb (by first|omega|(simp;try omega)) (halloc1 _ _);(try clear eeB ee0 ee1 ee2 ee3 eef eeL eeN);obtain ⟨eeB,ee0,ee1,ee2,ee3,eef,eeL,eeN⟩:=eed;have rrd:=kp1 (n:=rb) hb (by first|omega|(simp;try omega)) (hkeep HR.out);(try clear rrB rr0 rrf rrL rrN);obtain ⟨rrB,rr0,rrf,rrL,rrN⟩:=rrd;have B1:Hid (Below V.heap.size V w1):=bstep (HB.out.alloc HB.out.size _) hb;clear hb HLW)
  have B2:Hid (Below V.heap.size V ((((w1.setCell ⟨W.heap.size,0,none⟩ (.int .i64 X)).setCell ⟨W.heap.size,1,none⟩ (.string s)).setCell ⟨W.heap.size,2,none⟩ (.int .i64 Y)).setCell ⟨W.heap.size,3,none⟩ (.string t))):=(((B1.out.setCell hW0 _).setCell hW0 _).setCell hW0 _).setCell hW0 _
  have E2:Hid (((((w1.setCell ⟨W.heap.size,0,none⟩ (.int .i64 X)).setCell ⟨W.heap.size,1,none⟩ (.string s)).setCell ⟨W.heap.size,2,none⟩ (.int .i64 Y)).setCell ⟨W.heap.size,3,none⟩ (.string t)).heap[W.heap.size]?=some (.cells #[.int .i64 X,.string s,.int .i64 Y,.string t] 128 (0,0))):=bl4 eeB.out _ _ _ _
  have R2:Hid (((((w1.setCell ⟨W.heap.size,0,none⟩ (.int .i64 X)).setCell ⟨W.heap.size,1,none⟩ (.string s)).setCell ⟨W.heap.size,2,none⟩ (.int .i64 Y)).setCell ⟨W.heap.size,3,none⟩ (.string t)).heap[rb]?=some (.cells #[.int .i64 (m:Int)] 3 (0,0))):=keepS rbW (keepS rbW (keepS rbW (keepS rbW rrB.out)))
  generalize ((((w1.setCell ⟨W.heap.size,0,none⟩ (.int .i64 X)).setCell ⟨W.heap.size,1,none⟩ (.string s)).setCell ⟨W.heap.size,2,none⟩ (.int .i64 Y)).setCell ⟨W.heap.size,3,none⟩ (.string t))=U at *
  (try clear eeB ee0 ee1 ee2 ee3 eef eeL eeN rrB rr0 rrf rrL rrN)
  have eeB:=E2
  have rrB:=R2
  obtain ⟨ee0,ee1,ee2,ee3,eef,eeL⟩:=rw4 eeB.out
  obtain ⟨rr0,rrf,rrL⟩:=rw1 rrB.out
  have eeN:¬ W.heap.size=U.heap.size:=by omega
  have rrN:¬ rb=U.heap.size:=by omega
  clear E2 R2 B1
  go_wp2_with (first
    | (go_at_call 121;refine (HIC1.out _ _ _ (by rfl) (by rfl)).mono ?_;rintro e w3 ⟨rfl,hb⟩;have eed:=kp4 (n:=W.heap.size) hb (by first|omega|(simp;try omega)) (eeB.out);(try clear eeB ee0 ee1 ee2 ee3 eef eeL eeN);obtain ⟨eeB,ee0,ee1,ee2,ee3,eef,eeL,eeN⟩:=eed;have rrd:=kp1 (n:=rb) hb (by first|omega|(simp;try omega)) (rrB.out);(try clear rrB rr0 rrf rrL rrN);obtain ⟨rrB,rr0,rrf,rrL,rrN⟩:=rrd;have B3:Hid (Below V.heap.size V w3):=bstep B2.out hb;clear hb HIC1)
    | (go_at_call 23;refine (HSB.out _ (B3.out.setCell (p:=⟨rb,0,none⟩) hr _)).mono ?_;rintro e w5 ⟨rfl,hb⟩;have R5:Hid (w5.heap[rb]?=some (.cells #[.int .i64 ((m:Int)+1)] 3 (0,0))):=(hb.block rb (by simp;omega)).trans (st1 rrB.out _);have B5:Hid (Below V.heap.size V w5):=bstep (B3.out.setCell (p:=⟨rb,0,none⟩) hr _) hb;clear hb HSB))
  exact bodyPost_ret (results_tmp rfl _ _ _) rfl ⟨rfl,R5.out,B5.out⟩
set_option maxHeartbeats 4000000 in
theorem itb_2 (V W:World) (b rb m:Nat) (x y X Y:Int) (s t:ByteArray) (hb:Below V.heap.size V W) (hr:V.heap.size≤rb) (hrb:W.heap[rb]?=some (.cells #[.int .i64 (m:Int)] 3 (0,0))) (hm:m≤1000000) (HLW:Hid (∀ w,Calls Tryz.prog 120 #[.agg #[.int .i64 x,.string s,.int .i64 y,.string t]] w fun e w'=>e=.returned (.agg #[.int .i64 X,.string s,.int .i64 Y,.string t])∧Below w.heap.size w w')) (R:Bool) (HIC1:Hid (∀ z u w,z=X→u=s→Calls Tryz.prog 121 #[.agg #[.int .i64 z,.string u]] w fun e w'=>e=.returned (.bool true)∧Below w.heap.size w w')) (HIC2:Hid (∀ z u w,z=Y→u=t→Calls Tryz.prog 121 #[.agg #[.int .i64 z,.string u]] w fun e w'=>e=.returned (.bool false)∧Below w.heap.size w w')) (HSB:Hid (∀ w,Below V.heap.size V w→Calls Tryz.prog 23 #[.pointer (some ⟨b,0,none⟩),.agg #[.int .i64 X,.string s],.agg #[.int .i64 Y,.string t]] w fun e w'=>e=.returned (.tuple #[.bool R,.int .i64 0])∧Below w.heap.size w w')) :
    Calls Tryz.prog 80 #[.pointer (some ⟨b,0,none⟩),.agg #[.int .i64 x,.string s,.int .i64 y,.string t],.pointer (some ⟨rb,0,none⟩)] W fun e w'=>e=.returned (.bool R)∧w'.heap[rb]?=some (.cells #[.int .i64 ((m+1:Nat):Int)] 3 (0,0))∧Below V.heap.size V w':=by
  have HB:Hid (Below V.heap.size V W):=hb
  have HR:Hid (W.heap[rb]?=some (.cells #[.int .i64 (m:Int)] 3 (0,0))):=hrb
  obtain ⟨r0,rf,rl⟩:=rw1 hrb
  have hW0:=hb.size
  have rbW:¬ rb=W.heap.size:=by omega
  have Wrb:¬ W.heap.size=rb:=by omega
  clear hb hrb
  have IX0:=idxT_0 X Y s t
  have IX1:=idxT_1 X Y s t
  go_enter Tryz.func80,Tryz.ntmps80
  go_upto_region 2 with (go_at_call 120;refine (HLW.out _).mono ?_;rintro e w1 ⟨rfl,hb⟩;have eed:=kp4 (n:=W.heap.size) hb (by first|omega|(simp;try omega)) (halloc1 _ _);(try clear eeB ee0 ee1 ee2 ee3 eef eeL eeN);obtain ⟨eeB,ee0,ee1,ee2,ee3,eef,eeL,eeN⟩:=eed;have rrd:=kp1 (n:=rb) hb (by first|omega|(simp;try omega)) (hkeep HR.out);(try clear rrB rr0 rrf rrL rrN);obtain ⟨rrB,rr0,rrf,rrL,rrN⟩:=rrd;have B1:Hid (Below V.heap.size V w1):=bstep (HB.out.alloc HB.out.size _) hb;clear hb HLW)
  have B2:Hid (Below V.heap.size V ((((w1.setCell ⟨W.heap.size,0,none⟩ (.int .i64 X)).setCell ⟨W.heap.size,1,none⟩ (.string s)).setCell ⟨W.heap.size,2,none⟩ (.int .i64 Y)).setCell ⟨W.heap.size,3,none⟩ (.string t))):=(((B1.out.setCell hW0 _).setCell hW0 _).setCell hW0 _).setCell hW0 _
  have E2:Hid (((((w1.setCell ⟨W.heap.size,0,none⟩ (.int .i64 X)).setCell ⟨W.heap.size,1,none⟩ (.string s)).setCell ⟨W.heap.size,2,none⟩ (.int .i64 Y)).setCell ⟨W.heap.size,3,none⟩ (.string t)).heap[W.heap.size]?=some (.cells #[.int .i64 X,.string s,.int .i64 Y,.string t] 128 (0,0))):=bl4 eeB.out _ _ _ _
  have R2:Hid (((((w1.setCell ⟨W.heap.size,0,none⟩ (.int .i64 X)).setCell ⟨W.heap.size,1,none⟩ (.string s)).setCell ⟨W.heap.size,2,none⟩ (.int .i64 Y)).setCell ⟨W.heap.size,3,none⟩ (.string t)).heap[rb]?=some (.cells #[.int .i64 (m:Int)] 3 (0,0))):=keepS rbW (keepS rbW (keepS rbW (keepS rbW rrB.out)))
  generalize ((((w1.setCell ⟨W.heap.size,0,none⟩ (.int .i64 X)).setCell ⟨W.heap.size,1,none⟩ (.string s)).setCell ⟨W.heap.size,2,none⟩ (.int .i64 Y)).setCell ⟨W.heap.size,3,none⟩ (.string t))=U at *
  (try clear eeB ee0 ee1 ee2 ee3 eef eeL eeN rrB rr0 rrf rrL rrN)
  have eeB:=E2
  have rrB:=R2
  obtain ⟨ee0,ee1,ee2,ee3,eef,eeL⟩:=rw4 eeB.out
  obtain ⟨rr0,rrf,rrL⟩:=rw1 rrB.out
  have eeN:¬ W.heap.size=U.heap.size:=by omega
  have rrN:¬ rb=U.heap.size:=by omega
  clear E2 R2 B1
  go_wp2_with (first
    | (go_at_call 121;refine (HIC1.out _ _ _ (by rfl) (by rfl)).mono ?_;rintro e w3 ⟨rfl,hb⟩;have eed:=kp4 (n:=W.heap.size) hb (by first|omega|(simp;try omega)) (eeB.out);(try clear eeB ee0 ee1 ee2 ee3 eef eeL eeN);obtain ⟨eeB,ee0,ee1,ee2,ee3,eef,eeL,eeN⟩:=eed;have rrd:=kp1 (n:=rb) hb (by first|omega|(simp;try omega)) (rrB.out);(try clear rrB rr0 rrf rrL rrN);obtain ⟨rrB,rr0,rrf,rrL,rrN⟩:=rrd;have B3:Hid (Below V.heap.size V w3):=bstep B2.out hb;clear hb HIC1)
    | (go_at_call 121;refine (HIC2.out _ _ _ (by rfl) (by rfl)).mono ?_;rintro e w4 ⟨rfl,hb⟩;have eed:=kp4 (n:=W.heap.size) hb (by first|omega|(simp;try omega)) (eeB.out);(try clear eeB ee0 ee1 ee2 ee3 eef eeL eeN);obtain ⟨eeB,ee0,ee1,ee2,ee3,eef,eeL,eeN⟩:=eed;have rrd:=kp1 (n:=rb) hb (by first|omega|(simp;try omega)) (rrB.out);(try clear rrB rr0 rrf rrL rrN);obtain ⟨rrB,rr0,rrf,rrL,rrN⟩:=rrd;have B4:Hid (Below V.heap.size V w4):=bstep B3.out hb;clear hb HIC2)
    | (go_at_call 23;refine (HSB.out _ (B4.out.setCell (p:=⟨rb,0,none⟩) hr _)).mono ?_;rintro e w5 ⟨rfl,hb⟩;have R5:Hid (w5.heap[rb]?=some (.cells #[.int .i64 ((m:Int)+1)] 3 (0,0))):=(hb.block rb (by simp;omega)).trans (st1 rrB.out _);have B5:Hid (Below V.heap.size V w5):=bstep (B4.out.setCell (p:=⟨rb,0,none⟩) hr _) hb;clear hb HSB))
  exact bodyPost_ret (results_tmp rfl _ _ _) rfl ⟨rfl,R5.out,B5.out⟩
set_option maxHeartbeats 4000000 in
theorem itb_3 (V W:World) (b rb m:Nat) (x y X Y:Int) (s t:ByteArray) (hb:Below V.heap.size V W) (hrb:W.heap[rb]?=some (.cells #[.int .i64 (m:Int)] 3 (0,0))) (HLW:Hid (∀ w,Calls Tryz.prog 120 #[.agg #[.int .i64 x,.string s,.int .i64 y,.string t]] w fun e w'=>e=.returned (.agg #[.int .i64 X,.string s,.int .i64 Y,.string t])∧Below w.heap.size w w')) (R:Bool) (n a d:Nat) (HIC1:Hid (∀ z u w,z=X→u=s→Calls Tryz.prog 121 #[.agg #[.int .i64 z,.string u]] w fun e w'=>e=.returned (.bool true)∧Below w.heap.size w w')) (HIC2:Hid (∀ z u w,z=Y→u=t→Calls Tryz.prog 121 #[.agg #[.int .i64 z,.string u]] w fun e w'=>e=.returned (.bool true)∧Below w.heap.size w w')) (HN1:Hid (∀ w,Below V.heap.size V w→Calls Tryz.prog 56 #[.pointer (some ⟨b,0,none⟩),.string s] w fun e w'=>e=.returned (.tuple #[.int .i64 (a:Int),.int .i64 0])∧Below w.heap.size w w')) (HN2:Hid (∀ w,Below V.heap.size V w→Calls Tryz.prog 56 #[.pointer (some ⟨b,0,none⟩),.string t] w fun e w'=>e=.returned (.tuple #[.int .i64 (d:Int),.int .i64 0])∧Below w.heap.size w w')) (HIB:Hid (∀ w,Below V.heap.size V w→w.heap[rb]?=some (.cells #[.int .i64 (m:Int)] 3 (0,0))→Calls Tryz.prog 73 #[.pointer (some ⟨b,0,none⟩),.agg #[.int .i64 (a:Int),.int .i64 (d:Int)],.pointer (some ⟨rb,0,none⟩)] w fun e w'=>e=.returned (.bool R)∧w'.heap[rb]?=some (.cells #[.int .i64 ((m+n:Nat):Int)] 3 (0,0))∧Below V.heap.size V w')) :
    Calls Tryz.prog 80 #[.pointer (some ⟨b,0,none⟩),.agg #[.int .i64 x,.string s,.int .i64 y,.string t],.pointer (some ⟨rb,0,none⟩)] W fun e w'=>e=.returned (.bool R)∧w'.heap[rb]?=some (.cells #[.int .i64 ((m+n:Nat):Int)] 3 (0,0))∧Below V.heap.size V w':=by
  have HB:Hid (Below V.heap.size V W):=hb
  have HR:Hid (W.heap[rb]?=some (.cells #[.int .i64 (m:Int)] 3 (0,0))):=hrb
  obtain ⟨r0,rf,rl⟩:=rw1 hrb
  have hW0:=hb.size
  have rbW:¬ rb=W.heap.size:=by omega
  have Wrb:¬ W.heap.size=rb:=by omega
  clear hb hrb
  have IX0:=idxT_0 X Y s t
  have IX1:=idxT_1 X Y s t
  go_enter Tryz.func80,Tryz.ntmps80
  go_upto_region 2 with (go_at_call 120;refine (HLW.out _).mono ?_;rintro e w1 ⟨rfl,hb⟩;have eed:=kp4 (n:=W.heap.size) hb (by first|omega|(simp;try omega)) (halloc1 _ _);(try clear eeB ee0 ee1 ee2 ee3 eef eeL eeN);obtain ⟨eeB,ee0,ee1,ee2,ee3,eef,eeL,eeN⟩:=eed;have rrd:=kp1 (n:=rb) hb (by first|omega|(simp;try omega)) (hkeep HR.out);(try clear rrB rr0 rrf rrL rrN);obtain ⟨rrB,rr0,rrf,rrL,rrN⟩:=rrd;have B1:Hid (Below V.heap.size V w1):=bstep (HB.out.alloc HB.out.size _) hb;clear hb HLW)
  have B2:Hid (Below V.heap.size V ((((w1.setCell ⟨W.heap.size,0,none⟩ (.int .i64 X)).setCell ⟨W.heap.size,1,none⟩ (.string s)).setCell ⟨W.heap.size,2,none⟩ (.int .i64 Y)).setCell ⟨W.heap.size,3,none⟩ (.string t))):=(((B1.out.setCell hW0 _).setCell hW0 _).setCell hW0 _).setCell hW0 _
  have E2:Hid (((((w1.setCell ⟨W.heap.size,0,none⟩ (.int .i64 X)).setCell ⟨W.heap.size,1,none⟩ (.string s)).setCell ⟨W.heap.size,2,none⟩ (.int .i64 Y)).setCell ⟨W.heap.size,3,none⟩ (.string t)).heap[W.heap.size]?=some (.cells #[.int .i64 X,.string s,.int .i64 Y,.string t] 128 (0,0))):=bl4 eeB.out _ _ _ _
  have R2:Hid (((((w1.setCell ⟨W.heap.size,0,none⟩ (.int .i64 X)).setCell ⟨W.heap.size,1,none⟩ (.string s)).setCell ⟨W.heap.size,2,none⟩ (.int .i64 Y)).setCell ⟨W.heap.size,3,none⟩ (.string t)).heap[rb]?=some (.cells #[.int .i64 (m:Int)] 3 (0,0))):=keepS rbW (keepS rbW (keepS rbW (keepS rbW rrB.out)))
  generalize ((((w1.setCell ⟨W.heap.size,0,none⟩ (.int .i64 X)).setCell ⟨W.heap.size,1,none⟩ (.string s)).setCell ⟨W.heap.size,2,none⟩ (.int .i64 Y)).setCell ⟨W.heap.size,3,none⟩ (.string t))=U at *
  (try clear eeB ee0 ee1 ee2 ee3 eef eeL eeN rrB rr0 rrf rrL rrN)
  have eeB:=E2
  have rrB:=R2
  obtain ⟨ee0,ee1,ee2,ee3,eef,eeL⟩:=rw4 eeB.out
  obtain ⟨rr0,rrf,rrL⟩:=rw1 rrB.out
  have eeN:¬ W.heap.size=U.heap.size:=by omega
  have rrN:¬ rb=U.heap.size:=by omega
  clear E2 R2 B1
  go_wp2_with (first
    | (go_at_call 121;refine (HIC1.out _ _ _ (by rfl) (by rfl)).mono ?_;rintro e w3 ⟨rfl,hb⟩;have eed:=kp4 (n:=W.heap.size) hb (by first|omega|(simp;try omega)) (eeB.out);(try clear eeB ee0 ee1 ee2 ee3 eef eeL eeN);obtain ⟨eeB,ee0,ee1,ee2,ee3,eef,eeL,eeN⟩:=eed;have rrd:=kp1 (n:=rb) hb (by first|omega|(simp;try omega)) (rrB.out);(try clear rrB rr0 rrf rrL rrN);obtain ⟨rrB,rr0,rrf,rrL,rrN⟩:=rrd;have B3:Hid (Below V.heap.size V w3):=bstep B2.out hb;clear hb HIC1)
    | (go_at_call 121;refine (HIC2.out _ _ _ (by rfl) (by rfl)).mono ?_;rintro e w4 ⟨rfl,hb⟩;have eed:=kp4 (n:=W.heap.size) hb (by first|omega|(simp;try omega)) (eeB.out);(try clear eeB ee0 ee1 ee2 ee3 eef eeL eeN);obtain ⟨eeB,ee0,ee1,ee2,ee3,eef,eeL,eeN⟩:=eed;have rrd:=kp1 (n:=rb) hb (by first|omega|(simp;try omega)) (rrB.out);(try clear rrB rr0 rrf rrL rrN);obtain ⟨rrB,rr0,rrf,rrL,rrN⟩:=rrd;have B4:Hid (Below V.heap.size V w4):=bstep B3.out hb;clear hb HIC2))
  have hw4:=B4.out.size
  have rbI:¬ rb=w4.heap.size:=by omega
  have Irb:¬ w4.heap.size=rb:=by omega
  go_loopw [23] (fun kv wr=>((kv=.int .i64 0∧Hid (wr.heap[w4.heap.size]?=some (.cells #[.int .i64 0,.int .i64 0] 111 (0,0))))∨(kv=.int .i64 1∧Hid (wr.heap[w4.heap.size]?=some (.cells #[.int .i64 (a:Int),.int .i64 0] 111 (0,0))))∨(kv=.int .i64 2∧Hid (wr.heap[w4.heap.size]?=some (.cells #[.int .i64 (a:Int),.int .i64 (d:Int)] 111 (0,0)))))∧Hid (Below V.heap.size V wr)∧Hid (wr.heap[rb]?=some (.cells #[.int .i64 (m:Int)] 3 (0,0)))) (fun kv _=>2 - (intOf kv).toNat)
  case atStart=>exact ⟨.inl ⟨rfl,halloc1 _ _⟩,B4.out.alloc B4.out.size _,hkeep rrB.out⟩
  case round =>
    clear eeB ee0 ee1 ee2 ee3 eef eeL eeN rrB rr0 rrf rrL rrN
    obtain ⟨hk,hB,rrB⟩:=hrel
    obtain ⟨rr0,rrf,rrL⟩:=rw1 rrB.out
    rcases hk with ⟨rfl,iiB⟩|⟨rfl,iiB⟩|⟨rfl,iiB⟩
    · obtain ⟨ii0,ii1,iif,iiL⟩:=rw2 iiB.out
      have iiN:¬ w4.heap.size=wr.heap.size:=by omega
      have rrN:¬ rb=wr.heap.size:=by omega
      go_wp2_with (go_at_call 56;refine (HN1.out _ (hB.out.alloc hB.out.size _)).mono ?_;rintro e w5 ⟨rfl,hb⟩;have iid:=kp2 (n:=w4.heap.size) hb (by first|omega|(simp;try omega)) (hkeep iiB.out);(try clear iiB ii0 ii1 iif iiL iiN);obtain ⟨iiB,ii0,ii1,iif,iiL,iiN⟩:=iid;have rrd:=kp1 (n:=rb) hb (by first|omega|(simp;try omega)) (hkeep rrB.out);(try clear rrB rr0 rrf rrL rrN);obtain ⟨rrB,rr0,rrf,rrL,rrN⟩:=rrd;have B5:Hid (Below V.heap.size V w5):=bstep (hB.out.alloc hB.out.size _) hb;clear hb)
      exact ⟨⟨.inr (.inl ⟨rfl,(dset2 iiB.out _).1⟩),B5.out.setCell hw4 _,keepS rbI rrB.out⟩,by simp [intOf]⟩
    · obtain ⟨ii0,ii1,iif,iiL⟩:=rw2 iiB.out
      have iiN:¬ w4.heap.size=wr.heap.size:=by omega
      have rrN:¬ rb=wr.heap.size:=by omega
      go_wp2_with (go_at_call 56;refine (HN2.out _ (hB.out.alloc hB.out.size _)).mono ?_;rintro e w5 ⟨rfl,hb⟩;have iid:=kp2 (n:=w4.heap.size) hb (by first|omega|(simp;try omega)) (hkeep iiB.out);(try clear iiB ii0 ii1 iif iiL iiN);obtain ⟨iiB,ii0,ii1,iif,iiL,iiN⟩:=iid;have rrd:=kp1 (n:=rb) hb (by first|omega|(simp;try omega)) (hkeep rrB.out);(try clear rrB rr0 rrf rrL rrN);obtain ⟨rrB,rr0,rrf,rrL,rrN⟩:=rrd;have B5:Hid (Below V.heap.size V w5):=bstep (hB.out.alloc hB.out.size _) hb;clear hb)
      exact ⟨⟨.inr (.inr ⟨rfl,(dset2 iiB.out _).2⟩),B5.out.setCell hw4 _,keepS rbI rrB.out⟩,by simp [intOf]⟩
    · obtain ⟨ii0,ii1,iif,iiL⟩:=rw2 iiB.out
      go_wp2_with (go_at_call 73;refine (HIB.out _ hB.out rrB.out).mono ?_;rintro e w6 ⟨rfl,hk,hb⟩;have R6:Hid (w6.heap[rb]?=some (.cells #[.int .i64 ((m+n:Nat):Int)] 3 (0,0))):=hk;have B6:Hid (Below V.heap.size V w6):=hb;clear hb hk HIB)
      exact bodyPost_ret (results_tmp rfl _ _ _) rfl ⟨rfl,R6.out,B6.out⟩
def rdT (ps:List Plc) (x:Int) (s:ByteArray) (y:Int) (t:ByteArray):Nat:=if x=y∧s.toList.isEmpty=false∧t.toList.isEmpty=false then match lookL ps s.data.toList,lookL ps t.data.toList with
    | some a,some d=>rdN ps a d
    | _,_=>1 else 1
theorem ld_low {ps:List Plc} {x X:Int} {s:ByteArray} (h:ldI ps x s=0) (h0:0≤X) (h1:X≤x):ldI ps X s=0:=by
  obtain ⟨_,h2,_⟩:=ld_facts h
  unfold ldI at h ⊢
  have e:sndB X s.data.toList=sndB x s.data.toList:=by
    unfold sndB
    congr 1
    rw [decide_eq_true h0,decide_eq_true (show X≤255 by omega),decide_eq_true (show 0≤x by omega),decide_eq_true h2]
  rw [e];exact h
theorem itb_c {b:Nat} {ps:List Plc} {V W:World} (h:WAt b ps V) (hW:WI ps) (rb m:Nat) (x y:Int) (s t:ByteArray) (hs:s.size≤maxLen) (ht:t.size≤maxLen) (h1:ldI ps x s=0) (h2:ldI ps y t=0) (hb:Below V.heap.size V W) (hr:V.heap.size≤rb) (hrb:W.heap[rb]?=some (.cells #[.int .i64 (m:Int)] 3 (0,0))) (hm:m≤1000000) :
    Calls Tryz.prog 80 #[.pointer (some ⟨b,0,none⟩),.agg #[.int .i64 x,.string s,.int .i64 y,.string t],.pointer (some ⟨rb,0,none⟩)] W fun e w'=>e=.returned (.bool (subB ps x s y t))∧w'.heap[rb]?=some (.cells #[.int .i64 ((m+rdT ps x s y t:Nat):Int)] 3 (0,0))∧Below V.heap.size V w':=by
  obtain ⟨x0,x1,xk⟩:=ld_facts h1
  obtain ⟨y0,y1,yk⟩:=ld_facts h2
  obtain ⟨d1,rfl⟩:∃ d1:Nat,x=(d1:Int):=⟨x.toNat,by omega⟩
  obtain ⟨d2,rfl⟩:∃ d2:Nat,y=(d2:Int):=⟨y.toNat,by omega⟩
  obtain ⟨c,hc⟩:∃ c,min d1 d2=c:=⟨_,rfl⟩
  have HLW:=low_c d1 d2 c s t hc (by omega) (by omega)
  have HIC1:∀ z u w,z=(d1:Int) - (c:Int)→u=s→Calls Tryz.prog 121 #[.agg #[.int .i64 z,.string u]] w fun e w'=>e=.returned (.bool (decide ((d1:Int) - (c:Int)=0)&&!s.toList.isEmpty))∧Below w.heap.size w w':=fun z u w hz hu=>by rw [hz,hu];exact ict_c _ _ w
  have HIC2:∀ z u w,z=(d2:Int) - (c:Int)→u=t→Calls Tryz.prog 121 #[.agg #[.int .i64 z,.string u]] w fun e w'=>e=.returned (.bool (decide ((d2:Int) - (c:Int)=0)&&!t.toList.isEmpty))∧Below w.heap.size w w':=fun z u w hz hu=>by rw [hz,hu];exact ict_c _ _ w
  have HSB:∀ w,Below V.heap.size V w→Calls Tryz.prog 23 #[.pointer (some ⟨b,0,none⟩),.agg #[.int .i64 ((d1:Int) - (c:Int)),.string s],.agg #[.int .i64 ((d2:Int) - (c:Int)),.string t]] w fun e w'=>e=.returned (.tuple #[.bool (subB ps d1 s d2 t),.int .i64 0])∧Below w.heap.size w w':=fun w hb=>by
    have hq:=sub_c (h.below hb) hW ((d1:Int) - (c:Int)) s ((d2:Int) - (c:Int)) t hs ht
    rw [suI,if_pos (ld_low h1 (by omega) (by omega)),if_pos (ld_low h2 (by omega) (by omega))] at hq
    have e:subB ps ((d1:Int) - (c:Int)) s ((d2:Int) - (c:Int)) t=subB ps d1 s d2 t:=by
      unfold subB
      congr 1 <;> omega
    rw [e] at hq
    exact hq
  have hno:¬ ((d1:Int)=(d2:Int)∧s.toList.isEmpty=false∧t.toList.isEmpty=false)→rdT ps d1 s d2 t=1:=fun hn=>by rw [rdT,if_neg hn]
  cases e1:(decide ((d1:Int) - (c:Int)=0)&&!s.toList.isEmpty) with
  | false =>
    rw [e1] at HIC1
    have e0:rdT ps d1 s d2 t=1:=hno (fun hn=>by
      rw [hn.2.1,decide_eq_true (show (d1:Int) - (c:Int)=0 by omega)] at e1
      cases e1)
    rw [e0]
    exact itb_1 V W b rb m d1 d2 _ _ s t hb hr hrb hm HLW _ HIC1 HSB
  | true =>
    rw [e1] at HIC1
    cases e2:(decide ((d2:Int) - (c:Int)=0)&&!t.toList.isEmpty) with
    | false =>
      rw [e2] at HIC2
      have e0:rdT ps d1 s d2 t=1:=hno (fun hn=>by
        rw [hn.2.2,decide_eq_true (show (d2:Int) - (c:Int)=0 by omega)] at e2
        cases e2)
      rw [e0]
      exact itb_2 V W b rb m d1 d2 _ _ s t hb hr hrb hm HLW _ HIC1 HIC2 HSB
    | true =>
      rw [e2] at HIC2
      rw [Bool.and_eq_true,decide_eq_true_eq,Bool.not_eq_true'] at e1 e2
      obtain ⟨a,ha⟩:=xk e1.2
      obtain ⟨d,hd⟩:=yk e2.2
      obtain ⟨qa,hqa,_⟩:=look_place ha
      obtain ⟨qd,hqd,_⟩:=look_place hd
      have e0:rdT ps d1 s d2 t=rdN ps a d:=by rw [rdT,if_pos ⟨by omega,e1.2,e2.2⟩,ha,hd]
      have e3:subB ps d1 s d2 t=extI ps (a:Int) (d:Int):=by
        unfold subB
        rw [show (d1:Int).toNat - min (d1:Int).toNat (d2:Int).toNat=0 by omega,show (d2:Int).toNat - min (d1:Int).toNat (d2:Int).toNat=0 by omega,belB,intB,intB,e1.2,e2.2,ha,hd,extI,plcI_nat,plcI_nat,hqa,hqd]
        simp
      rw [e0,e3]
      exact itb_3 V W b rb m d1 d2 _ _ s t hb hrb HLW _ _ a d HIC1 HIC2 (fun w hb=>(byName_c (h.below hb) s hs).mono fun e w' zz=>⟨by rw [zz.1,ha];rfl,zz.2⟩) (fun w hb=>(byName_c (h.below hb) t ht).mono fun e w' zz=>⟨by rw [zz.1,hd];rfl,zz.2⟩) (fun w hb hk=>icb_c h hW rb m a d qa qd hqa hqd hb hr hk hm)
end Go.Proofs.YtkclpcmkplbclaaGreat
