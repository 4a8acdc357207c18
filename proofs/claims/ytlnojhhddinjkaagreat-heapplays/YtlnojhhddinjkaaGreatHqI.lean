import Derived.Test.YtlnojhhddinjkaaGreatArB
set_option maxHeartbeats 4000000
set_option maxRecDepth 100000
namespace Go.Proofs.YtlnojhhddinjkaaGreat
open Go.RowKit Go.Maps
def belB (ps:List Plc) (a:Nat) (s:ByteArray) (b:Nat) (t:ByteArray):Bool :=
 if intB (a:Int) s||intB (b:Int) t then ((a:Int) == (b:Int))&&(s.toList == t.toList)
 else if 0<b then false else if 0<a then abv3.contains t.data.toList
 else match Zn ps s.data.toList,Zn ps t.data.toList with
  | some x,some y=>extB (ps.map nd) x y
  | _,_=>false
theorem Ziy {b:Nat} {ps:List Plc} {W:World} (h:WAt b ps W) (hi:WI ps) (da db M:Nat) (s t:ByteArray) (hs:s.size≤maxLen) (ht:t.size≤maxLen) (hab:da=0∨db=0) (hbg:da+M≤255∧db+M≤255) (hld:s.toList.isEmpty=false→∃ x,Zn ps s.data.toList=some x) (hlt:t.toList.isEmpty=false→∃ x,Zn ps t.data.toList=some x) :
 Calls Tryz.prog 141 #[.pointer (some ⟨b,0,none⟩),.agg #[.int .i64 ((da+M:Nat):Int),.string s],.agg #[.int .i64 ((db+M:Nat):Int),.string t]] W fun e w'=>e=.returned (.bool (belB ps da s db t))∧Bw W w':=by
 have HI:Hid (∀ d u y w,intB d u=y→Calls Tryz.prog 164 #[.agg #[.int .i64 d,.string u]] w fun e w'=>e=.returned (.bool y)∧Bw w w'):=fun d u y w hy=>by rw [← hy];exact isInt_c d u w
 have H3:Hid (∀ w:World,Calls Tryz.prog 165 #[] w fun e w'=>(∃ v,e=.returned v∧IsStrs w' v abv3)∧Bw w w'):=above3_c
 have HCo:Hid (∀ v w,IsStrs w v abv3→Calls Tryz.prog 123 #[v,.string t] w fun e w'=>e=.returned (.bool (abv3.contains t.data.toList))∧Bw w w'):=fun v w hv=>Ji v abv3 t.data.toList w hv
 have HX:Hid (∀ x y,Zn ps s.data.toList=some x→Zn ps t.data.toList=some y→∀ w,Bw W w→Calls Tryz.prog 166 #[.pointer (some ⟨b,0,none⟩),.string s,.string t] w fun e w'=>e=.returned (.bool (extB (ps.map nd) x y))∧Bw w w'):=fun x y hx hy w hb=>aExt_c (h.below hb) hi s t hs ht x y hx hy
 obtain ⟨R,hR⟩:∃ R,belB ps da s db t=R:=⟨_,rfl⟩
 have HR:Hid (belB ps da s db t=R):=hR
 rw [hR]
 have HLD:Hid _:=hld
 have HLT:Hid _:=hlt
 clear hR h hi hs ht hld hlt
 go_enter Tryz.func141,Tryz.ntmps141
 go_wp2
 go_loopg [] M (fun k wr=>k≤M∧Hid (wr.heap[W.heap.size]?=some (.cells #[.int .i64 ((da+k:Nat):Int),.string s] 40 (0,0)))∧Hid (wr.heap[W.heap.size+1]?=some (.cells #[.int .i64 ((db+k:Nat):Int),.string t] 40 (0,0)))∧Hid (Bw W wr))
 case atStart=>exact ⟨Nat.le_refl _,heap_alloc2_old W _ _,heap_alloc2_new W _ _,sqR⟩
 case round =>
  obtain ⟨hkM,hA,hB,hb⟩:=hrel
  have hsA:W.heap.size<wr.heap.size:=(Array.getElem?_eq_some_iff.1 hA.out).1
  have hsB:W.heap.size+1<wr.heap.size:=(Array.getElem?_eq_some_iff.1 hB.out).1
  have a0:=cell_of_row wr W.heap.size 0 _ _ _ hA.out
  have fa0:=frozen_of_row wr W.heap.size 0 _ _ hA.out
  have a1:=cell_of_row wr W.heap.size 1 _ _ _ hA.out
  have b0:=cell_of_row wr (W.heap.size+1) 0 _ _ _ hB.out
  have fb0:=frozen_of_row wr (W.heap.size+1) 0 _ _ hB.out
  have b1:=cell_of_row wr (W.heap.size+1) 1 _ _ _ hB.out
  simp only [List.getElem?_toArray,List.getElem?_cons_zero,List.getElem?_cons_succ] at a0 a1 b0 b1
  cases gk with
  | succ k =>
    have h1:(0:Int)<((da+(k+1):Nat):Int):=by omega
    have h2:(0:Int)<((db+(k+1):Nat):Int):=by omega
    go_wp2
    go_roundg k
    case rel =>
     have ea:((da:Int)+((k:Int)+1) - 1)=((da+k:Nat):Int):=by omega
     have eb:((db:Int)+((k:Int)+1) - 1)=((db+k:Nat):Int):=by omega
     rw [ea,eb]
     refine ⟨by omega,?_,?_,?_⟩
     ·rw [Hid,heap_setCell_other _ _ _ _ (by simp),heap_setCell_same _ _ _ _ _ _ hA.out];rfl
     ·rw [Hid,heap_setCell_same _ _ _ #[.int .i64 ((db+(k+1):Nat):Int),.string t] 40 _ (by rw [heap_setCell_other _ _ _ _ (by simp)];exact hB.out)];rfl
     ·exact (hb.out.setCell (by simp) _).setCell (by simp) _
    case measure=>omega
  | zero =>
    simp only [Nat.add_zero] at a0 b0
    have hN:¬ ((0:Int)<(da:Int)∧(0:Int)<(db:Int)):=by omega
    clear hA hB fa0 fb0
    obtain ⟨i1,hi1⟩:∃ x,intB (da:Int) s=x:=⟨_,rfl⟩
    obtain ⟨i2,hi2⟩:∃ x,intB (db:Int) t=x:=⟨_,rfl⟩
    unfold belB at HR
    rw [hi1,hi2] at HR
    have E1:Hid _:=hi1
    have E2:Hid _:=hi2
    clear hi1 hi2
    have BB:Hid (Bw W wr):=hb
    clear hb
    cases i1 with
    | true =>
      simp only [Bool.true_or,if_true] at HR
      clear HX HLD HLT hab hbg hkM
      generalize (da:Int)=xa at *
      generalize (db:Int)=xb at *
      go_wp2_with (first
       | (go_at_call 164;refine (HI.out _ _ _ _ (by first|exact E1.out|exact E2.out)).mono ?_;rintro e w1 ⟨rfl,hb1⟩;have BB2:Bw W w1:=Za BB.out hb1;replace a0:=(hb1.cell (p:=⟨W.heap.size,0,none⟩) hsA).trans a0;replace a1:=(hb1.cell (p:=⟨W.heap.size,1,none⟩) hsA).trans a1;replace b0:=(hb1.cell (p:=⟨W.heap.size+1,0,none⟩) hsB).trans b0;replace b1:=(hb1.cell (p:=⟨W.heap.size+1,1,none⟩) hsB).trans b1;replace hsA:=Nat.lt_of_lt_of_le hsA hb1.size;replace hsB:=Nat.lt_of_lt_of_le hsB hb1.size;clear BB;have BB:Hid (Bw W w1):=BB2;clear hb1 BB2)
       | (go_at_call 165;refine (H3.out _).mono ?_;rintro e w1 ⟨⟨vv,rfl,hv⟩,hb1⟩;have HV:Hid (IsStrs w1 vv abv3):=hv;have BB2:Bw W w1:=Za BB.out hb1;replace b1:=(hb1.cell (p:=⟨W.heap.size+1,1,none⟩) hsB).trans b1;clear BB;have BB:Hid (Bw W w1):=BB2;clear hb1 BB2 hv)
       | (go_at_call 123;refine (HCo.out _ _ HV.out).mono ?_;rintro e w2 ⟨rfl,hb1⟩;have BB2:Bw W w2:=Za BB.out hb1;clear BB;have BB:Hid (Bw W w2):=BB2;clear hb1 BB2)
       | (go_at_call 166;refine (HX.out _ BB.out).mono ?_;rintro e w2 ⟨rfl,hb1⟩;have BB2:Bw W w2:=Za BB.out hb1;clear BB;have BB:Hid (Bw W w2):=BB2;clear hb1 BB2))
      all_goals go_ret
      all_goals exact ⟨retB (by rw [← HR.out];first|(simp [*];done)|(simp [*];intro h;exfalso;omega)),BB.out⟩
    | false =>
      cases i2 with
      | true =>
        simp only [Bool.or_true,if_true] at HR
        clear HX HLD HLT hab hbg hkM
        generalize (da:Int)=xa at *
        generalize (db:Int)=xb at *
        go_wp2_with (first
         | (go_at_call 164;refine (HI.out _ _ _ _ (by first|exact E1.out|exact E2.out)).mono ?_;rintro e w1 ⟨rfl,hb1⟩;have BB2:Bw W w1:=Za BB.out hb1;replace a0:=(hb1.cell (p:=⟨W.heap.size,0,none⟩) hsA).trans a0;replace a1:=(hb1.cell (p:=⟨W.heap.size,1,none⟩) hsA).trans a1;replace b0:=(hb1.cell (p:=⟨W.heap.size+1,0,none⟩) hsB).trans b0;replace b1:=(hb1.cell (p:=⟨W.heap.size+1,1,none⟩) hsB).trans b1;replace hsA:=Nat.lt_of_lt_of_le hsA hb1.size;replace hsB:=Nat.lt_of_lt_of_le hsB hb1.size;clear BB;have BB:Hid (Bw W w1):=BB2;clear hb1 BB2)
         | (go_at_call 165;refine (H3.out _).mono ?_;rintro e w1 ⟨⟨vv,rfl,hv⟩,hb1⟩;have HV:Hid (IsStrs w1 vv abv3):=hv;have BB2:Bw W w1:=Za BB.out hb1;replace b1:=(hb1.cell (p:=⟨W.heap.size+1,1,none⟩) hsB).trans b1;clear BB;have BB:Hid (Bw W w1):=BB2;clear hb1 BB2 hv)
         | (go_at_call 123;refine (HCo.out _ _ HV.out).mono ?_;rintro e w2 ⟨rfl,hb1⟩;have BB2:Bw W w2:=Za BB.out hb1;clear BB;have BB:Hid (Bw W w2):=BB2;clear hb1 BB2)
         | (go_at_call 166;refine (HX.out _ BB.out).mono ?_;rintro e w2 ⟨rfl,hb1⟩;have BB2:Bw W w2:=Za BB.out hb1;clear BB;have BB:Hid (Bw W w2):=BB2;clear hb1 BB2))
        all_goals go_ret
        all_goals exact ⟨retB (by rw [← HR.out];first|(simp [*];done)|(simp [*];intro h;exfalso;omega)),BB.out⟩
      | false =>
        simp only [Bool.or_false,Bool.false_eq_true,if_false] at HR
        by_cases hdb:0<db
        ·rw [if_pos hdb] at HR
         have hdb2:(0:Int)<(db:Int):=by omega
         clear HX HLD HLT
         go_wp2_with (first
          | (go_at_call 164;refine (HI.out _ _ _ _ (by first|exact E1.out|exact E2.out)).mono ?_;rintro e w1 ⟨rfl,hb1⟩;have BB2:Bw W w1:=Za BB.out hb1;replace a0:=(hb1.cell (p:=⟨W.heap.size,0,none⟩) hsA).trans a0;replace a1:=(hb1.cell (p:=⟨W.heap.size,1,none⟩) hsA).trans a1;replace b0:=(hb1.cell (p:=⟨W.heap.size+1,0,none⟩) hsB).trans b0;replace b1:=(hb1.cell (p:=⟨W.heap.size+1,1,none⟩) hsB).trans b1;replace hsA:=Nat.lt_of_lt_of_le hsA hb1.size;replace hsB:=Nat.lt_of_lt_of_le hsB hb1.size;clear BB;have BB:Hid (Bw W w1):=BB2;clear hb1 BB2)
          | (go_at_call 165;refine (H3.out _).mono ?_;rintro e w1 ⟨⟨vv,rfl,hv⟩,hb1⟩;have HV:Hid (IsStrs w1 vv abv3):=hv;have BB2:Bw W w1:=Za BB.out hb1;replace b1:=(hb1.cell (p:=⟨W.heap.size+1,1,none⟩) hsB).trans b1;clear BB;have BB:Hid (Bw W w1):=BB2;clear hb1 BB2 hv)
          | (go_at_call 123;refine (HCo.out _ _ HV.out).mono ?_;rintro e w2 ⟨rfl,hb1⟩;have BB2:Bw W w2:=Za BB.out hb1;clear BB;have BB:Hid (Bw W w2):=BB2;clear hb1 BB2)
          | (go_at_call 166;refine (HX.out _ BB.out).mono ?_;rintro e w2 ⟨rfl,hb1⟩;have BB2:Bw W w2:=Za BB.out hb1;clear BB;have BB:Hid (Bw W w2):=BB2;clear hb1 BB2))
         all_goals go_ret
         all_goals exact ⟨retB HR.out,BB.out⟩
        ·rw [if_neg hdb] at HR
         have hdb2:¬ (0:Int)<(db:Int):=by omega
         by_cases hda:0<da
         ·rw [if_pos hda] at HR
          generalize abv3.contains t.data.toList=ct at *
          have hda2:(0:Int)<(da:Int):=by omega
          clear HX HLD HLT
          go_wp2_with (first
           | (go_at_call 164;refine (HI.out _ _ _ _ (by first|exact E1.out|exact E2.out)).mono ?_;rintro e w1 ⟨rfl,hb1⟩;have BB2:Bw W w1:=Za BB.out hb1;replace a0:=(hb1.cell (p:=⟨W.heap.size,0,none⟩) hsA).trans a0;replace a1:=(hb1.cell (p:=⟨W.heap.size,1,none⟩) hsA).trans a1;replace b0:=(hb1.cell (p:=⟨W.heap.size+1,0,none⟩) hsB).trans b0;replace b1:=(hb1.cell (p:=⟨W.heap.size+1,1,none⟩) hsB).trans b1;replace hsA:=Nat.lt_of_lt_of_le hsA hb1.size;replace hsB:=Nat.lt_of_lt_of_le hsB hb1.size;clear BB;have BB:Hid (Bw W w1):=BB2;clear hb1 BB2)
           | (go_at_call 165;refine (H3.out _).mono ?_;rintro e w1 ⟨⟨vv,rfl,hv⟩,hb1⟩;have HV:Hid (IsStrs w1 vv abv3):=hv;have BB2:Bw W w1:=Za BB.out hb1;replace b1:=(hb1.cell (p:=⟨W.heap.size+1,1,none⟩) hsB).trans b1;clear BB;have BB:Hid (Bw W w1):=BB2;clear hb1 BB2 hv)
           | (go_at_call 123;refine (HCo.out _ _ HV.out).mono ?_;rintro e w2 ⟨rfl,hb1⟩;have BB2:Bw W w2:=Za BB.out hb1;clear BB;have BB:Hid (Bw W w2):=BB2;clear hb1 BB2)
           | (go_at_call 166;refine (HX.out _ BB.out).mono ?_;rintro e w2 ⟨rfl,hb1⟩;have BB2:Bw W w2:=Za BB.out hb1;clear BB;have BB:Hid (Bw W w2):=BB2;clear hb1 BB2))
          go_region_held3 (fun w'=>w'.cell? ⟨W.heap.size+1,1,none⟩=some (.string t)) (go_keep) (first
           | (go_at_call 165;refine (H3.out _).mono ?_;rintro e w3 ⟨⟨vv,rfl,hv⟩,hb1⟩;have HV:Hid (IsStrs w3 vv abv3):=hv;obtain ⟨ao,cap,rfl,_,_,_⟩:=hv;have BB2:Bw W w3:=Za BB.out.drew hb1;replace b1:w3.cell? ⟨W.heap.size+1,1,none⟩=some (.string t):=(hb1.cell (p:=⟨W.heap.size+1,1,none⟩) hsB).trans b1;clear BB;have BB:Hid (Bw W w3):=BB2;clear hb1 BB2 H3)
           | (go_at_call 123;refine (HCo.out _ _ HV.out).mono ?_;rintro e w4 ⟨rfl,hb1⟩;have BB2:Bw W w4:=Za BB.out hb1;replace b1:w4.cell? ⟨W.heap.size+1,1,none⟩=some (.string t):=(hb1.cell (p:=⟨W.heap.size+1,1,none⟩) (World.block_lt_of_cell? _ _ b1)).trans b1;clear BB;have BB:Hid (Bw W w4):=BB2;clear hb1 BB2 HCo))
          go_wp2
          all_goals go_ret
          all_goals exact ⟨retB HR.out,BB.out⟩
         ·rw [if_neg hda] at HR
          have hda2:¬ (0:Int)<(da:Int):=by omega
          have hes:s.toList.isEmpty=false:=by
           have:=E1.out
           unfold intB at this
           rw [show (da:Int)=0 by omega] at this
           simpa using this
          have het:t.toList.isEmpty=false:=by
           have:=E2.out
           unfold intB at this
           rw [show (db:Int)=0 by omega] at this
           simpa using this
          obtain ⟨x,hx⟩:=HLD.out hes
          obtain ⟨y,hy⟩:=HLT.out het
          rw [hx,hy] at HR
          simp only at HR
          have HX:Hid _:=HX.out x y hx hy
          clear HLD HLT hes het hx hy
          go_wp2_with (first
           | (go_at_call 164;refine (HI.out _ _ _ _ (by first|exact E1.out|exact E2.out)).mono ?_;rintro e w1 ⟨rfl,hb1⟩;have BB2:Bw W w1:=Za BB.out hb1;replace a0:=(hb1.cell (p:=⟨W.heap.size,0,none⟩) hsA).trans a0;replace a1:=(hb1.cell (p:=⟨W.heap.size,1,none⟩) hsA).trans a1;replace b0:=(hb1.cell (p:=⟨W.heap.size+1,0,none⟩) hsB).trans b0;replace b1:=(hb1.cell (p:=⟨W.heap.size+1,1,none⟩) hsB).trans b1;replace hsA:=Nat.lt_of_lt_of_le hsA hb1.size;replace hsB:=Nat.lt_of_lt_of_le hsB hb1.size;clear BB;have BB:Hid (Bw W w1):=BB2;clear hb1 BB2)
           | (go_at_call 165;refine (H3.out _).mono ?_;rintro e w1 ⟨⟨vv,rfl,hv⟩,hb1⟩;have HV:Hid (IsStrs w1 vv abv3):=hv;have BB2:Bw W w1:=Za BB.out hb1;replace b1:=(hb1.cell (p:=⟨W.heap.size+1,1,none⟩) hsB).trans b1;clear BB;have BB:Hid (Bw W w1):=BB2;clear hb1 BB2 hv)
           | (go_at_call 123;refine (HCo.out _ _ HV.out).mono ?_;rintro e w2 ⟨rfl,hb1⟩;have BB2:Bw W w2:=Za BB.out hb1;clear BB;have BB:Hid (Bw W w2):=BB2;clear hb1 BB2)
           | (go_at_call 166;refine (HX.out _ BB.out).mono ?_;rintro e w2 ⟨rfl,hb1⟩;have BB2:Bw W w2:=Za BB.out hb1;clear BB;have BB:Hid (Bw W w2):=BB2;clear hb1 BB2))
          all_goals go_ret
          all_goals exact ⟨retB HR.out,BB.out⟩
def subB (ps:List Plc) (x:Int) (s:ByteArray) (y:Int) (t:ByteArray):Bool:=belB ps (x.toNat - min x.toNat y.toNat) s (y.toNat - min x.toNat y.toNat) t
def suI (ps:List Plc) (x:Int) (s:ByteArray) (y:Int) (t:ByteArray):Value :=
 if ldI ps x s=0 then (if ldI ps y t=0 then .tuple #[.bool (subB ps x s y t),.int .i64 0] else .tuple #[.bool false,.int .i64 (ldI ps y t)]) else .tuple #[.bool false,.int .i64 (ldI ps x s)]
theorem Qn {ps:List Plc} {x:Int} {s:ByteArray} (h:ldI ps x s=0):0≤x∧x≤255∧(s.toList.isEmpty=false→∃ k,Zn ps s.data.toList=some k):=by
 unfold ldI at h
 cases hs:sndB x s.data.toList with
 | false=>rw [hs] at h;revert h;simp
 | true =>
   rw [hs] at h
   have hs2:=hs
   unfold sndB at hs2
   simp only [Bool.and_eq_true,decide_eq_true_eq] at hs2
   refine ⟨hs2.1.1,hs2.1.2,fun he=>?_⟩
   rw [he] at h
   cases hl:Zn ps s.data.toList with
   | some k=>exact ⟨k,rfl⟩
   | none=>rw [hl] at h;revert h;simp
theorem sub_c {b:Nat} {ps:List Plc} {W:World} (h:WAt b ps W) (hi:WI ps) (x:Int) (s:ByteArray) (y:Int) (t:ByteArray) (hs:s.size≤maxLen) (ht:t.size≤maxLen):Calls Tryz.prog 119 #[.pointer (some ⟨b,0,none⟩),.agg #[.int .i64 x,.string s],.agg #[.int .i64 y,.string t]] W fun e w'=>e=.returned (suI ps x s y t)∧Bw W w':=by
 have HL:Hid (∀ z u r w,Bw W w→u.size≤maxLen→ldI ps z u=r→Calls Tryz.prog 72 #[.pointer (some ⟨b,0,none⟩),.agg #[.int .i64 z,.string u]] w fun e w'=>e=.returned (.int .i64 r)∧Bw w w'):=fun z u r w hb hu hr=>by rw [← hr];exact Zc9 (h.below hb) z u hu
 have HL1:Hid (∀ z u w,Bw W w→z=x→u=s→Calls Tryz.prog 72 #[.pointer (some ⟨b,0,none⟩),.agg #[.int .i64 z,.string u]] w fun e w'=>e=.returned (.int .i64 (ldI ps x s))∧Bw w w'):=fun z u w hb hz hu=>by rw [hz,hu];exact HL.out x s _ w hb hs rfl
 have HL2:Hid (∀ z u w,Bw W w→z=y→u=t→Calls Tryz.prog 72 #[.pointer (some ⟨b,0,none⟩),.agg #[.int .i64 z,.string u]] w fun e w'=>e=.returned (.int .i64 (ldI ps y t))∧Bw w w'):=fun z u w hb hz hu=>by rw [hz,hu];exact HL.out y t _ w hb ht rfl
 clear HL
 have tl:∀ (w1:World) (o1 o2:Obj),Below ((W.alloc o1).alloc o2).heap.size ((W.alloc o1).alloc o2) w1→True:=fun _ _ _ _=>trivial
 clear tl
 by_cases h1:ldI ps x s=0
 ·by_cases h2:ldI ps y t=0
  ·have e:suI ps x s y t=.tuple #[.bool (subB ps x s y t),.int .i64 0]:=by rw [suI,if_pos h1,if_pos h2]
   rw [e]
   obtain ⟨x0,x1,xk⟩:=Qn h1
   obtain ⟨y0,y1,yk⟩:=Qn h2
   have HB:Hid (∀ w,Bw W w→Calls Tryz.prog 141 #[.pointer (some ⟨b,0,none⟩),.agg #[.int .i64 x,.string s],.agg #[.int .i64 y,.string t]] w fun e w'=>e=.returned (.bool (subB ps x s y t))∧Bw w w'):=fun w hb=>by
    have hq:=Ziy (h.below hb) hi (x.toNat - min x.toNat y.toNat) (y.toNat - min x.toNat y.toNat) (min x.toNat y.toNat) s t hs ht (by omega) (by omega) xk yk
    rw [show ((x.toNat - min x.toNat y.toNat+min x.toNat y.toNat:Nat):Int)=x by omega,show ((y.toNat - min x.toNat y.toNat+min x.toNat y.toNat:Nat):Int)=y by omega] at hq
    exact hq
   rw [h1] at HL1
   rw [h2] at HL2
   generalize subB ps x s y t=R at *
   clear h hi hs ht h1 h2 e x0 x1 xk y0 y1 yk
   go_enter Tryz.func119,Tryz.ntmps119
   go_wp2_with (first
    | (go_at_call 72;refine (HL1.out _ _ _ sqR (by rfl) (by rfl)).mono ?_;rintro e w1 ⟨rfl,hb⟩;have hA:=(hb.block W.heap.size (by simp;omega)).trans (heap_alloc2_old W _ _);have hB:=(hb.block (W.heap.size+1) (by simp)).trans (heap_alloc2_new W _ _);have hsA:W.heap.size<w1.heap.size:=(Array.getElem?_eq_some_iff.1 hA).1;have hsB:W.heap.size+1<w1.heap.size:=(Array.getElem?_eq_some_iff.1 hB).1;have a0:=cell_of_row w1 W.heap.size 0 _ _ _ hA;have a1:=cell_of_row w1 W.heap.size 1 _ _ _ hA;have b0:=cell_of_row w1 (W.heap.size+1) 0 _ _ _ hB;have b1:=cell_of_row w1 (W.heap.size+1) 1 _ _ _ hB;simp only [List.getElem?_toArray,List.getElem?_cons_zero,List.getElem?_cons_succ] at a0 a1 b0 b1;have BB:Hid (Bw W w1):=Za sqR hb;clear hb HL1 hA hB)
    | (go_at_call 72;refine (HL2.out _ _ _ BB.out (by rfl) (by rfl)).mono ?_;rintro e w2 ⟨rfl,hb⟩;replace a0:=(hb.cell (p:=⟨W.heap.size,0,none⟩) hsA).trans a0;replace a1:=(hb.cell (p:=⟨W.heap.size,1,none⟩) hsA).trans a1;replace b0:=(hb.cell (p:=⟨W.heap.size+1,0,none⟩) hsB).trans b0;replace b1:=(hb.cell (p:=⟨W.heap.size+1,1,none⟩) hsB).trans b1;have BB2:Bw W w2:=Za BB.out hb;clear BB;have BB:Hid (Bw W w2):=BB2;clear hb BB2 HL2)
    | (go_at_call 141;refine (HB.out _ BB.out).mono ?_;rintro e w3 ⟨rfl,hb⟩;have BB2:Bw W w3:=Za BB.out hb;clear BB;have BB:Hid (Bw W w3):=BB2;clear hb BB2 HB))
   exact bodyPost_ret (results_tmp2 rfl _ _ _) rfl ⟨rfl,BB.out⟩
  ·have e:suI ps x s y t=.tuple #[.bool false,.int .i64 (ldI ps y t)]:=by rw [suI,if_pos h1,if_neg h2]
   rw [e]
   rw [h1] at HL1
   generalize ldI ps y t=R at *
   clear h hi hs ht h1 e
   go_enter Tryz.func119,Tryz.ntmps119
   go_wp2_with (first
    | (go_at_call 72;refine (HL1.out _ _ _ sqR (by rfl) (by rfl)).mono ?_;rintro e w1 ⟨rfl,hb⟩;have hA:=(hb.block W.heap.size (by simp;omega)).trans (heap_alloc2_old W _ _);have hB:=(hb.block (W.heap.size+1) (by simp)).trans (heap_alloc2_new W _ _);have a0:=cell_of_row w1 W.heap.size 0 _ _ _ hA;have a1:=cell_of_row w1 W.heap.size 1 _ _ _ hA;have b0:=cell_of_row w1 (W.heap.size+1) 0 _ _ _ hB;have b1:=cell_of_row w1 (W.heap.size+1) 1 _ _ _ hB;simp only [List.getElem?_toArray,List.getElem?_cons_zero,List.getElem?_cons_succ] at a0 a1 b0 b1;have BB:Hid (Bw W w1):=Za sqR hb;clear hb HL1 hA hB)
    | (go_at_call 72;refine (HL2.out _ _ _ BB.out (by rfl) (by rfl)).mono ?_;rintro e w2 ⟨rfl,hb⟩;have BB2:Bw W w2:=Za BB.out hb;clear BB;have BB:Hid (Bw W w2):=BB2;clear hb BB2 HL2))
   exact bodyPost_ret (results_tmp2 rfl _ _ _) rfl ⟨rfl,BB.out⟩
 ·have e:suI ps x s y t=.tuple #[.bool false,.int .i64 (ldI ps x s)]:=by rw [suI,if_neg h1]
  rw [e]
  generalize ldI ps x s=R at *
  clear h hi hs ht e
  go_enter Tryz.func119,Tryz.ntmps119
  go_wp2_with (first
   | (go_at_call 72;refine (HL1.out _ _ _ sqR (by rfl) (by rfl)).mono ?_;rintro e w1 ⟨rfl,hb⟩;have BB:Hid (Bw W w1):=Za sqR hb;clear hb HL1))
  exact bodyPost_ret (results_tmp2 rfl _ _ _) rfl ⟨rfl,BB.out⟩
def filE (os:List Ob) (xs:List Int):Int:=if negB xs then 30 else if rmB os (xs.map Int.toNat) then 0 else 32
def filN (os:List Ob) (xs:List Int):Int:=if filE os xs=0 then (os.length:Int)+1 else 0
def filL (os:List Ob) (d:Int) (nm:ByteArray) (xs:List Int):List PO:=if filE os xs=0 then filP nm d (xs.map Int.toNat) os.length else []
theorem Zka:∀ {xs:List Int},negB xs=false→xs=natI (xs.map Int.toNat)
 | [],_=>rfl
 | x::r,h=>by
   simp only [negB,List.any_cons,Bool.or_eq_false_iff,decide_eq_false_iff_not] at h
   have:=Zka (xs:=r) h.2
   rw [List.map_cons,natI,List.map_cons,show ((x.toNat:Nat):Int)=x by omega]
   congr 1
theorem fill_c {W:World} {S:Nat→Prop} {hb b:Nat} {ov:Value} {os:List Ob} (h:HpAt W S hb b ov os) {g o cap n:Nat} {xs:List Int} (HN:xs.length=n) (hn0:0<n) (hn9:n≤1000000) (hcap:n≤cap) (d:Nat) (nm:ByteArray) (hz:nm.size≤maxLen) (hsn:sndB (d:Int) nm.data.toList=true) (hd:n≤d) (HX:IsAt W g o xs) (hSg:¬ S g) :
 Calls Tryz.prog 73 #[.pointer (some ⟨hb,0,none⟩),.agg #[.int .i64 (d:Int),.string nm],.slice (some ⟨g,o,none⟩) n cap] W fun e w'=>e=.returned (.tuple #[.int .i64 (filN os xs),.int .i64 (filE os xs)])∧∃ new,HpN S W w' hb b (os++new)∧new.map Ob.p=filL os (d:Int) nm xs:=by
 cases hg:negB xs with
 | true =>
   have e1:filE os xs=30:=by rw [filE,hg];rfl
   have e2:filN os xs=0:=by rw [filN,e1];rfl
   have e3:filL os (d:Int) nm xs=[]:=by rw [filL,e1];rfl
   rw [e1,e2,e3]
   exact (fill_neg HN hn9 (d:Int) nm HX hg).mono fun e w' ⟨h1,h2⟩=>⟨h1,[],by rw [List.append_nil];exact h.stay h2,rfl⟩
 | false =>
   have hx:=Zka hg
   obtain ⟨c,cs,hcs⟩:∃ c cs,xs.map Int.toNat=c::cs:=by
    cases e:xs with
    | nil=>rw [e] at HN;simp at HN;omega
    | cons y r=>exact ⟨_,_,rfl⟩
   have hl:cs.length+1=n:=by rw [← HN,← List.length_map (f:=Int.toNat),hcs];simp
   rw [hx,hcs] at HX
   cases hr:rmB os (xs.map Int.toNat) with
   | false =>
     have e1:filE os xs=32:=by rw [filE,hg,hr];rfl
     have e2:filN os xs=0:=by rw [filN,e1];rfl
     have e3:filL os (d:Int) nm xs=[]:=by rw [filL,e1];rfl
     rw [e1,e2,e3]
     rw [hcs] at hr
     exact (fill_no h hl hn9 d nm HX hr).mono fun e w' ⟨h1,h2⟩=>⟨h1,[],by rw [List.append_nil];exact h.stay h2,rfl⟩
   | true =>
     have e1:filE os xs=0:=by rw [filE,hg,hr];rfl
     have e2:filN os xs=(os.length:Int)+1:=by rw [filN,e1];rfl
     have e3:filL os (d:Int) nm xs=filP nm (d:Int) (c::cs) os.length:=by rw [filL,e1,hcs];rfl
     rw [e1,e2,e3]
     rw [hcs] at hr
     exact fill_yes h hl hn9 hcap d nm hz hsn hd HX hSg hr
def aryE (ps:List Plc) (os:List Ob) (d:Int) (nm:ByteArray) (n:Int):Int:=if arrE d nm.data.toList=0 then (if ldI ps d nm=0 then filE os [n] else ldI ps d nm) else arrE d nm.data.toList
def aryN (ps:List Plc) (os:List Ob) (d:Int) (nm:ByteArray) (n:Int):Int:=if aryE ps os d nm n=0 then (os.length:Int)+1 else 0
def aryL (ps:List Plc) (os:List Ob) (d:Int) (nm:ByteArray) (n:Int):List PO:=if aryE ps os d nm n=0 then [(d+1,nm,List.replicate n.toNat 0)] else []
theorem array_1 {W:World} {hb:Nat} (d d' E n:Int) (nm nm':ByteArray) (hE:¬ E=0) (HA:Hid (∀ w:World,Calls Tryz.prog 71 #[.agg #[.int .i64 d,.string nm]] w fun e w'=>e=.returned (.tuple #[.agg #[.int .i64 d',.string nm'],.int .i64 E])∧Bw w w')) :
 Calls Tryz.prog 29 #[.pointer (some ⟨hb,0,none⟩),.agg #[.int .i64 d,.string nm],.int .i64 n] W fun e w'=>e=.returned (.tuple #[.int .i64 0,.int .i64 E])∧Bw W w':=by
 have B0:Hid (Bw W (W.alloc (.cells #[.int .i64 d,.string nm] 40))):=(Below.refl _ _).alloc (Nat.le_refl _) _
 go_enter Tryz.func29,Tryz.ntmps29
 go_wp2_with (go_at_call 71;refine (HA.out _).mono ?_;rintro e w1 ⟨rfl,hB⟩;have B1:Hid (Bw W w1):=Za B0.out hB;clear hB HA)
 go_ret2
 exact ⟨rfl,B1.out.alloc B1.out.size _⟩
theorem Zfg (vs:Array Value) (w:World):(callFunc 72 vs).run Tryz.prog w=.ok (.enter 72 vs) w:=by simp [go_sem]
theorem Zbo {P:Program} {ops:Array Oper} {o:Oper} {a:Act} {w:World} {K:Act→World→Prop} {Q:Exit→Act→World→Prop} {E:Prop} (hg:o.guard=none) (f:Nat) (hf:∀ (vs:Array Value) (w:World),(callFunc f vs).run P w=.ok (.enter f vs) w) (x1 x2:Operand) (t1 t2:TypeId)
 (hop:o.op=Op.call { callee:=Callee.value (Operand.func f),args:=#[x1,x2],argTypes:=#[t1,t2] }) {R:Ending→World→Prop} (v1 v2:Value) (hv1:a.eval x1=v1) (hv2:a.eval x2=v2) (h:Calls P f #[v1,v2] w R) (hR:∀ e w',R e w'→∃ u,e=.returned u∧K (a.put o.dst u) w') :
 if Region.wanted o (yielded ops a.tmps)=true then Oper.wp P o a w K Q else E:=by
 have hw:Region.wanted o (yielded ops a.tmps)=true:=by simp [Region.wanted,hg]
 rw [if_pos hw]
 unfold Oper.wp
 have e:(execOp a.eval o).run P w=.ok (.enter f #[v1,v2]) w:=by
  simp [execOp,hop,resolve,invoke,hv1,hv2]
  simp [go_sem,hf]
 rw [e]
 refine h.mono fun e w' hr=>?_
 obtain ⟨u,rfl,hu⟩:=hR e w' hr
 exact hu
theorem array_2 {W:World} {hb b:Nat} (d d' E n:Int) (nm nm':ByteArray) (hE:¬ E=0) (c0:W.cell? ⟨hb,0,none⟩=some (.pointer (some ⟨b,0,none⟩))) (HA:Hid (∀ w:World,Calls Tryz.prog 71 #[.agg #[.int .i64 d,.string nm]] w fun e w'=>e=.returned (.tuple #[.agg #[.int .i64 d',.string nm'],.int .i64 0])∧Bw w w'))
 (HL:Hid (∀ w,Bw W w→Calls Tryz.prog 72 #[.pointer (some ⟨b,0,none⟩),.agg #[.int .i64 d,.string nm]] w fun e w'=>e=.returned (.int .i64 E)∧Bw w w')) :
 Calls Tryz.prog 29 #[.pointer (some ⟨hb,0,none⟩),.agg #[.int .i64 d,.string nm],.int .i64 n] W fun e w'=>e=.returned (.tuple #[.int .i64 0,.int .i64 E])∧Bw W w':=by
 have hl:hb<W.heap.size:=World.block_lt_of_cell? W _ c0
 have B0:Hid (Bw W (W.alloc (.cells #[.int .i64 d,.string nm] 40))):=(Below.refl _ _).alloc (Nat.le_refl _) _
 go_enter Tryz.func29,Tryz.ntmps29
 go_upto_region 6 with (go_at_call 71;refine (HA.out _).mono ?_;rintro e w1 ⟨rfl,hB⟩;have B1:Hid (Bw W w1):=Za B0.out hB;obtain ⟨zB,z0,z1,zf,zL,zN⟩:=k2c (n:=W.heap.size) hB;have y0:w1.cell? ⟨hb,0,none⟩=some (.pointer (some ⟨b,0,none⟩)):=(B1.out.cell (p:=⟨hb,0,none⟩) hl).trans c0;have yl:hb<w1.heap.size:=(by omega);have yn:¬ hb=w1.heap.size:=(by omega);clear hB HA)
 go_region_law (refine Zbo rfl 72 Zfg (.tmp 24) (.tmp 25) 25 40 rfl (.pointer (some ⟨b,0,none⟩)) (.agg #[.int .i64 d,.string nm]) (by first|(simp [Act.eval];done)|(simp [Act.eval,Act.put];done)) (by first|(simp [Act.eval];done)|(simp [Act.eval,Act.put];done)) (HL.out _ ((B1.out.alloc B1.out.size _).drew)) ?_;rintro e w3 ⟨rfl,hB⟩;refine ⟨_,rfl,?_⟩;have B3:Hid (Bw W w3):=Za ((B1.out.alloc B1.out.size _).drew) hB;clear hB)
 all_goals go_wp2
 all_goals go_ret2
 all_goals exact ⟨rfl,B3.out⟩
theorem array_3 {W:World} {hb b:Nat} (d d' n N E:Int) (nm:ByteArray) {R:World→Prop} (c0:W.cell? ⟨hb,0,none⟩=some (.pointer (some ⟨b,0,none⟩))) (HA:Hid (∀ w:World,Calls Tryz.prog 71 #[.agg #[.int .i64 d,.string nm]] w fun e w'=>e=.returned (.tuple #[.agg #[.int .i64 d',.string nm],.int .i64 0])∧Bw w w'))
 (HL:Hid (∀ w,Bw W w→Calls Tryz.prog 72 #[.pointer (some ⟨b,0,none⟩),.agg #[.int .i64 d,.string nm]] w fun e w'=>e=.returned (.int .i64 0)∧Bw w w'))
 (HF:Hid (∀ w g,Bw W w→W.heap.size≤g→w.cell? ⟨g,0,none⟩=some (.int .i64 n)→Calls Tryz.prog 73 #[.pointer (some ⟨hb,0,none⟩),.agg #[.int .i64 d',.string nm],.slice (some ⟨g,0,none⟩) 1 1] w fun e w'=>e=.returned (.tuple #[.int .i64 N,.int .i64 E])∧R w')) :
 Calls Tryz.prog 29 #[.pointer (some ⟨hb,0,none⟩),.agg #[.int .i64 d,.string nm],.int .i64 n] W fun e w'=>e=.returned (.tuple #[.int .i64 N,.int .i64 E])∧R w':=by
 have hl:hb<W.heap.size:=World.block_lt_of_cell? W _ c0
 have B0:Hid (Bw W (W.alloc (.cells #[.int .i64 d,.string nm] 40))):=(Below.refl _ _).alloc (Nat.le_refl _) _
 go_enter Tryz.func29,Tryz.ntmps29
 go_upto_region 6 with (go_at_call 71;refine (HA.out _).mono ?_;rintro e w1 ⟨rfl,hB⟩;have B1:Hid (Bw W w1):=Za B0.out hB;obtain ⟨zB,z0,z1,zf,zL,zN⟩:=k2c (n:=W.heap.size) hB;have y0:w1.cell? ⟨hb,0,none⟩=some (.pointer (some ⟨b,0,none⟩)):=(B1.out.cell (p:=⟨hb,0,none⟩) hl).trans c0;have yl:hb<w1.heap.size:=(by omega);have yn:¬ hb=w1.heap.size:=(by omega);clear hB HA)
 go_region_law (refine Zbo rfl 72 Zfg (.tmp 24) (.tmp 25) 25 40 rfl (.pointer (some ⟨b,0,none⟩)) (.agg #[.int .i64 d,.string nm]) (by first|(simp [Act.eval];done)|(simp [Act.eval,Act.put];done)) (by first|(simp [Act.eval];done)|(simp [Act.eval,Act.put];done)) (HL.out _ ((B1.out.alloc B1.out.size _).drew)) ?_;rintro e w3 ⟨rfl,hB⟩;refine ⟨_,rfl,?_⟩;have B3:Hid (Bw W w3):=Za ((B1.out.alloc B1.out.size _).drew) hB;have B4:Hid (Below (w1.heap.size+1) (w1.alloc (.cells #[.int .i64 d',.string nm] 40)) w3):=(by rw [Hid];have h1:Below (w1.alloc (.cells #[.int .i64 d',.string nm] 40)).heap.size (w1.alloc (.cells #[.int .i64 d',.string nm] 40)) w3:=(Below.refl _ _).drew.trans hB;simpa using h1);obtain ⟨xB,x0,x1,xf,xL,xN⟩:=k2c (n:=w1.heap.size) B4.out (by omega) (Zg _ _);clear hB)
 all_goals go_wp2_with (go_at_call 73;refine (HF.out _ w3.heap.size (B3.out.alloc B3.out.size _) B3.out.size (r1c (Zg _ _)).1).mono ?_;rintro e w4 ⟨rfl,hx⟩;have R4:Hid (R w4):=hx;clear hx)
 all_goals go_ret2
 all_goals exact ⟨rfl,R4.out⟩
def ifcC (cs:List Cls) (i:Int):Bool:=match clsI cs i with
 | some c=>hasI c.fl 512
 | none=>false
theorem Zh8 {b:Nat} {cs:List Cls} {W:World} (h:RAt b cs W) (i:Int):Calls Tryz.prog 58 #[.pointer (some ⟨b,0,none⟩),.int .i64 i] W fun e w'=>e=.returned (.bool (ifcC cs i))∧w'=W:=by
 have HI:Hid (∀ y,(clsI cs i).isSome=y→Calls Tryz.prog 63 #[.pointer (some ⟨b,0,none⟩),.int .i64 i] W fun e w'=>e=.returned (.bool y)∧w'=W):=fun y hy=>by rw [← hy];exact Zfr h i
 rcases Qq cs i with ⟨h1,h2⟩|⟨k,c,rfl,h2,h1⟩
 ·have e:ifcC cs i=false:=by rw [ifcC,h1]
  rw [e]
  have HI:Hid (Calls Tryz.prog 63 #[.pointer (some ⟨b,0,none⟩),.int .i64 i] W fun e w'=>e=.returned (.bool false)∧w'=W):=HI.out false (by rw [h1];rfl)
  clear h h1 h2 e
  go_enter Tryz.func58,Tryz.ntmps58
  go_wp2_with (go_at_call 63;refine HI.out.mono ?_;rintro e w9 ⟨rfl,hw9⟩;rw [hw9];clear hw9 w9)
  exact bodyPost_ret (results_tmp rfl _ _ _) rfl ⟨rfl,rfl⟩
 ·have e:ifcC cs k=hasI c.fl 512:=by rw [ifcC,h1]
  rw [e]
  have HI:Hid (Calls Tryz.prog 63 #[.pointer (some ⟨b,0,none⟩),.int .i64 (k:Int)] W fun e w'=>e=.returned (.bool true)∧w'=W):=HI.out true (by rw [h1];rfl)
  obtain ⟨g,cap,vi,vm,b0,_,_,c0,c1,c2,c3,c4,c5,_⟩:=h.cells h2
  have hkI:(k:Int)<(cs.length:Int):=by have:=(List.getElem?_eq_some_iff.1 h2).1;omega
  have HF:Hid (∀ w:World,Calls Tryz.prog 59 #[.int .i64 c.fl,.int .i64 512] w fun e w'=>e=.returned (.bool (hasI c.fl 512))∧w'=w):=Ye c.fl 512
  generalize hasI c.fl 512=R at *
  clear h h1 h2 e
  go_enter Tryz.func58,Tryz.ntmps58
  go_wp2_with (first
   | (go_at_call 63;refine HI.out.mono ?_;rintro e w9 ⟨rfl,hw9⟩;rw [hw9];clear hw9 w9)
   | (go_at_call 59;refine (HF.out _).mono ?_;rintro e w9 ⟨rfl,hw9⟩;rw [hw9];clear hw9 w9))
  exact bodyPost_ret (results_tmp rfl _ _ _) rfl ⟨rfl,rfl⟩
def togB (p q:Cls):Bool:=(p.ld == q.ld)&&(pkgL p.nm.data.toList == pkgL q.nm.data.toList)
theorem rTog_c (p q:Cls) (vi vm vi' vm':Value) (hp:p.nm.size≤maxLen) (hq:q.nm.size≤maxLen) (W:World):Calls Tryz.prog 104 #[.agg #[.string p.nm,.string p.su,vi,.int .i64 p.fl,.int .i64 p.ld,vm],.agg #[.string q.nm,.string q.su,vi',.int .i64 q.fl,.int .i64 q.ld,vm']] W fun e w'=>e=.returned (.bool (togB p q))∧Bw W w':=by
 have HP:Hid (∀ u w,u=p.nm→Calls Tryz.prog 138 #[.string u] w fun e w'=>e=.returned (.string (pkB p.nm))∧w'=w):=fun u w hu=>by rw [hu];exact Zaj p.nm hp w
 have HQ:Hid (∀ u w,u=q.nm→Calls Tryz.prog 138 #[.string u] w fun e w'=>e=.returned (.string (pkB q.nm))∧w'=w):=fun u w hu=>by rw [hu];exact Zaj q.nm hq w
 have HR:Hid (togB p q=((p.ld == q.ld)&&((pkB p.nm).toList == (pkB q.nm).toList))):=by
  rw [Hid,togB,Lib.toList_data,Lib.toList_data];rfl
 generalize togB p q=R at *
 generalize pkB p.nm=s1 at *
 generalize pkB q.nm=s2 at *
 clear hp hq
 by_cases hld:p.ld=q.ld
 ·have hld2:(p.ld == q.ld)=true:=by rw [hld];simp
  cases hz:(s1.toList == s2.toList)
  all_goals
   rw [hld2,hz] at HR
   go_enter Tryz.func104,Tryz.ntmps104
   go_wp2
   go_quiet (first|(go_at_call 138;refine Calls.quiet_of_same (HP.out _ _ rfl))|(go_at_call 138;refine Calls.quiet_of_same (HQ.out _ _ rfl)))
   go_wp2
   exact bodyPost_ret (results_tmp rfl _ _ _) rfl ⟨by rw [HR.out];rfl,below_drewN sqR _⟩
 ·have hld2:(p.ld == q.ld)=false:=by simpa using hld
  rw [hld2] at HR
  go_enter Tryz.func104,Tryz.ntmps104
  go_wp2
  go_quiet (first|(go_at_call 138;refine Calls.quiet_of_same (HP.out _ _ rfl)))
  go_wp2
  exact bodyPost_ret (results_tmp rfl _ _ _) rfl ⟨by rw [HR.out];rfl,below_drewN sqR _⟩
theorem Zh4 {w:World} {v:Value} {l:List (List UInt8)} (h:IsStrs w v l):∃ a c,v=.slice a l.length c:=by
 obtain ⟨a,c,e,_⟩:=h
 exact ⟨a,c,e⟩
theorem Zio {w:World} {v:Value} {l:List Mth} (h:IsMths w v l):∃ a c,v=.slice a l.length c:=by
 obtain ⟨a,c,e,_⟩:=h
 exact ⟨a,c,e⟩
def bnC (i:Int):Value:=if i<0 then .tuple #[.int .i64 0,.int .i64 6] else .tuple #[.int .i64 i,.int .i64 0]
theorem Zd9 {b:Nat} {cs:List Cls} {W:World} (h:RAt b cs W) (nm:ByteArray) (hn:cs.length≤300):Calls Tryz.prog 118 #[.pointer (some ⟨b,0,none⟩),.string nm] W fun e w'=>e=.returned (bnC (nmdI nm.toList cs 0))∧w'=W:=by
 have HN:Hid (Calls Tryz.prog 57 #[.pointer (some ⟨b,0,none⟩),.string nm] W fun e w'=>e=.returned (.int .i64 (nmdI nm.toList cs 0))∧w'=W):=Zat h nm hn
 clear h
 generalize nmdI nm.toList cs 0=k at *
 unfold bnC
 by_cases hk:k<0
 ·rw [if_pos hk]
  go_enter Tryz.func118,Tryz.ntmps118
  go_wp2_with (go_at_call 57;refine HN.out.mono ?_;rintro e w9 ⟨rfl,hw9⟩;rw [hw9];clear hw9 w9)
  exact bodyPost_ret (results_tmp2 rfl _ _ _) rfl ⟨rfl,rfl⟩
 ·rw [if_neg hk]
  go_enter Tryz.func118,Tryz.ntmps118
  go_wp2_with (go_at_call 57;refine HN.out.mono ?_;rintro e w9 ⟨rfl,hw9⟩;rw [hw9];clear hw9 w9)
  exact bodyPost_ret (results_tmp2 rfl _ _ _) rfl ⟨rfl,rfl⟩
theorem rOpen_c (c p:Cls) (vi vm vi' vm':Value) (hc:c.nm.size≤maxLen) (hp:p.nm.size≤maxLen) (W:World):Calls Tryz.prog 60 #[.agg #[.string c.nm,.string c.su,vi,.int .i64 c.fl,.int .i64 c.ld,vm],.agg #[.string p.nm,.string p.su,vi',.int .i64 p.fl,.int .i64 p.ld,vm']] W fun e w'=>e=.returned (.bool (hasI p.fl 1||togB c p))∧Bw W w':=by
 have HT:Hid (∀ w,Calls Tryz.prog 104 #[.agg #[.string c.nm,.string c.su,vi,.int .i64 c.fl,.int .i64 c.ld,vm],.agg #[.string p.nm,.string p.su,vi',.int .i64 p.fl,.int .i64 p.ld,vm']] w fun e w'=>e=.returned (.bool (togB c p))∧Bw w w'):=fun w=>rTog_c c p vi vm vi' vm' hc hp w
 have HF:Hid (∀ w:World,Calls Tryz.prog 59 #[.int .i64 p.fl,.int .i64 1] w fun e w'=>e=.returned (.bool (hasI p.fl 1))∧w'=w):=Ye p.fl 1
 generalize hasI p.fl 1=b1 at *
 generalize togB c p=b2 at *
 clear hc hp
 cases b1
 all_goals
  go_enter Tryz.func60,Tryz.ntmps60
  go_wp2_with (first
   | (go_at_call 59;refine (HF.out _).mono ?_;rintro e w9 ⟨rfl,hw9⟩;rw [hw9];clear hw9 w9)
   | (go_at_call 104;refine (HT.out _).mono ?_;rintro e w1 ⟨rfl,hb⟩;have B1:Hid (Bw W w1):=Za sqR hb;clear hb HT))
  first
   | exact bodyPost_ret (results_tmp rfl _ _ _) rfl ⟨rfl,B1.out⟩
   | exact bodyPost_ret (results_tmp rfl _ _ _) rfl ⟨rfl,sqR⟩
def ldC (cs:List Cls) (d:Int) (s:ByteArray):Int:=if sndB d s.data.toList then (if s.toList.isEmpty then 0 else if nmdI s.toList cs 0<0 then 20 else 0) else 1
theorem Jm {b:Nat} {cs:List Cls} {W:World} (h:RAt b cs W) (hn:cs.length≤300) (d:Int) (s:ByteArray) (hs:s.size≤maxLen):Calls Tryz.prog 77 #[.pointer (some ⟨b,0,none⟩),.agg #[.int .i64 d,.string s]] W fun e w'=>e=.returned (.int .i64 (ldC cs d s))∧Bw W w':=by
 have HC:Hid (∀ w:World,Calls Tryz.prog 117 #[.agg #[.int .i64 d,.string s]] w fun e w'=>e=.returned (.int .i64 (chkI (sndB d s.data.toList)))∧Bw w w'):=Xz d s hs
 have HN:Hid (∀ w,Bw W w→Calls Tryz.prog 118 #[.pointer (some ⟨b,0,none⟩),.string s] w fun e w'=>e=.returned (bnC (nmdI s.toList cs 0))∧w'=w):=fun w hb=>Zd9 (h.below hb) s hn
 have HR:Hid (ldC cs d s=if sndB d s.data.toList then (if s.toList.isEmpty then 0 else if nmdI s.toList cs 0<0 then 20 else 0) else 1):=rfl
 generalize ldC cs d s=R at *
 generalize sndB d s.data.toList=z at *
 generalize nmdI s.toList cs 0=k at *
 clear h
 cases z with
 | false =>
   have hR:R=1:=HR.out
   subst hR
   clear HR
   go_enter Tryz.func77,Tryz.ntmps77
   go_wp2_with (first
    | (go_at_call 117;refine (HC.out _).mono ?_;rintro e w1 ⟨rfl,hb⟩;simp only [chkI];have B1:Hid (Bw W w1):=Za sqR hb;clear hb HC))
   exact bodyPost_ret (results_tmp rfl _ _ _) rfl ⟨rfl,B1.out⟩
 | true =>
   cases he:s.toList.isEmpty with
   | true =>
     have hR:R=0:=by rw [HR.out,he];rfl
     subst hR
     clear HR
     go_enter Tryz.func77,Tryz.ntmps77
     go_wp2_with (first
      | (go_at_call 117;refine (HC.out _).mono ?_;rintro e w1 ⟨rfl,hb⟩;simp only [chkI];have t1:w1.cell? ⟨W.heap.size,1,none⟩=some (.string s):=(hb.cell (p:=⟨W.heap.size,1,none⟩) (by simp)).trans (by simp [go_sem]);have B1:Hid (Bw W w1):=Za sqR hb;clear hb HC))
     exact bodyPost_ret (results_tmp rfl _ _ _) rfl ⟨rfl,B1.out⟩
   | false =>
     have hR:R=if k<0 then 20 else 0:=by rw [HR.out,he];rfl
     clear HR
     by_cases hk:k<0
     ·rw [if_pos hk] at hR
      subst hR
      go_enter Tryz.func77,Tryz.ntmps77
      go_wp2_with (first
       | (go_at_call 117;refine (HC.out _).mono ?_;rintro e w1 ⟨rfl,hb⟩;simp only [chkI];have t1:w1.cell? ⟨W.heap.size,1,none⟩=some (.string s):=(hb.cell (p:=⟨W.heap.size,1,none⟩) (by simp)).trans (by simp [go_sem]);have B1:Hid (Bw W w1):=Za sqR hb;clear hb HC)
       | (go_at_call 118;refine (HN.out _ B1.out).mono ?_;rintro e w9 ⟨rfl,hw9⟩;rw [bnC,if_pos hk,hw9];clear hw9 w9))
      exact bodyPost_ret (results_tmp rfl _ _ _) rfl ⟨rfl,B1.out⟩
     ·rw [if_neg hk] at hR
      subst hR
      go_enter Tryz.func77,Tryz.ntmps77
      go_wp2_with (first
       | (go_at_call 117;refine (HC.out _).mono ?_;rintro e w1 ⟨rfl,hb⟩;simp only [chkI];have t1:w1.cell? ⟨W.heap.size,1,none⟩=some (.string s):=(hb.cell (p:=⟨W.heap.size,1,none⟩) (by simp)).trans (by simp [go_sem]);have B1:Hid (Bw W w1):=Za sqR hb;clear hb HC)
       | (go_at_call 118;refine (HN.out _ B1.out).mono ?_;rintro e w9 ⟨rfl,hw9⟩;rw [bnC,if_neg hk,hw9];clear hw9 w9))
      exact bodyPost_ret (results_tmp rfl _ _ _) rfl ⟨rfl,B1.out⟩
theorem Zbk (vs:Array Value) (w:World):(callFunc 77 vs).run Tryz.prog w=.ok (.enter 77 vs) w:=by simp [go_sem]
theorem RhAt.stay {W w':World} {S:Nat→Prop} {r b:Nat} {tv ev:Value} {es:List Dv} (h:RhAt W S r b tv ev es) (hl:Bw W w'):RhN S W w' r b es :=
 ⟨⟨tv,ev,(h.below hl).mono (fun k hk=>hk.elim (fun x=>(h.below hl).sz k x) (fun x=>x.2)) (fun _ _ x=>.inl x)⟩,(Tch.refl S W).bel hl⟩
theorem RhN.pre {S:Nat→Prop} {W0 W w':World} {r b:Nat} {es:List Dv} (h:RhN S W w' r b es) (hl:Bw W0 W):RhN S W0 w' r b es:=by
 obtain ⟨⟨tv,ev,h1⟩,h2⟩:=h
 have hz:=hl.size
 exact ⟨⟨tv,ev,h1.mono (fun k hk=>hk.elim (fun x=>h1.sz k (.inl x)) (fun x=>x.2)) (fun k _ hk=>hk.imp id (fun x=>⟨by omega,x.2⟩))⟩,((Tch.refl S W0).bel hl).trans h2 (fun _ _ x=>x)⟩
theorem ary_d1 {W:World} {r:Nat} (d d' E n:Int) (nm nm':ByteArray) (hE:¬ E=0) (HA:Hid (∀ w:World,Calls Tryz.prog 76 #[.agg #[.int .i64 d,.string nm]] w fun e w'=>e=.returned (.tuple #[.agg #[.int .i64 d',.string nm'],.int .i64 E])∧Bw w w')) :
 Calls Tryz.prog 36 #[.pointer (some ⟨r,0,none⟩),.agg #[.int .i64 d,.string nm],.int .i64 n] W fun e w'=>e=.returned (.tuple #[.int .i64 0,.int .i64 E])∧Bw W w':=by
 have B0:Hid (Bw W (W.alloc (.cells #[.int .i64 d,.string nm] 40))):=(Below.refl _ _).alloc (Nat.le_refl _) _
 go_enter Tryz.func36,Tryz.ntmps36
 go_wp2_with (go_at_call 76;refine (HA.out _).mono ?_;rintro e w1 ⟨rfl,hB⟩;have B1:Hid (Bw W w1):=Za B0.out hB;clear hB HA)
 go_ret2
 exact ⟨rfl,B1.out.alloc B1.out.size _⟩
def dayE (L:Nat) (wd:Nat) (E2 n:Int):Int:=if E2=0 then (if n<0 then 30 else if L+1≤1000∧(wd:Int)+n≤20000 then 0 else 32) else E2
theorem ary_d2 {W:World} {r b L wd:Nat} (d d' E2 n:Int) (nm:ByteArray) {R:World→Prop} {a:Option Addr} {cp:Nat} (hL:L≤1000) (hwd:wd≤20000) (c0:W.cell? ⟨r,0,none⟩=some (.pointer (some ⟨b,0,none⟩))) (c1:W.cell? ⟨r,1,none⟩=some (.slice a L cp))
 (HA:Hid (∀ w:World,Calls Tryz.prog 76 #[.agg #[.int .i64 d,.string nm]] w fun e w'=>e=.returned (.tuple #[.agg #[.int .i64 d',.string nm],.int .i64 0])∧Bw w w'))
 (HL:Hid (∀ w,Bw W w→Calls Tryz.prog 77 #[.pointer (some ⟨b,0,none⟩),.agg #[.int .i64 d,.string nm]] w fun e w'=>e=.returned (.int .i64 E2)∧Bw w w'))
 (HW:Hid (∀ w,Bw W w→Calls Tryz.prog 43 #[.pointer (some ⟨r,0,none⟩)] w fun e w'=>e=.returned (.int .i64 (wd:Int))∧w'=w))
 (HY:Hid (∀ w,Bw W w→0≤n→L<1000→(wd:Int)+n≤20000→E2=0→Calls Tryz.prog 78 #[.pointer (some ⟨r,0,none⟩),.agg #[.int .i64 d',.string nm],.int .i64 n] w fun e w'=>e=.returned (.int .i64 ((L:Int)+1))∧R w'))
 (HS:Hid (∀ w,Bw W w→¬ dayE L wd E2 n=0→R w)) :
 Calls Tryz.prog 36 #[.pointer (some ⟨r,0,none⟩),.agg #[.int .i64 d,.string nm],.int .i64 n] W fun e w'=>e=.returned (.tuple #[.int .i64 (if dayE L wd E2 n=0 then (L:Int)+1 else 0),.int .i64 (dayE L wd E2 n)])∧R w':=by
 have hl:r<W.heap.size:=World.block_lt_of_cell? W _ c0
 have B0:Hid (Bw W (W.alloc (.cells #[.int .i64 d,.string nm] 40))):=(Below.refl _ _).alloc (Nat.le_refl _) _
 obtain ⟨E,hE⟩:∃ E,dayE L wd E2 n=E:=⟨_,rfl⟩
 have HE:Hid (dayE L wd E2 n=E):=hE
 rw [hE] at HS ⊢
 clear hE
 go_enter Tryz.func36,Tryz.ntmps36
 go_upto_region 4 with (go_at_call 76;refine (HA.out _).mono ?_;rintro e w1 ⟨rfl,hB⟩;have B1:Hid (Bw W w1):=Za B0.out hB;obtain ⟨zB,z0,z1,zf,zL,zN⟩:=k2c (n:=W.heap.size) hB;have y0:w1.cell? ⟨r,0,none⟩=some (.pointer (some ⟨b,0,none⟩)):=(B1.out.cell (p:=⟨r,0,none⟩) hl).trans c0;have yl:r<w1.heap.size:=(by omega);have yn:¬ r=w1.heap.size:=(by omega);clear hB HA)
 go_region_law (refine Zbo rfl 77 Zbk (.tmp 21) (.tmp 22) 30 40 rfl (.pointer (some ⟨b,0,none⟩)) (.agg #[.int .i64 d,.string nm]) (by first|(simp [Act.eval];done)|(simp [Act.eval,Act.put];done)) (by first|(simp [Act.eval];done)|(simp [Act.eval,Act.put];done)) (HL.out _ ((B1.out.alloc B1.out.size _).drew)) ?_;rintro e w3 ⟨rfl,hB⟩;refine ⟨_,rfl,?_⟩;have B3:Hid (Bw W w3):=Za ((B1.out.alloc B1.out.size _).drew) hB;have B4:Hid (Below (w1.heap.size+1) (w1.alloc (.cells #[.int .i64 d',.string nm] 40)) w3):=(by rw [Hid];have h1:Below (w1.alloc (.cells #[.int .i64 d',.string nm] 40)).heap.size (w1.alloc (.cells #[.int .i64 d',.string nm] 40)) w3:=(Below.refl _ _).drew.trans hB;simpa using h1);obtain ⟨xB,x0,x1,xf,xL,xN⟩:=k2c (n:=w1.heap.size) B4.out (by omega) (Zg _ _);have u1:w3.cell? ⟨r,1,none⟩=some (.slice a L cp):=(B3.out.cell (p:=⟨r,1,none⟩) hl).trans c1;clear hB)
 all_goals
  by_cases h2:E2=0
  ·subst h2
   by_cases h3:n<0
   ·obtain rfl:E=30:=by rw [← HE.out,dayE,if_pos rfl,if_pos h3]
    go_wp2
    go_ret2
    exact ⟨rfl,HS.out _ B3.out (by decide)⟩
   ·by_cases h4:L<1000
    ·have h4I:¬ (1000:Int)≤(L:Int):=by omega
     by_cases h5:(wd:Int)+n≤20000
     ·obtain rfl:E=0:=by rw [← HE.out,dayE,if_pos rfl,if_neg h3,if_pos ⟨by omega,h5⟩]
      have h6:¬ (20000:Int) - (wd:Int)<n:=by omega
      go_wp2_with (first
       | (go_at_call 43;refine (HW.out _ B3.out).mono ?_;rintro e w' ⟨rfl,hw⟩;obtain rfl:=hw.symm)
       | (go_at_call 78;refine (HY.out _ B3.out (by omega) h4 h5 (by first|rfl|trivial)).mono ?_;rintro e w4 ⟨rfl,hx⟩;have R4:Hid (R w4):=hx;clear hx))
      go_ret2
      exact ⟨rfl,R4.out⟩
     ·obtain rfl:E=32:=by rw [← HE.out,dayE,if_pos rfl,if_neg h3,if_neg (fun x=>h5 x.2)]
      have h6:(20000:Int) - (wd:Int)<n:=by omega
      go_wp2_with (go_at_call 43;refine (HW.out _ B3.out).mono ?_;rintro e w' ⟨rfl,hw⟩;obtain rfl:=hw.symm)
      go_ret2
      exact ⟨rfl,HS.out _ B3.out (by decide)⟩
    ·have h4I:(1000:Int)≤(L:Int):=by omega
     obtain rfl:E=32:=by rw [← HE.out,dayE,if_pos rfl,if_neg h3,if_neg (fun x=>by omega)]
     go_wp2
     go_ret2
     exact ⟨rfl,HS.out _ B3.out (by decide)⟩
  ·obtain rfl:E=E2:=by rw [← HE.out,dayE,if_neg h2]
   go_wp2
   go_ret2
   exact ⟨by simp,HS.out _ B3.out h2⟩
def Dv.q (e:Dv):Int×ByteArray×List (Bool×Int):=(e.d,e.nm,e.vs)
def dryE (cs:List Cls) (es:List Dv) (d:Int) (nm:ByteArray) (n:Int):Int:=if arrE d nm.data.toList=0 then dayE es.length (wdD es) (ldC cs d nm) n else arrE d nm.data.toList
theorem array_d {W:World} {S:Nat→Prop} {r b:Nat} {tv ev:Value} {es:List Dv} (h:RhAt W S r b tv ev es) {cs:List Cls} (hw:RAt b cs W) (hn:cs.length≤300) (d:Int) (nm:ByteArray) (hz:nm.size≤maxLen) (n:Int) :
 Calls Tryz.prog 36 #[.pointer (some ⟨r,0,none⟩),.agg #[.int .i64 d,.string nm],.int .i64 n] W fun e w'=>e=.returned (.tuple #[.int .i64 (if dryE cs es d nm n=0 then (es.length:Int)+1 else 0),.int .i64 (dryE cs es d nm n)])∧∃ new,RhN S W w' r b (es++new)∧new.map Dv.q=if dryE cs es d nm n=0 then [(d+1,nm,List.replicate n.toNat (rfD (d+1) nm,0))] else []:=by
 have HA:=Zea d nm hz
 obtain ⟨c0,c1,c2,fz,hl⟩:=h.cells
 obtain ⟨a,cp,hv⟩:=ownv h.tw
 rw [hv] at c1
 by_cases e1:arrE d nm.data.toList=0
 ·have q1:dryE cs es d nm n=dayE es.length (wdD es) (ldC cs d nm) n:=by rw [dryE,if_pos e1]
  rw [e1] at HA
  simp only [outD,outS,if_true] at HA
  rw [q1]
  refine ary_d2 d (d+1) (ldC cs d nm) n nm (L:=es.length) (wd:=wdD es) (R:=fun w'=>∃ new,RhN S W w' r b (es++new)∧new.map Dv.q=if dayE es.length (wdD es) (ldC cs d nm) n=0 then [(d+1,nm,List.replicate n.toNat (rfD (d+1) nm,0))] else []) h.n1 h.n2 c0 c1 HA (fun w hl=>Jm (hw.below hl) hn d nm hz) (fun w hl=>Zaz (h.below hl)) (fun w hl h0 h3 h4 h5=>?_) (fun w hl hE=>⟨[],by rw [List.append_nil];exact h.stay hl,by rw [if_neg hE];rfl⟩)
  obtain ⟨k,rfl⟩:∃ k:Nat,n=(k:Int):=⟨n.toNat,by omega⟩
  refine (lay_d (h.below hl) (d+1) nm k h3 (by omega)).mono fun e w' ⟨a1,e',a2,a3,a4,a5⟩=>⟨a1,[e'],a2.pre hl,?_⟩
  by_cases hE:dayE es.length (wdD es) (ldC cs d nm) (k:Int)=0
  ·rw [if_pos hE];simp [Dv.q,a3,a4,a5]
  ·exact absurd (by rw [dayE,if_pos h5,if_neg (by omega),if_pos ⟨by omega,h4⟩]) hE
 ·have q1:dryE cs es d nm n=arrE d nm.data.toList:=by rw [dryE,if_neg e1]
  rw [q1,if_neg e1,if_neg e1]
  exact (ary_d1 d _ _ n nm _ e1 HA).mono fun e w' ⟨a1,a2⟩=>⟨a1,[],by rw [List.append_nil];exact h.stay a2,rfl⟩
theorem Zj4 {w:World} {N e s n m:Nat} {a:Option Addr} {cap:Nat} {xs ys:List Value} (h:w.ownsRow N e s (.slice a m cap) m (xs++ys)) (hx:xs.length=n * s) (hn:n≤m):w.ownsRow N e s (.slice a n cap) n xs:=by
 refine ⟨hx,?_⟩
 rcases h.2 with ⟨e1,e2⟩|⟨g,c,cur,e1,h1,h2,h3,h4,h5,h6⟩
 ·cases e1
  have:n=0:=by omega
  subst this
  exact .inl ⟨rfl,rfl⟩
 ·cases e1
  refine .inr ⟨g,cap,cur,rfl,h1,h2,by omega,h4,h5,?_⟩
  have:(cur.toList.take (m * s)).take (n * s)=xs:=by rw [h6,← hx];simp
  rwa [List.take_take,Nat.min_eq_left (Nat.mul_le_mul_right s hn)] at this
theorem Zgq (a:Option Addr) (m n c:Nat):(Value.slice a m c).ownBlock=(Value.slice a n c).ownBlock:=by cases a <;> rfl
theorem RhAt.cut {w:World} {S:Nat→Prop} {r b:Nat} {a1 a2:Option Addr} {m c1 c2:Nat} {es xs:List Dv} (h:RhAt w S r b (.slice a1 m c1) (.slice a2 m c2) (es++xs)) (hm:(es++xs).length=m):RhAt ((w.setCell ⟨r,1,none⟩ (.slice a1 es.length c1)).setCell ⟨r,2,none⟩ (.slice a2 es.length c2)) S r b (.slice a1 es.length c1) (.slice a2 es.length c2) es:=by
 have hle:es.length≤m:=by rw [← hm];simp
 have far:∀ k,k≠r→((w.setCell ⟨r,1,none⟩ (.slice a1 es.length c1)).setCell ⟨r,2,none⟩ (.slice a2 es.length c2)).heap[k]?=w.heap[k]?:=fun k hk=>(Below.heap_setCell _ _ _ _ hk).trans (Below.heap_setCell _ _ _ _ hk)
 have htw:=h.tw
 have hvw:=h.vw
 rw [hm,Zbf] at htw
 rw [hm,List.map_append] at hvw
 have t1:=Zj4 (n:=es.length) htw (by rw [Zew]) hle
 have v1:=Zj4 (n:=es.length) hvw (by simp) hle
 have hwd:=Xy es xs
 have h2:=h.n2
 have mem:∀ e∈es,e∈es++xs:=fun e he=>List.mem_append.2 (.inl he)
 have tne:=Zp h.tw h.hh (by decide)
 have vne:=Zp h.vw h.hh (by decide)
 refine { sz:=fun k hk=>by simpa using h.sz k hk,rS:=h.rS,tS:=fun k hk=>h.tS k ((Zgq _ _ _ _).trans hk),vS:=fun k hk=>h.vS k ((Zgq _ _ _ _).trans hk),eS:=fun e he g hg=>h.eS e (mem e he) g hg,hh:=?_,tw:=?_,vw:=?_,el:=fun e he g hg=>?_,no:=fun e he hn=>h.no e (mem e he) hn,dj:=fun i j o p g hi hj ho hp=>?_,n1:=by have:=h.n1;rw [List.length_append] at this;omega,n2:=by omega }
 ·rw [Go.Joins.block_setCell (i:=2) ((Go.Joins.block_setCell (i:=1) h.hh _))]
  simp
 ·exact Zw t1 (fun g hg=>far g (fun e=>tne (((Zgq _ _ _ _).trans hg).trans (congrArg some e))))
 ·exact Zw v1 (fun g hg=>far g (fun e=>vne (((Zgq _ _ _ _).trans hg).trans (congrArg some e))))
 ·have hb:=h.el e (mem e he) g hg
  refine (far g ?_).trans hb
  rintro rfl
  rw [h.hh] at hb
  simp at hb
 ·have lt:∀ {k:Nat} {z:Dv},es[k]?=some z→(es++xs)[k]?=some z:=fun {k z} hk=>by
   rw [List.getElem?_append_left (List.getElem?_eq_some_iff.1 hk).1];exact hk
  exact h.dj i j o p g (lt hi) (lt hj) ho hp
theorem Zev:∀ (es:List Dv) (k:Nat) (o o':Dv),es[k]?=some o→o'.d=o.d→o'.nm=o.nm→Yt (es.set k o')=Yt es
 | [],k,o,o',h,_,_=>by simp at h
 | p::r,0,o,o',h,h1,h2=>by
   simp at h;subst h
   simp [Yt,h1,h2]
 | p::r,k+1,o,o',h,h1,h2=>by
   simp only [List.set_cons_succ,Yt]
   rw [Zev r k o o' (by simpa using h) h1 h2]
theorem Zg9:∀ (es:List Dv) (k:Nat) (o o':Dv),es[k]?=some o→dvV o'=dvV o→(es.set k o').map dvV=es.map dvV
 | [],k,o,o',h,_=>by simp at h
 | p::r,0,o,o',h,h1=>by
   simp at h;subst h
   simp [h1]
 | p::r,k+1,o,o',h,h1=>by
   simp only [List.set_cons_succ,List.map_cons]
   rw [Zg9 r k o o' (by simpa using h) h1]
theorem Zja:∀ (es:List Dv) (k:Nat) (o o':Dv),es[k]?=some o→o'.vs.length=o.vs.length→wdD (es.set k o')=wdD es
 | [],k,o,o',h,_=>by simp at h
 | p::r,0,o,o',h,h1=>by
   simp at h;subst h
   simp [wdD,h1]
 | p::r,k+1,o,o',h,h1=>by
   simp only [List.set_cons_succ,wdD]
   rw [Zja r k o o' (by simpa using h) h1]
theorem RhAt.setV {w w':World} {S:Nat→Prop} {r b:Nat} {tv ev:Value} {es:List Dv} (h:RhAt w S r b tv ev es) {k g:Nat} {o:Dv} (hk:es[k]?=some o) (hg:o.eb=some g) (vs:List (Bool×Int)) (hl:vs.length=o.vs.length) (hz:w.heap.size≤w'.heap.size) (kp:∀ x,x<w.heap.size→x≠g→w'.heap[x]?=w.heap[x]?) (hb:w'.heap[g]?=some (.cells (Ya vs).toArray 38 (0,0))) :
 RhAt w' S r b tv ev (es.set k { o with vs:=vs }):=by
 have hm:=List.mem_of_getElem? hk
 have hgb:=h.el o hm g hg
 have n1:=Zp h.tw hgb (by decide)
 have n2:=Zp h.vw hgb (by decide)
 have n3:r≠g:=by rintro rfl;rw [h.hh] at hgb;simp at hgb
 have hlk:=(List.getElem?_eq_some_iff.1 hk).1
 have mem:∀ p∈es.set k { o with vs:=vs },p={ o with vs:=vs }∨(p∈es∧∃ j,j≠k∧es[j]?=some p):=fun p hp=>by
  obtain ⟨j,hj⟩:=List.mem_iff_getElem?.1 hp
  rw [List.getElem?_set] at hj
  by_cases e:k=j
  ·rw [if_pos e,if_pos hlk] at hj;exact .inl (by simpa using hj.symm)
  ·rw [if_neg e] at hj;exact .inr ⟨List.mem_of_getElem? hj,j,fun x=>e x.symm,hj⟩
 have eb_at:∀ (j:Nat) (p:Dv) (x:Nat),(es.set k { o with vs:=vs })[j]?=some p→p.eb=some x→∃ q,es[j]?=some q∧q.eb=some x:=fun j p x hj hx=>by
  rw [List.getElem?_set] at hj
  by_cases e:k=j
  ·rw [if_pos e,if_pos hlk] at hj
   simp at hj;subst hj;subst e
   exact ⟨o,hk,hx⟩
  ·rw [if_neg e] at hj;exact ⟨p,hj,hx⟩
 refine { sz:=fun x hx=>Nat.lt_of_lt_of_le (h.sz x hx) hz,rS:=h.rS,tS:=h.tS,vS:=h.vS,eS:=fun p hp x hx=>?_,hh:=(kp r h.cells.2.2.2.2 n3).trans h.hh,tw:=?_,vw:=?_,el:=fun p hp x hx=>?_,no:=fun p hp hn=>?_,dj:=fun j1 j2 p q x h1 h2 e1 e2=>?_,n1:=by simpa using h.n1,n2:=?_ }
 ·rcases mem p hp with rfl|⟨hp,_⟩
  ·exact h.eS o hm x hx
  ·exact h.eS p hp x hx
 ·rw [Zev es k o { o with vs:=vs } hk rfl rfl,List.length_set]
  exact Zw h.tw (fun x hx=>kp x (h.tw.lt x hx).2 (fun e=>n1 (hx.trans (congrArg some e))))
 ·rw [Zg9 es k o { o with vs:=vs } hk (by simp [dvV,hl]),List.length_set]
  exact Zw h.vw (fun x hx=>kp x (h.vw.lt x hx).2 (fun e=>n2 (hx.trans (congrArg some e))))
 ·rcases mem p hp with rfl|⟨hp,j,hj,hj2⟩
  ·obtain rfl:g=x:=by rw [hg] at hx;exact Option.some.inj hx
   exact hb
  ·have hne:x≠g:=fun e=>hj (h.dj j k p o g hj2 hk (by rw [← e];exact hx) hg)
   exact (kp x (h.lte hp hx) hne).trans (h.el p hp x hx)
 ·rcases mem p hp with rfl|⟨hp,_⟩
  ·rw [show ({ o with vs:=vs }:Dv).eb=some g from hg] at hn;cases hn
  ·exact h.no p hp hn
 ·obtain ⟨p',a1,a2⟩:=eb_at j1 p x h1 e1
  obtain ⟨q',b1,b2⟩:=eb_at j2 q x h2 e2
  exact h.dj j1 j2 p' q' x a1 b1 a2 b2
 ·rw [Zja es k o { o with vs:=vs } hk hl];exact h.n2
end Go.Proofs.YtlnojhhddinjkaaGreat
