import Derived.Test.YtgppadlkollfaaaGreatRfY
import Derived.Test.YtgppadlkollfaaaGreatCodeL
import Derived.Test.YtgppadlkollfaaaGreatLwG
set_option maxRecDepth 100000
namespace Go.Proofs.YtgppadlkollfaaaGreat
open Go.RowKit Go.Maps
theorem has9 (f:Int):bits .and .i64 f 9=1↔(hasI f 1=true∧hasI f 8=false):=by
  have e9:bits .and .i64 f 9=IntKind.wrap .i64 (((BitVec.ofInt 64 f).toNat &&& 9:Nat):Int):=rfl
  have e1:bits .and .i64 f 1=IntKind.wrap .i64 (((BitVec.ofInt 64 f).toNat &&& 1:Nat):Int):=rfl
  have e8:bits .and .i64 f 8=IntKind.wrap .i64 (((BitVec.ofInt 64 f).toNat &&& 8:Nat):Int):=rfl
  have h:(BitVec.ofInt 64 f).toNat &&& 9=((BitVec.ofInt 64 f).toNat &&& 1) ||| ((BitVec.ofInt 64 f).toNat &&& 8):=by
    rw [← Nat.and_or_distrib_left];rfl
  unfold hasI
  rw [e9,e1,e8,h]
  have h2:(BitVec.ofInt 64 f).toNat &&& 1≤1:=Nat.and_le_right
  have h8:(BitVec.ofInt 64 f).toNat &&& 8≤8:=Nat.and_le_right
  have h8':((BitVec.ofInt 64 f).toNat &&& 8) &&& 8=(BitVec.ofInt 64 f).toNat &&& 8:=by rw [Nat.and_assoc,Nat.and_self]
  generalize (BitVec.ofInt 64 f).toNat &&& 1=a at *
  generalize (BitVec.ofInt 64 f).toNat &&& 8=b at *
  have ha:a=0∨a=1:=by omega
  have hb:b=0∨b=8:=by
    have:b=0∨b=1∨b=2∨b=3∨b=4∨b=5∨b=6∨b=7∨b=8:=by omega
    rcases this with rfl|rfl|rfl|rfl|rfl|rfl|rfl|rfl|rfl
    · exact .inl rfl
    all_goals first|exact .inr rfl|exact absurd h8' (by decide)
  rcases ha with rfl|rfl <;> rcases hb with rfl|rfl <;> decide
set_option maxHeartbeats 1000000 in
theorem rLif_if {b:Nat} {cs:List Cls} {ps:List Plc} {W:World} (h:RAt b cs W) (ht:TwW cs ps) (hJ:WJ ps) (k:Nat) (q:Plc) (hq:ps[k]?=some q) (hf:ifcI ps (k:Int)=true) (nm ds:ByteArray):Calls Tryz.prog 56 #[.pointer (some ⟨b,0,none⟩),.int .i64 (k:Int),.string nm,.string ds] W fun e w'=>e=.returned (idE (lifR ps nm ds (k:Int)))∧Below W.heap.size W w':=by
  have h1:plcI ps (k:Int)=some q:=by rw [plcI_nat];exact hq
  have hL:lifR ps nm ds (k:Int)=firR [ownR ps nm ds (k:Int),topR ps nm ds,oneV ps (candL ps nm ds q.cl),someV (candL ps nm ds q.cl)]:=by
    rw [lifR,h1];simp only;rw [hf];rfl
  rw [hL]
  have HI:Hid (∀ w,Below W.heap.size W w→Calls Tryz.prog 80 #[.pointer (some ⟨b,0,none⟩),.int .i64 (k:Int)] w fun e w'=>e=.returned (.bool true)∧w'=w):=fun w hb=>(rIn_t (h.below hb) ht k).mono fun e w' zz=>⟨by rw [zz.1,h1];rfl,zz.2⟩
  have HF:Hid (∀ w,Below W.heap.size W w→Calls Tryz.prog 83 #[.pointer (some ⟨b,0,none⟩),.int .i64 (k:Int)] w fun e w'=>e=.returned (.bool true)∧w'=w):=fun w hb=>(rIsIface_c (h.below hb) k).mono fun e w' zz=>⟨by rw [zz.1,ifcC_eq ht,hf],zz.2⟩
  have F1:Hid (∀ (i:Int) w,Below W.heap.size W w→i=(k:Int)→Calls Tryz.prog 103 #[.pointer (some ⟨b,0,none⟩),.int .i64 i,.string nm,.string ds] w fun e w'=>e=.returned (.tuple #[.int .i64 (fndI ps (k:Int) nm ds).1,.int .i64 (fndI ps (k:Int) nm ds).2])∧Below w.heap.size w w'):=fun i w hb hi=>by rw [hi];exact rFind_c (h.below hb) ht k nm ds
  have F0:Hid (∀ (i:Int) w,Below W.heap.size W w→i=0→Calls Tryz.prog 103 #[.pointer (some ⟨b,0,none⟩),.int .i64 i,.string nm,.string ds] w fun e w'=>e=.returned (.tuple #[.int .i64 (fndI ps 0 nm ds).1,.int .i64 (fndI ps 0 nm ds).2])∧Below w.heap.size w w'):=fun i w hb hi=>by rw [hi];exact rFind_c (h.below hb) ht 0 nm ds
  have HS:Hid (∀ w,Below W.heap.size W w→Calls Tryz.prog 122 #[.pointer (some ⟨b,0,none⟩),.int .i64 (k:Int),.string nm,.string ds] w fun e w'=>e=.returned (idE (firR [oneV ps (candL ps nm ds q.cl),someV (candL ps nm ds q.cl)]))∧Below w.heap.size w w'):=fun w hb=>rSpc_c (h.below hb) ht hJ k q hq nm ds
  have hm0:(fndI ps 0 nm ds).2=0→∃ x,methI ps ((0:Nat):Int) (fndI ps 0 nm ds).1=some x:=fun h0=>fnd_meth h0
  have HFL:Hid (∀ w,Below W.heap.size W w→∀ x,methI ps ((0:Nat):Int) (fndI ps 0 nm ds).1=some x→∃ (g cap bk o n cm j:Nat),(fndI ps 0 nm ds).1=(j:Int)∧w.cell? ⟨b,0,none⟩=some (.slice (some ⟨g,0,none⟩) cs.length cap)∧b<w.heap.size∧g<w.heap.size∧((0:Nat):Int)<(cs.length:Int)∧w.cell? ⟨g,0 * 6+5,none⟩=some (.slice (some ⟨bk,o,none⟩) n cm)∧bk<w.heap.size∧(j:Int)<(n:Int)∧w.cell? ⟨bk,o+j * 6+2,none⟩=some (.int .i64 x.fl)):=fun w hb x hx=>(h.below hb).flag ht hx
  have hO1:ownR ps nm ds (k:Int)=if (fndI ps (k:Int) nm ds).2=0 then (((k:Int),(fndI ps (k:Int) nm ds).1),0) else ((0,0),(fndI ps (k:Int) nm ds).2):=rfl
  have hO0:ownR ps nm ds 0=if (fndI ps 0 nm ds).2=0 then ((0,(fndI ps 0 nm ds).1),0) else ((0,0),(fndI ps 0 nm ds).2):=rfl
  have hTT:topR ps nm ds=if (ownR ps nm ds 0).2=0 then (match methI ps (ownR ps nm ds 0).1.1 (ownR ps nm ds 0).1.2 with
    | some m=>if bits .and .i64 m.fl 9=1 then ownR ps nm ds 0 else ((0,0),6)
    | none=>((0,0),3)) else ((0,0),(ownR ps nm ds 0).2):=rfl
  generalize oneV ps (candL ps nm ds q.cl)=oV at *
  generalize someV (candL ps nm ds q.cl)=sV at *
  generalize topR ps nm ds=T at *
  rw [hO1]
  rw [hO0] at hTT
  generalize fndI ps (k:Int) nm ds=A at *
  obtain ⟨a1,a2⟩:=A
  simp only at F1 ⊢
  obtain ⟨⟨⟨S1,S2⟩,S3⟩,hSS⟩:∃ S,firR [oV,sV]=S:=⟨_,rfl⟩
  rw [hSS] at HS
  simp only [idE] at HS
  clear h hL hO1 hO0
  by_cases hA:a2=0
  · subst hA
    have e:firR [if (0:Int)=0 then (((k:Int),a1),(0:Int)) else ((0,0),0),T,oV,sV]=(((k:Int),a1),0):=by rw [if_pos rfl,firR,if_pos rfl]
    rw [e]
    clear e hTT HS hm0 HFL F0 ht hJ hq hf h1 hSS
    go_enter Tryz.func56,Tryz.ntmps56
    go_wp2_with (first
      | (go_at_call 80;refine (HI.out _ (by repeat (first|exact Below.refl _ _|refine Below.setCell ?_ (by simp;try omega) _|refine Below.alloc ?_ (by simp;try omega) _|refine Below.drew ?_))).mono ?_;rintro e w9 ⟨rfl,hw9⟩;rw [hw9];clear hw9 w9 HI)
      | (go_at_call 83;refine (HF.out _ (by repeat (first|exact Below.refl _ _|refine Below.setCell ?_ (by simp;try omega) _|refine Below.alloc ?_ (by simp;try omega) _|refine Below.drew ?_))).mono ?_;rintro e w9 ⟨rfl,hw9⟩;rw [hw9];clear hw9 w9 HF)
      | (go_at_call 103;refine (F1.out _ _ (by repeat (first|exact Below.refl _ _|refine Below.setCell ?_ (by simp;try omega) _|refine Below.alloc ?_ (by simp;try omega) _|refine Below.drew ?_)) (by rfl)).mono ?_;rintro e w1 ⟨rfl,hb⟩;have zd:w1.heap[W.heap.size]?=some (.cells #[.int .i64 0,.int .i64 0] 38 (0,0)):=(hb.block (W.heap.size) (by first|omega|(simp;try omega))).trans (by first|exact zB.out|exact hkeep zB.out|exact hkeep (hkeep zB.out)|exact halloc2 _ _ rfl|exact heap_alloc2_old _ _ _|exact heap_alloc2_new _ _ _|exact hkeep (halloc2 _ _ rfl)|exact hkeep (hkeep (halloc2 _ _ rfl))|exact halloc2 _ _ (by simp;done));(try clear zB zL zN z0 z1 zf0 zf1);have zB:Hid (w1.heap[W.heap.size]?=some (.cells #[.int .i64 0,.int .i64 0] 38 (0,0))):=zd;have z0:w1.cell? ⟨W.heap.size,0,none⟩=some (.int .i64 0):=(cell_of_row w1 (W.heap.size) 0 _ _ _ zd).trans rfl;have zf0:=frozen_of_row w1 (W.heap.size) 0 _ _ zd;have z1:w1.cell? ⟨W.heap.size,1,none⟩=some (.int .i64 0):=(cell_of_row w1 (W.heap.size) 1 _ _ _ zd).trans rfl;have zf1:=frozen_of_row w1 (W.heap.size) 1 _ _ zd;have zL:W.heap.size<w1.heap.size:=(Array.getElem?_eq_some_iff.1 zd).1;have zN:¬ W.heap.size=w1.heap.size:=(by omega);clear zd;have B1:Hid (Below W.heap.size W w1):=bstep (by repeat (first|exact Below.refl _ _|refine Below.setCell ?_ (by simp;try omega) _|refine Below.alloc ?_ (by simp;try omega) _|refine Below.drew ?_)) hb;clear hb F1))
    exact bodyPost_ret (v:=idE (((k:Int),a1),0)) (by simp [results,Tryz.results56,go_sem,idE, *]) rfl ⟨rfl,(by repeat (first|refine Below.setCell ?_ (by simp;try omega) _|refine Below.alloc ?_ (by have:=B1.out.size;simp;try omega) _|exact B1.out))⟩
  · have hAA:(if a2=0 then (((k:Int),a1),(0:Int)) else ((0,0),a2)).2≠0:=by rw [if_neg hA];exact hA
    rw [firR,if_neg hAA]
    clear hAA
    by_cases hB:(fndI ps 0 nm ds).2=0
    · obtain ⟨x,hx⟩:=hm0 hB
      rw [if_pos hB] at hTT
      simp only [if_true] at hTT
      have hx2:methI ps 0 (fndI ps 0 nm ds).1=some x:=hx
      rw [hx2] at hTT
      simp only at hTT
      replace HFL:Hid (∀ w,Below W.heap.size W w→∃ (g cap bk o n cm j:Nat),(fndI ps 0 nm ds).1=(j:Int)∧w.cell? ⟨b,0,none⟩=some (.slice (some ⟨g,0,none⟩) cs.length cap)∧b<w.heap.size∧g<w.heap.size∧((0:Nat):Int)<(cs.length:Int)∧w.cell? ⟨g,0 * 6+5,none⟩=some (.slice (some ⟨bk,o,none⟩) n cm)∧bk<w.heap.size∧(j:Int)<(n:Int)∧w.cell? ⟨bk,o+j * 6+2,none⟩=some (.int .i64 x.fl)):=fun w hb=>HFL.out w hb x hx
      have Ha:Hid (∀ (z:Int) (w:World),z=1→Calls Tryz.prog 85 #[.int .i64 x.fl,.int .i64 z] w fun e w'=>e=.returned (.bool (hasI x.fl 1))∧w'=w):=fun z w hz=>by rw [hz];exact has_any x.fl 1 w
      have Hb:Hid (∀ (z:Int) (w:World),z=8→Calls Tryz.prog 85 #[.int .i64 x.fl,.int .i64 z] w fun e w'=>e=.returned (.bool (hasI x.fl 8))∧w'=w):=fun z w hz=>by rw [hz];exact has_any x.fl 8 w
      have h9:=has9 x.fl
      rw [hB] at F0
      clear hx hx2 hm0 hB
      generalize (fndI ps 0 nm ds).1=f1 at *
      generalize hasI x.fl 1=z1 at *
      generalize hasI x.fl 8=z8 at *
      generalize bits .and .i64 x.fl 9=b9 at *
      generalize x.fl=fl at *
      clear ht hJ hq hf h1 x
      cases z1 with
      | true =>
        cases z8 with
        | false =>
          have e9:b9=1:=h9.2 ⟨rfl,rfl⟩
          rw [if_pos e9] at hTT
          rw [hTT,firR,if_pos rfl]
          clear e9 hTT h9 hSS HS
          go_enter Tryz.func56,Tryz.ntmps56
          go_wp2_with (first
            | (go_at_call 80;refine (HI.out _ (by repeat (first|exact Below.refl _ _|refine Below.setCell ?_ (by simp;try omega) _|refine Below.alloc ?_ (by simp;try omega) _|refine Below.drew ?_))).mono ?_;rintro e w9 ⟨rfl,hw9⟩;rw [hw9];clear hw9 w9 HI)
            | (go_at_call 83;refine (HF.out _ (by repeat (first|exact Below.refl _ _|refine Below.setCell ?_ (by simp;try omega) _|refine Below.alloc ?_ (by simp;try omega) _|refine Below.drew ?_))).mono ?_;rintro e w9 ⟨rfl,hw9⟩;rw [hw9];clear hw9 w9 HF)
            | (go_at_call 103;refine (F1.out _ _ (by repeat (first|exact Below.refl _ _|refine Below.setCell ?_ (by simp;try omega) _|refine Below.alloc ?_ (by simp;try omega) _|refine Below.drew ?_)) (by rfl)).mono ?_;rintro e w1 ⟨rfl,hb⟩;have zd:w1.heap[W.heap.size]?=some (.cells #[.int .i64 0,.int .i64 0] 38 (0,0)):=(hb.block (W.heap.size) (by first|omega|(simp;try omega))).trans (by first|exact zB.out|exact hkeep zB.out|exact hkeep (hkeep zB.out)|exact halloc2 _ _ rfl|exact heap_alloc2_old _ _ _|exact heap_alloc2_new _ _ _|exact hkeep (halloc2 _ _ rfl)|exact hkeep (hkeep (halloc2 _ _ rfl))|exact halloc2 _ _ (by simp;done));(try clear zB zL zN z0 z1 zf0 zf1);have zB:Hid (w1.heap[W.heap.size]?=some (.cells #[.int .i64 0,.int .i64 0] 38 (0,0))):=zd;have z0:w1.cell? ⟨W.heap.size,0,none⟩=some (.int .i64 0):=(cell_of_row w1 (W.heap.size) 0 _ _ _ zd).trans rfl;have zf0:=frozen_of_row w1 (W.heap.size) 0 _ _ zd;have z1:w1.cell? ⟨W.heap.size,1,none⟩=some (.int .i64 0):=(cell_of_row w1 (W.heap.size) 1 _ _ _ zd).trans rfl;have zf1:=frozen_of_row w1 (W.heap.size) 1 _ _ zd;have zL:W.heap.size<w1.heap.size:=(Array.getElem?_eq_some_iff.1 zd).1;have zN:¬ W.heap.size=w1.heap.size:=(by omega);clear zd;have B1:Hid (Below W.heap.size W w1):=bstep (by repeat (first|exact Below.refl _ _|refine Below.setCell ?_ (by simp;try omega) _|refine Below.alloc ?_ (by simp;try omega) _|refine Below.drew ?_)) hb;clear hb F1)
            | (go_at_call 103;refine (F0.out _ _ B1.out (by rfl)).mono ?_;rintro e w2 ⟨rfl,hb⟩;have zd:w2.heap[W.heap.size]?=some (.cells #[.int .i64 0,.int .i64 0] 38 (0,0)):=(hb.block (W.heap.size) (by first|omega|(simp;try omega))).trans (by first|exact zB.out|exact hkeep zB.out|exact hkeep (hkeep zB.out)|exact halloc2 _ _ rfl|exact heap_alloc2_old _ _ _|exact heap_alloc2_new _ _ _|exact hkeep (halloc2 _ _ rfl)|exact hkeep (hkeep (halloc2 _ _ rfl))|exact halloc2 _ _ (by simp;done));(try clear zB zL zN z0 z1 zf0 zf1);have zB:Hid (w2.heap[W.heap.size]?=some (.cells #[.int .i64 0,.int .i64 0] 38 (0,0))):=zd;have z0:w2.cell? ⟨W.heap.size,0,none⟩=some (.int .i64 0):=(cell_of_row w2 (W.heap.size) 0 _ _ _ zd).trans rfl;have zf0:=frozen_of_row w2 (W.heap.size) 0 _ _ zd;have z1:w2.cell? ⟨W.heap.size,1,none⟩=some (.int .i64 0):=(cell_of_row w2 (W.heap.size) 1 _ _ _ zd).trans rfl;have zf1:=frozen_of_row w2 (W.heap.size) 1 _ _ zd;have zL:W.heap.size<w2.heap.size:=(Array.getElem?_eq_some_iff.1 zd).1;have zN:¬ W.heap.size=w2.heap.size:=(by omega);clear zd;have B2:Hid (Below W.heap.size W w2):=bstep B1.out hb;obtain ⟨g9,cap9,bk9,o9,n9,cm9,j9,hj9,c91,c92,c93,c94,c95,c96,c97,c98⟩:=HFL.out w2 B2.out;simp only [Nat.zero_mul,Nat.zero_add] at c95;have c99:(0:Int)<(cs.length:Int):=c94;subst hj9;clear HFL;clear hb F0)
            | (go_at_call 85;refine (Ha.out _ _ (by rfl)).mono ?_;rintro e w9 ⟨rfl,hw9⟩;rw [hw9];clear hw9 w9 Ha)
            | (go_at_call 85;refine (Hb.out _ _ (by rfl)).mono ?_;rintro e w9 ⟨rfl,hw9⟩;rw [hw9];clear hw9 w9 Hb))
          exact bodyPost_ret (v:=idE ((0,(j9:Int)),0)) (by simp [results,Tryz.results56,go_sem,idE, *]) rfl ⟨rfl,(by repeat (first|refine Below.setCell ?_ (by simp;try omega) _|refine Below.alloc ?_ (by have:=B2.out.size;simp;try omega) _|exact B2.out))⟩
        | true =>
          have e9:¬ b9=1:=fun h=>by have:=(h9.1 h).2;cases this
          rw [if_neg e9] at hTT
          rw [hTT,firR,if_neg (by decide),hSS]
          clear e9 hTT h9 hSS
          go_enter Tryz.func56,Tryz.ntmps56
          go_wp2_with (first
            | (go_at_call 80;refine (HI.out _ (by repeat (first|exact Below.refl _ _|refine Below.setCell ?_ (by simp;try omega) _|refine Below.alloc ?_ (by simp;try omega) _|refine Below.drew ?_))).mono ?_;rintro e w9 ⟨rfl,hw9⟩;rw [hw9];clear hw9 w9 HI)
            | (go_at_call 83;refine (HF.out _ (by repeat (first|exact Below.refl _ _|refine Below.setCell ?_ (by simp;try omega) _|refine Below.alloc ?_ (by simp;try omega) _|refine Below.drew ?_))).mono ?_;rintro e w9 ⟨rfl,hw9⟩;rw [hw9];clear hw9 w9 HF)
            | (go_at_call 103;refine (F1.out _ _ (by repeat (first|exact Below.refl _ _|refine Below.setCell ?_ (by simp;try omega) _|refine Below.alloc ?_ (by simp;try omega) _|refine Below.drew ?_)) (by rfl)).mono ?_;rintro e w1 ⟨rfl,hb⟩;have zd:w1.heap[W.heap.size]?=some (.cells #[.int .i64 0,.int .i64 0] 38 (0,0)):=(hb.block (W.heap.size) (by first|omega|(simp;try omega))).trans (by first|exact zB.out|exact hkeep zB.out|exact hkeep (hkeep zB.out)|exact halloc2 _ _ rfl|exact heap_alloc2_old _ _ _|exact heap_alloc2_new _ _ _|exact hkeep (halloc2 _ _ rfl)|exact hkeep (hkeep (halloc2 _ _ rfl))|exact halloc2 _ _ (by simp;done));(try clear zB zL zN z0 z1 zf0 zf1);have zB:Hid (w1.heap[W.heap.size]?=some (.cells #[.int .i64 0,.int .i64 0] 38 (0,0))):=zd;have z0:w1.cell? ⟨W.heap.size,0,none⟩=some (.int .i64 0):=(cell_of_row w1 (W.heap.size) 0 _ _ _ zd).trans rfl;have zf0:=frozen_of_row w1 (W.heap.size) 0 _ _ zd;have z1:w1.cell? ⟨W.heap.size,1,none⟩=some (.int .i64 0):=(cell_of_row w1 (W.heap.size) 1 _ _ _ zd).trans rfl;have zf1:=frozen_of_row w1 (W.heap.size) 1 _ _ zd;have zL:W.heap.size<w1.heap.size:=(Array.getElem?_eq_some_iff.1 zd).1;have zN:¬ W.heap.size=w1.heap.size:=(by omega);clear zd;have B1:Hid (Below W.heap.size W w1):=bstep (by repeat (first|exact Below.refl _ _|refine Below.setCell ?_ (by simp;try omega) _|refine Below.alloc ?_ (by simp;try omega) _|refine Below.drew ?_)) hb;clear hb F1)
            | (go_at_call 103;refine (F0.out _ _ B1.out (by rfl)).mono ?_;rintro e w2 ⟨rfl,hb⟩;have zd:w2.heap[W.heap.size]?=some (.cells #[.int .i64 0,.int .i64 0] 38 (0,0)):=(hb.block (W.heap.size) (by first|omega|(simp;try omega))).trans (by first|exact zB.out|exact hkeep zB.out|exact hkeep (hkeep zB.out)|exact halloc2 _ _ rfl|exact heap_alloc2_old _ _ _|exact heap_alloc2_new _ _ _|exact hkeep (halloc2 _ _ rfl)|exact hkeep (hkeep (halloc2 _ _ rfl))|exact halloc2 _ _ (by simp;done));(try clear zB zL zN z0 z1 zf0 zf1);have zB:Hid (w2.heap[W.heap.size]?=some (.cells #[.int .i64 0,.int .i64 0] 38 (0,0))):=zd;have z0:w2.cell? ⟨W.heap.size,0,none⟩=some (.int .i64 0):=(cell_of_row w2 (W.heap.size) 0 _ _ _ zd).trans rfl;have zf0:=frozen_of_row w2 (W.heap.size) 0 _ _ zd;have z1:w2.cell? ⟨W.heap.size,1,none⟩=some (.int .i64 0):=(cell_of_row w2 (W.heap.size) 1 _ _ _ zd).trans rfl;have zf1:=frozen_of_row w2 (W.heap.size) 1 _ _ zd;have zL:W.heap.size<w2.heap.size:=(Array.getElem?_eq_some_iff.1 zd).1;have zN:¬ W.heap.size=w2.heap.size:=(by omega);clear zd;have B2:Hid (Below W.heap.size W w2):=bstep B1.out hb;obtain ⟨g9,cap9,bk9,o9,n9,cm9,j9,hj9,c91,c92,c93,c94,c95,c96,c97,c98⟩:=HFL.out w2 B2.out;simp only [Nat.zero_mul,Nat.zero_add] at c95;have c99:(0:Int)<(cs.length:Int):=c94;subst hj9;clear HFL;clear hb F0)
            | (go_at_call 85;refine (Ha.out _ _ (by rfl)).mono ?_;rintro e w9 ⟨rfl,hw9⟩;rw [hw9];clear hw9 w9 Ha)
            | (go_at_call 85;refine (Hb.out _ _ (by rfl)).mono ?_;rintro e w9 ⟨rfl,hw9⟩;rw [hw9];clear hw9 w9 Hb)
            | (go_at_call 122;refine (HS.out _ B2.out).mono ?_;rintro e w3 ⟨rfl,hb⟩;have zd:w3.heap[W.heap.size]?=some (.cells #[.int .i64 0,.int .i64 0] 38 (0,0)):=(hb.block (W.heap.size) (by first|omega|(simp;try omega))).trans (by first|exact zB.out|exact hkeep zB.out|exact hkeep (hkeep zB.out)|exact halloc2 _ _ rfl|exact heap_alloc2_old _ _ _|exact heap_alloc2_new _ _ _|exact hkeep (halloc2 _ _ rfl)|exact hkeep (hkeep (halloc2 _ _ rfl))|exact halloc2 _ _ (by simp;done));(try clear zB zL zN z0 z1 zf0 zf1);have zB:Hid (w3.heap[W.heap.size]?=some (.cells #[.int .i64 0,.int .i64 0] 38 (0,0))):=zd;have z0:w3.cell? ⟨W.heap.size,0,none⟩=some (.int .i64 0):=(cell_of_row w3 (W.heap.size) 0 _ _ _ zd).trans rfl;have zf0:=frozen_of_row w3 (W.heap.size) 0 _ _ zd;have z1:w3.cell? ⟨W.heap.size,1,none⟩=some (.int .i64 0):=(cell_of_row w3 (W.heap.size) 1 _ _ _ zd).trans rfl;have zf1:=frozen_of_row w3 (W.heap.size) 1 _ _ zd;have zL:W.heap.size<w3.heap.size:=(Array.getElem?_eq_some_iff.1 zd).1;have zN:¬ W.heap.size=w3.heap.size:=(by omega);clear zd;have B3:Hid (Below W.heap.size W w3):=bstep B2.out hb;clear hb HS))
          exact bodyPost_ret (v:=idE ((S1,S2),S3)) (by simp [results,Tryz.results56,go_sem,idE, *]) rfl ⟨rfl,(by repeat (first|refine Below.setCell ?_ (by simp;try omega) _|refine Below.alloc ?_ (by have:=B3.out.size;simp;try omega) _|exact B3.out))⟩
      | false =>
        have e9:¬ b9=1:=fun h=>by have:=(h9.1 h).1;cases this
        rw [if_neg e9] at hTT
        rw [hTT,firR,if_neg (by decide),hSS]
        clear e9 hTT h9 hSS Hb
        go_enter Tryz.func56,Tryz.ntmps56
        go_wp2_with (first
          | (go_at_call 80;refine (HI.out _ (by repeat (first|exact Below.refl _ _|refine Below.setCell ?_ (by simp;try omega) _|refine Below.alloc ?_ (by simp;try omega) _|refine Below.drew ?_))).mono ?_;rintro e w9 ⟨rfl,hw9⟩;rw [hw9];clear hw9 w9 HI)
          | (go_at_call 83;refine (HF.out _ (by repeat (first|exact Below.refl _ _|refine Below.setCell ?_ (by simp;try omega) _|refine Below.alloc ?_ (by simp;try omega) _|refine Below.drew ?_))).mono ?_;rintro e w9 ⟨rfl,hw9⟩;rw [hw9];clear hw9 w9 HF)
          | (go_at_call 103;refine (F1.out _ _ (by repeat (first|exact Below.refl _ _|refine Below.setCell ?_ (by simp;try omega) _|refine Below.alloc ?_ (by simp;try omega) _|refine Below.drew ?_)) (by rfl)).mono ?_;rintro e w1 ⟨rfl,hb⟩;have zd:w1.heap[W.heap.size]?=some (.cells #[.int .i64 0,.int .i64 0] 38 (0,0)):=(hb.block (W.heap.size) (by first|omega|(simp;try omega))).trans (by first|exact zB.out|exact hkeep zB.out|exact hkeep (hkeep zB.out)|exact halloc2 _ _ rfl|exact heap_alloc2_old _ _ _|exact heap_alloc2_new _ _ _|exact hkeep (halloc2 _ _ rfl)|exact hkeep (hkeep (halloc2 _ _ rfl))|exact halloc2 _ _ (by simp;done));(try clear zB zL zN z0 z1 zf0 zf1);have zB:Hid (w1.heap[W.heap.size]?=some (.cells #[.int .i64 0,.int .i64 0] 38 (0,0))):=zd;have z0:w1.cell? ⟨W.heap.size,0,none⟩=some (.int .i64 0):=(cell_of_row w1 (W.heap.size) 0 _ _ _ zd).trans rfl;have zf0:=frozen_of_row w1 (W.heap.size) 0 _ _ zd;have z1:w1.cell? ⟨W.heap.size,1,none⟩=some (.int .i64 0):=(cell_of_row w1 (W.heap.size) 1 _ _ _ zd).trans rfl;have zf1:=frozen_of_row w1 (W.heap.size) 1 _ _ zd;have zL:W.heap.size<w1.heap.size:=(Array.getElem?_eq_some_iff.1 zd).1;have zN:¬ W.heap.size=w1.heap.size:=(by omega);clear zd;have B1:Hid (Below W.heap.size W w1):=bstep (by repeat (first|exact Below.refl _ _|refine Below.setCell ?_ (by simp;try omega) _|refine Below.alloc ?_ (by simp;try omega) _|refine Below.drew ?_)) hb;clear hb F1)
          | (go_at_call 103;refine (F0.out _ _ B1.out (by rfl)).mono ?_;rintro e w2 ⟨rfl,hb⟩;have zd:w2.heap[W.heap.size]?=some (.cells #[.int .i64 0,.int .i64 0] 38 (0,0)):=(hb.block (W.heap.size) (by first|omega|(simp;try omega))).trans (by first|exact zB.out|exact hkeep zB.out|exact hkeep (hkeep zB.out)|exact halloc2 _ _ rfl|exact heap_alloc2_old _ _ _|exact heap_alloc2_new _ _ _|exact hkeep (halloc2 _ _ rfl)|exact hkeep (hkeep (halloc2 _ _ rfl))|exact halloc2 _ _ (by simp;done));(try clear zB zL zN z0 z1 zf0 zf1);have zB:Hid (w2.heap[W.heap.size]?=some (.cells #[.int .i64 0,.int .i64 0] 38 (0,0))):=zd;have z0:w2.cell? ⟨W.heap.size,0,none⟩=some (.int .i64 0):=(cell_of_row w2 (W.heap.size) 0 _ _ _ zd).trans rfl;have zf0:=frozen_of_row w2 (W.heap.size) 0 _ _ zd;have z1:w2.cell? ⟨W.heap.size,1,none⟩=some (.int .i64 0):=(cell_of_row w2 (W.heap.size) 1 _ _ _ zd).trans rfl;have zf1:=frozen_of_row w2 (W.heap.size) 1 _ _ zd;have zL:W.heap.size<w2.heap.size:=(Array.getElem?_eq_some_iff.1 zd).1;have zN:¬ W.heap.size=w2.heap.size:=(by omega);clear zd;have B2:Hid (Below W.heap.size W w2):=bstep B1.out hb;obtain ⟨g9,cap9,bk9,o9,n9,cm9,j9,hj9,c91,c92,c93,c94,c95,c96,c97,c98⟩:=HFL.out w2 B2.out;simp only [Nat.zero_mul,Nat.zero_add] at c95;have c99:(0:Int)<(cs.length:Int):=c94;subst hj9;clear HFL;clear hb F0)
          | (go_at_call 85;refine (Ha.out _ _ (by rfl)).mono ?_;rintro e w9 ⟨rfl,hw9⟩;rw [hw9];clear hw9 w9 Ha)
          | (go_at_call 122;refine (HS.out _ B2.out).mono ?_;rintro e w3 ⟨rfl,hb⟩;have zd:w3.heap[W.heap.size]?=some (.cells #[.int .i64 0,.int .i64 0] 38 (0,0)):=(hb.block (W.heap.size) (by first|omega|(simp;try omega))).trans (by first|exact zB.out|exact hkeep zB.out|exact hkeep (hkeep zB.out)|exact halloc2 _ _ rfl|exact heap_alloc2_old _ _ _|exact heap_alloc2_new _ _ _|exact hkeep (halloc2 _ _ rfl)|exact hkeep (hkeep (halloc2 _ _ rfl))|exact halloc2 _ _ (by simp;done));(try clear zB zL zN z0 z1 zf0 zf1);have zB:Hid (w3.heap[W.heap.size]?=some (.cells #[.int .i64 0,.int .i64 0] 38 (0,0))):=zd;have z0:w3.cell? ⟨W.heap.size,0,none⟩=some (.int .i64 0):=(cell_of_row w3 (W.heap.size) 0 _ _ _ zd).trans rfl;have zf0:=frozen_of_row w3 (W.heap.size) 0 _ _ zd;have z1:w3.cell? ⟨W.heap.size,1,none⟩=some (.int .i64 0):=(cell_of_row w3 (W.heap.size) 1 _ _ _ zd).trans rfl;have zf1:=frozen_of_row w3 (W.heap.size) 1 _ _ zd;have zL:W.heap.size<w3.heap.size:=(Array.getElem?_eq_some_iff.1 zd).1;have zN:¬ W.heap.size=w3.heap.size:=(by omega);clear zd;have B3:Hid (Below W.heap.size W w3):=bstep B2.out hb;clear hb HS))
        exact bodyPost_ret (v:=idE ((S1,S2),S3)) (by simp [results,Tryz.results56,go_sem,idE, *]) rfl ⟨rfl,(by repeat (first|refine Below.setCell ?_ (by simp;try omega) _|refine Below.alloc ?_ (by have:=B3.out.size;simp;try omega) _|exact B3.out))⟩
    · rw [if_neg hB] at hTT
      simp only [if_neg hB] at hTT
      have hT2:T.2≠0:=by rw [hTT];exact hB
      rw [firR,if_neg hT2,hSS]
      clear hTT hT2 hm0 HFL ht hJ hq hf h1 hSS
      generalize fndI ps 0 nm ds=F at *
      obtain ⟨f1,f2⟩:=F
      simp only at F0 hB
      go_enter Tryz.func56,Tryz.ntmps56
      go_wp2_with (first
        | (go_at_call 80;refine (HI.out _ (by repeat (first|exact Below.refl _ _|refine Below.setCell ?_ (by simp;try omega) _|refine Below.alloc ?_ (by simp;try omega) _|refine Below.drew ?_))).mono ?_;rintro e w9 ⟨rfl,hw9⟩;rw [hw9];clear hw9 w9 HI)
        | (go_at_call 83;refine (HF.out _ (by repeat (first|exact Below.refl _ _|refine Below.setCell ?_ (by simp;try omega) _|refine Below.alloc ?_ (by simp;try omega) _|refine Below.drew ?_))).mono ?_;rintro e w9 ⟨rfl,hw9⟩;rw [hw9];clear hw9 w9 HF)
        | (go_at_call 103;refine (F1.out _ _ (by repeat (first|exact Below.refl _ _|refine Below.setCell ?_ (by simp;try omega) _|refine Below.alloc ?_ (by simp;try omega) _|refine Below.drew ?_)) (by rfl)).mono ?_;rintro e w1 ⟨rfl,hb⟩;have zd:w1.heap[W.heap.size]?=some (.cells #[.int .i64 0,.int .i64 0] 38 (0,0)):=(hb.block (W.heap.size) (by first|omega|(simp;try omega))).trans (by first|exact zB.out|exact hkeep zB.out|exact hkeep (hkeep zB.out)|exact halloc2 _ _ rfl|exact heap_alloc2_old _ _ _|exact heap_alloc2_new _ _ _|exact hkeep (halloc2 _ _ rfl)|exact hkeep (hkeep (halloc2 _ _ rfl))|exact halloc2 _ _ (by simp;done));(try clear zB zL zN z0 z1 zf0 zf1);have zB:Hid (w1.heap[W.heap.size]?=some (.cells #[.int .i64 0,.int .i64 0] 38 (0,0))):=zd;have z0:w1.cell? ⟨W.heap.size,0,none⟩=some (.int .i64 0):=(cell_of_row w1 (W.heap.size) 0 _ _ _ zd).trans rfl;have zf0:=frozen_of_row w1 (W.heap.size) 0 _ _ zd;have z1:w1.cell? ⟨W.heap.size,1,none⟩=some (.int .i64 0):=(cell_of_row w1 (W.heap.size) 1 _ _ _ zd).trans rfl;have zf1:=frozen_of_row w1 (W.heap.size) 1 _ _ zd;have zL:W.heap.size<w1.heap.size:=(Array.getElem?_eq_some_iff.1 zd).1;have zN:¬ W.heap.size=w1.heap.size:=(by omega);clear zd;have B1:Hid (Below W.heap.size W w1):=bstep (by repeat (first|exact Below.refl _ _|refine Below.setCell ?_ (by simp;try omega) _|refine Below.alloc ?_ (by simp;try omega) _|refine Below.drew ?_)) hb;clear hb F1)
        | (go_at_call 103;refine (F0.out _ _ B1.out (by rfl)).mono ?_;rintro e w2 ⟨rfl,hb⟩;have zd:w2.heap[W.heap.size]?=some (.cells #[.int .i64 0,.int .i64 0] 38 (0,0)):=(hb.block (W.heap.size) (by first|omega|(simp;try omega))).trans (by first|exact zB.out|exact hkeep zB.out|exact hkeep (hkeep zB.out)|exact halloc2 _ _ rfl|exact heap_alloc2_old _ _ _|exact heap_alloc2_new _ _ _|exact hkeep (halloc2 _ _ rfl)|exact hkeep (hkeep (halloc2 _ _ rfl))|exact halloc2 _ _ (by simp;done));(try clear zB zL zN z0 z1 zf0 zf1);have zB:Hid (w2.heap[W.heap.size]?=some (.cells #[.int .i64 0,.int .i64 0] 38 (0,0))):=zd;have z0:w2.cell? ⟨W.heap.size,0,none⟩=some (.int .i64 0):=(cell_of_row w2 (W.heap.size) 0 _ _ _ zd).trans rfl;have zf0:=frozen_of_row w2 (W.heap.size) 0 _ _ zd;have z1:w2.cell? ⟨W.heap.size,1,none⟩=some (.int .i64 0):=(cell_of_row w2 (W.heap.size) 1 _ _ _ zd).trans rfl;have zf1:=frozen_of_row w2 (W.heap.size) 1 _ _ zd;have zL:W.heap.size<w2.heap.size:=(Array.getElem?_eq_some_iff.1 zd).1;have zN:¬ W.heap.size=w2.heap.size:=(by omega);clear zd;have B2:Hid (Below W.heap.size W w2):=bstep B1.out hb;clear hb F0)
        | (go_at_call 122;refine (HS.out _ B2.out).mono ?_;rintro e w3 ⟨rfl,hb⟩;have zd:w3.heap[W.heap.size]?=some (.cells #[.int .i64 0,.int .i64 0] 38 (0,0)):=(hb.block (W.heap.size) (by first|omega|(simp;try omega))).trans (by first|exact zB.out|exact hkeep zB.out|exact hkeep (hkeep zB.out)|exact halloc2 _ _ rfl|exact heap_alloc2_old _ _ _|exact heap_alloc2_new _ _ _|exact hkeep (halloc2 _ _ rfl)|exact hkeep (hkeep (halloc2 _ _ rfl))|exact halloc2 _ _ (by simp;done));(try clear zB zL zN z0 z1 zf0 zf1);have zB:Hid (w3.heap[W.heap.size]?=some (.cells #[.int .i64 0,.int .i64 0] 38 (0,0))):=zd;have z0:w3.cell? ⟨W.heap.size,0,none⟩=some (.int .i64 0):=(cell_of_row w3 (W.heap.size) 0 _ _ _ zd).trans rfl;have zf0:=frozen_of_row w3 (W.heap.size) 0 _ _ zd;have z1:w3.cell? ⟨W.heap.size,1,none⟩=some (.int .i64 0):=(cell_of_row w3 (W.heap.size) 1 _ _ _ zd).trans rfl;have zf1:=frozen_of_row w3 (W.heap.size) 1 _ _ zd;have zL:W.heap.size<w3.heap.size:=(Array.getElem?_eq_some_iff.1 zd).1;have zN:¬ W.heap.size=w3.heap.size:=(by omega);clear zd;have B3:Hid (Below W.heap.size W w3):=bstep B2.out hb;clear hb HS))
      exact bodyPost_ret (v:=idE ((S1,S2),S3)) (by simp [results,Tryz.results56,go_sem,idE, *]) rfl ⟨rfl,(by repeat (first|refine Below.setCell ?_ (by simp;try omega) _|refine Below.alloc ?_ (by have:=B3.out.size;simp;try omega) _|exact B3.out))⟩
theorem rLif_c {b:Nat} {cs:List Cls} {ps:List Plc} {W:World} (h:RAt b cs W) (ht:TwW cs ps) (hJ:WJ ps) (c:Int) (nm ds:ByteArray):Calls Tryz.prog 56 #[.pointer (some ⟨b,0,none⟩),.int .i64 c,.string nm,.string ds] W fun e w'=>e=.returned (idE (lifR ps nm ds c))∧Below W.heap.size W w':=by
  have HI:Hid (∀ w,Below W.heap.size W w→Calls Tryz.prog 80 #[.pointer (some ⟨b,0,none⟩),.int .i64 c] w fun e w'=>e=.returned (.bool (plcI ps c).isSome)∧w'=w):=fun w hb=>rIn_t (h.below hb) ht c
  rcases plcI_cases ps c with ⟨h1,_⟩|⟨k,q,rfl,h2,h1⟩
  · have e:lifR ps nm ds c=((0,0),3):=by rw [lifR,h1]
    rw [e]
    rw [h1] at HI
    simp only [Option.isSome_none] at HI
    clear h ht hJ e h1
    have B0:Hid (Below W.heap.size W W):=Below.refl _ _
    go_enter Tryz.func56,Tryz.ntmps56
    go_wp2_with (first
      | (go_at_call 80;refine (HI.out _ (by repeat (first|exact Below.refl _ _|refine Below.setCell ?_ (by simp;try omega) _|refine Below.alloc ?_ (by simp;try omega) _|refine Below.drew ?_))).mono ?_;rintro e w9 ⟨rfl,hw9⟩;rw [hw9];clear hw9 w9 HI))
    exact bodyPost_ret (v:=idE ((0,0),3)) (by simp [results,Tryz.results56,go_sem,idE, *]) rfl ⟨rfl,(by repeat (first|refine Below.setCell ?_ (by simp;try omega) _|refine Below.alloc ?_ (by have:=B0.out.size;simp;try omega) _|exact B0.out))⟩
  · cases hf:ifcI ps (k:Int) with
    | true=>exact rLif_if h ht hJ k q h2 hf nm ds
    | false =>
      have e:lifR ps nm ds (k:Int)=((0,0),23):=by rw [lifR,h1];simp only;rw [hf];rfl
      rw [e]
      have HF:Hid (∀ w,Below W.heap.size W w→Calls Tryz.prog 83 #[.pointer (some ⟨b,0,none⟩),.int .i64 (k:Int)] w fun e w'=>e=.returned (.bool false)∧w'=w):=fun w hb=>(rIsIface_c (h.below hb) k).mono fun e w' zz=>⟨by rw [zz.1,ifcC_eq ht,hf],zz.2⟩
      rw [h1] at HI
      simp only [Option.isSome_some] at HI
      clear h ht hJ e h1 h2 hf
      have B0:Hid (Below W.heap.size W W):=Below.refl _ _
      go_enter Tryz.func56,Tryz.ntmps56
      go_wp2_with (first
        | (go_at_call 80;refine (HI.out _ (by repeat (first|exact Below.refl _ _|refine Below.setCell ?_ (by simp;try omega) _|refine Below.alloc ?_ (by simp;try omega) _|refine Below.drew ?_))).mono ?_;rintro e w9 ⟨rfl,hw9⟩;rw [hw9];clear hw9 w9 HI)
        | (go_at_call 83;refine (HF.out _ (by repeat (first|exact Below.refl _ _|refine Below.setCell ?_ (by simp;try omega) _|refine Below.alloc ?_ (by simp;try omega) _|refine Below.drew ?_))).mono ?_;rintro e w9 ⟨rfl,hw9⟩;rw [hw9];clear hw9 w9 HF))
      exact bodyPost_ret (v:=idE ((0,0),23)) (by simp [results,Tryz.results56,go_sem,idE, *]) rfl ⟨rfl,(by repeat (first|refine Below.setCell ?_ (by simp;try omega) _|refine Below.alloc ?_ (by have:=B0.out.size;simp;try omega) _|exact B0.out))⟩
set_option maxHeartbeats 4000000 in
theorem built11_c (v:Value) (l:List Cls) (W:World) (h:IsClss W v l):Calls Tryz.prog 48 #[v] W fun e w'=>(∃ b,e=.returned (.pointer (some ⟨b,0,none⟩))∧WAt b (wld l) w')∧Below W.heap.size W w':=by
  have hCW:=clss_w h
  obtain ⟨ao,cap,rfl,h1,h2,h3⟩:=h
  unfold maxLen at h2
  obtain ⟨L,hL⟩:∃ L,l.length=L:=⟨_,rfl⟩
  have HL:Hid (l.length=L):=hL
  have HI:Hid _:=h3
  have HCW:Hid (∀ c∈l,ClsW c):=hCW
  rw [hL] at h1 ⊢
  clear hL h3 hCW
  have HN:Hid (∀ w:World,Calls Tryz.prog 66 #[] w fun e w'=>e=.returned (.pointer (some ⟨w.heap.size+1,0,none⟩))∧(∃ vp pv,HW w' w.heap.size (w.heap.size+1) w.heap.size P3 vp pv)∧Below w.heap.size w w'):=new_any
  go_enter Tryz.func48,Tryz.ntmps48
  go_wp2_with (first
    | (go_at_call 66;refine (HN.out _).mono ?_;rintro e w2 ⟨rfl,hw,hb⟩;have H2:Hid (∃ vp pv,HW w2 W.heap.size (W.heap.size+1) W.heap.size P3 vp pv):=hw;have B2:Hid (Below W.heap.size W w2):=hb;clear hb hw HN))
  go_loopw [4] (fun iv wr=>∃ (i:Nat),iv=.int .i64 i∧i≤L∧Hid (∃ vp pv,HW wr W.heap.size (W.heap.size+1) W.heap.size (wld (l.take i)) vp pv)∧Hid (Below W.heap.size W wr)) (fun iv _=>L - (intOf iv).toNat)
  case atStart=>exact ⟨0,rfl,Nat.zero_le _,H2,B2⟩
  case round =>
    clear H2 B2
    obtain ⟨i,rfl,hi,hHW,hB⟩:=hrel
    by_cases hlt:i<L
    · obtain ⟨c,hc⟩:∃ c,l[i]?=some c:=⟨_,List.getElem?_eq_getElem (by rw [HL.out];exact hlt)⟩
      obtain ⟨bk,o,rfl,hbk,hcl⟩:=HI.out (fun e=>by rw [e] at hc;simp at hc)
      obtain ⟨vi,vm,hcell,hin⟩:=hcl i c hc
      have bel:Below W.heap.size W wr:=hB.out
      have p0:wr.cell? ⟨bk,o+i * 6,none⟩=some (.string c.nm):=(bel.cell (p:=⟨bk,o+i * 6,none⟩) hbk).trans (hcell 0 _ rfl)
      have p1:wr.cell? ⟨bk,o+i * 6+1,none⟩=some (.string c.su):=(bel.cell (p:=⟨bk,o+i * 6+1,none⟩) hbk).trans (hcell 1 _ rfl)
      have p2:wr.cell? ⟨bk,o+i * 6+2,none⟩=some vi:=(bel.cell (p:=⟨bk,o+i * 6+2,none⟩) hbk).trans (hcell 2 _ rfl)
      have p3:wr.cell? ⟨bk,o+i * 6+3,none⟩=some (.int .i64 c.fl):=(bel.cell (p:=⟨bk,o+i * 6+3,none⟩) hbk).trans (hcell 3 _ rfl)
      have p4:wr.cell? ⟨bk,o+i * 6+4,none⟩=some (.int .i64 c.ld):=(bel.cell (p:=⟨bk,o+i * 6+4,none⟩) hbk).trans (hcell 4 _ rfl)
      have p5:wr.cell? ⟨bk,o+i * 6+5,none⟩=some vm:=(bel.cell (p:=⟨bk,o+i * 6+5,none⟩) hbk).trans (hcell 5 _ rfl)
      have hWI:WI (wld (l.take i)):=wld_wi _ (fun c hc=>HCW.out c (List.mem_of_mem_take hc))
      have HD:Hid (Calls Tryz.prog 60 #[.pointer (some ⟨W.heap.size+1,0,none⟩),.agg #[.string c.nm,.string c.su,vi,.int .i64 c.fl,.int .i64 c.ld,vm]] wr fun e w'=>(∃ u,e=.returned u)∧Hid (∃ vp pv,HW w' W.heap.size (W.heap.size+1) W.heap.size (wld (l.take (i+1))) vp pv)∧Hid (Below W.heap.size W w')):=by
        obtain ⟨vp,pv,hw⟩:=hHW.out
        refine (define_any W.heap.size (W.heap.size+1) W.heap.size _ vp pv c vi vm wr hw hB.out.size (hin.keep bel) hWI.nm).mono ?_
        rintro e w' ⟨rfl,hw',hb',_⟩
        rw [wld_at hc]
        exact ⟨⟨_,rfl⟩,hw',hB.out.trans hb'⟩
      clear hcl hcell hin hc bel hWI hHW hB HI
      go_wp2_with (go_at_call 60;refine HD.out.mono ?_;rintro e w3 ⟨⟨u3,rfl⟩,hw3,hb3⟩;clear HD)
      go_roundw
      case rel=>exact ⟨i+1,by go_num,by omega,hw3,hb3⟩
      case measure=>simp [intOf];omega
    · have e:i=L:=by omega
      subst e
      have HF:Hid (WAt (W.heap.size+1) (wld l) wr):=by
        obtain ⟨vp,pv,hw⟩:=hHW.out
        rw [List.take_of_length_le (by rw [HL.out];exact Nat.le_refl _)] at hw
        exact hw.wat
      clear hHW HI
      go_wp2
      exact bodyPost_ret (results_tmp rfl _ _ _) rfl ⟨⟨_,rfl,HF.out⟩,hB.out⟩
def strObj:ByteArray:=⟨#[79,98,106,101,99,116]⟩
def strId:ByteArray:=⟨#[105,100]⟩
def strD:ByteArray:=⟨#[40,41,73]⟩
theorem met3:metR P3 0 false strObj strId strD=((0,1),0):=by kernel_rfl
theorem awake11_c (W:World):Calls Tryz.prog 46 #[] W fun e w'=>e=.returned (.bool true)∧Below W.heap.size W w':=by
  have HN:Hid (∀ w:World,Calls Tryz.prog 66 #[] w fun e w'=>∃ b,e=.returned (.pointer (some ⟨b,0,none⟩))∧WAt b P3 w'∧Below w.heap.size w w'):=fun w=>(new_any w).mono fun e w' zz=>⟨_,zz.1,by obtain ⟨vp,pv,hw⟩:=zz.2.1;exact hw.wat,zz.2.2⟩
  have HM:Hid (∀ (w:World) (b:Nat),WAt b P3 w→Calls Tryz.prog 47 #[.pointer (some ⟨b,0,none⟩),.int .i64 0,.agg #[.bool false,.string ⟨#[79,98,106,101,99,116]⟩,.string ⟨#[105,100]⟩,.string ⟨#[40,41,73]⟩]] w fun e w'=>e=.returned (.tuple #[.agg #[.int .i64 0,.int .i64 1],.int .i64 0])∧Below w.heap.size w w'):=fun w b h=>(met_c h wi3 0 false strObj strId strD (by decide) (by decide) (by decide)).mono fun e w' zz=>⟨by rw [zz.1,met3];rfl,zz.2⟩
  have BB:Hid (Below W.heap.size W W):=Below.refl _ _
  go_enter Tryz.func46,Tryz.ntmps46
  go_wp2_with (first
    | (go_at_call 66;refine (HN.out _).mono ?_;rintro e w1 ⟨b,rfl,hw,hb⟩;have BB2:Below W.heap.size W w1:=bstep (by repeat (first|exact BB.out|exact Below.refl _ _|refine Below.setCell ?_ (by simp;try omega) _|refine Below.alloc ?_ (by have:=BB.out.size;simp;try omega) _|refine Below.drew ?_)) hb;clear BB;have BB:Hid (Below W.heap.size W w1):=BB2;(try clear HH);have HH:Hid (WAt b P3 w1):=hw;clear hw hb BB2)
    | (go_at_call 47;refine (HM.out _ _ HH.out).mono ?_;rintro e w2 ⟨rfl,hb⟩;have BB2:=bstep BB.out hb;clear BB;have BB:Hid (Below W.heap.size W w2):=BB2;clear hb BB2 HM))
  exact bodyPost_ret (results_tmp rfl _ _ _) rfl ⟨rfl,(by repeat (first|exact BB.out|exact Below.refl _ _|refine Below.setCell ?_ (by simp;try omega) _|refine Below.alloc ?_ (by have:=BB.out.size;simp;try omega) _|refine Below.drew ?_))⟩
set_option maxHeartbeats 4000000 in
theorem ResolvePlays_any (v:Value) (l:List Cls) (d c:Int) (tx nm ds:ByteArray) (W:World) (h:IsClss W v l) (htx:tx.size≤maxLen) (_:nm.size≤maxLen) (_:ds.size≤maxLen):Calls Tryz.prog 9 #[v,.int .i64 d,.int .i64 c,.string tx,.string nm,.string ds] W fun e w'=>e=.returned (.bool true)∧Below W.heap.size W w':=by
  have hCW:=clss_w h
  obtain ⟨hWI,hWJ⟩:=wld_wj l hCW
  have hT:=twW l hCW
  obtain ⟨ps,hps⟩:∃ ps,ps=wld l:=⟨_,rfl⟩
  obtain ⟨cs,hcs⟩:∃ cs,cs=wldC l:=⟨_,rfl⟩
  rw [← hps] at hWI hWJ hT
  rw [← hcs] at hT
  have HA:Hid (∀ w:World,Calls Tryz.prog 46 #[] w fun e w'=>e=.returned (.bool true)∧Below w.heap.size w w'):=awake11_c
  have HB:Hid (∀ w:World,Below W.heap.size W w→Calls Tryz.prog 48 #[v] w fun e w'=>(∃ b,e=.returned (.pointer (some ⟨b,0,none⟩))∧WAt b ps w')∧Below w.heap.size w w'):=fun w hb=>by rw [hps];exact built11_c v l w (clss_keep h hb)
  have HO:Hid (∀ w:World,Below W.heap.size W w→Calls Tryz.prog 17 #[v] w fun e w'=>(∃ b,e=.returned (.pointer (some ⟨b,0,none⟩))∧RAt b cs w')∧Below w.heap.size w w'):=fun w hb=>by rw [hcs];exact of_c v l w (clss_keep h hb)
  have K1:Hid (∀ b w,WAt b ps w→Calls Tryz.prog 50 #[.pointer (some ⟨b,0,none⟩),.int .i64 d,.string tx] w fun e w'=>e=.returned (tyE (clsR ps d tx.data.toList))∧Below w.heap.size w w'):=fun b w hw=>cls_c hw hWI d tx htx
  have K2:Hid (∀ b w,RAt b cs w→Calls Tryz.prog 51 #[.pointer (some ⟨b,0,none⟩),.int .i64 d,.string tx] w fun e w'=>e=.returned (tyE (clsR ps d tx.data.toList))∧Below w.heap.size w w'):=fun b w hw=>rCls_c hw hT d tx htx
  have L1:Hid (∀ b w,WAt b ps w→Calls Tryz.prog 53 #[.pointer (some ⟨b,0,none⟩),.int .i64 c,.string nm,.string ds] w fun e w'=>e=.returned (idE (lookR ps nm ds c))∧Below w.heap.size w w'):=fun b w hw=>look_c hw hWI c nm ds
  have L2:Hid (∀ b w,RAt b cs w→Calls Tryz.prog 54 #[.pointer (some ⟨b,0,none⟩),.int .i64 c,.string nm,.string ds] w fun e w'=>e=.returned (idE (lookR ps nm ds c))∧Below w.heap.size w w'):=fun b w hw=>rLook_c hw hT hWJ c nm ds
  have Q1:Hid (∀ b w,WAt b ps w→Calls Tryz.prog 55 #[.pointer (some ⟨b,0,none⟩),.int .i64 c,.string nm,.string ds] w fun e w'=>e=.returned (idE (lifR ps nm ds c))∧Below w.heap.size w w'):=fun b w hw=>lif_c hw hWI c nm ds
  have Q2:Hid (∀ b w,RAt b cs w→Calls Tryz.prog 56 #[.pointer (some ⟨b,0,none⟩),.int .i64 c,.string nm,.string ds] w fun e w'=>e=.returned (idE (lifR ps nm ds c))∧Below w.heap.size w w'):=fun b w hw=>rLif_c hw hT hWJ c nm ds
  generalize clsR ps d tx.data.toList=KK at *
  obtain ⟨⟨t1,t2⟩,t3⟩:=KK
  generalize lookR ps nm ds c=OO at *
  obtain ⟨⟨o1,o2⟩,o3⟩:=OO
  generalize lifR ps nm ds c=SSS at *
  obtain ⟨⟨s1,s2⟩,s3⟩:=SSS
  simp only [idE,tyE] at K1 K2 L1 L2 Q1 Q2
  have ST:Hid (∀ w:World,Calls Tryz.prog 52 #[.agg #[.int .i64 t1,.string t2],.agg #[.int .i64 t1,.string t2]] w fun e w'=>e=.returned (.bool true)∧Below w.heap.size w w'):=fun w=>(tySame_any t1 t1 t2 t2 w).mono fun e w' zz=>⟨by rw [zz.1];simp,zz.2⟩
  have SO:Hid (∀ (p q:Value) (w:World) (_:Unit),p=.agg #[.int .i64 o1,.int .i64 o2]→q=.agg #[.int .i64 o1,.int .i64 o2]→Calls Tryz.prog 33 #[p,q] w fun e w'=>e=.returned (.bool true)∧Below w.heap.size w w'):=fun p q w _ hp hq=>by rw [hp,hq];exact (sameID_c (o1,o2) (o1,o2) w).mono fun e w' zz=>⟨by rw [zz.1];simp,zz.2⟩
  have SS:Hid (∀ (p q:Value) (w:World) (_:Unit),p=.agg #[.int .i64 s1,.int .i64 s2]→q=.agg #[.int .i64 s1,.int .i64 s2]→Calls Tryz.prog 33 #[p,q] w fun e w'=>e=.returned (.bool true)∧Below w.heap.size w w'):=fun p q w _ hp hq=>by rw [hp,hq];exact (sameID_c (s1,s2) (s1,s2) w).mono fun e w' zz=>⟨by rw [zz.1];simp,zz.2⟩
  clear h hCW hWI hWJ hT hps hcs htx
  go_enter Tryz.func9,Tryz.ntmps9
  go_wp2_with (first
    | (go_at_call 46;refine (HA.out _).mono ?_;rintro e w1 ⟨rfl,hb⟩;have BB:Hid (Below W.heap.size W w1):=hb;clear hb HA)
    | (go_at_call 48;refine (HB.out _ BB.out).mono ?_;rintro e w2 ⟨⟨b,rfl,hw⟩,hb⟩;have HH:Hid (WAt b ps w2):=hw;have BB2:Below W.heap.size W w2:=bstep BB.out hb;clear BB;have BB:Hid (Below W.heap.size W w2):=BB2;clear hb HB hw BB2)
    | (go_at_call 17;refine (HO.out _ BB.out).mono ?_;rintro e w3 ⟨⟨bx,rfl,hw⟩,hb⟩;have HR:Hid (RAt bx cs w3):=hw;have HH2:=HH.out.below hb;clear HH;have HH:Hid (WAt b ps w3):=HH2;have BB2:Below W.heap.size W w3:=bstep BB.out hb;clear BB;have BB:Hid (Below W.heap.size W w3):=BB2;clear hb HO hw BB2 HH2)
    | (go_at_call 50;refine (K1.out _ _ HH.out).mono ?_;rintro e w4 ⟨rfl,hb⟩;have C4:Hid (Below w3.heap.size w3 w4):=hb;have hl4:w3.heap.size≤w4.heap.size:=hb.size;clear hb K1)
    | (go_at_call 51;refine (K2.out _ _ (HR.out.below (C4.out.alloc C4.out.size _))).mono ?_;rintro e w5 ⟨rfl,hb⟩;have tad:w5.heap[w4.heap.size]?=some (.cells #[.int .i64 t1,.string t2] 24 (0,0)):=(hb.block (w4.heap.size) (by first|omega|(simp;try omega))).trans (by first|exact taB.out|exact hkeep taB.out|exact hkeep (hkeep taB.out)|exact halloc2 _ _ rfl|exact heap_alloc2_old _ _ _|exact heap_alloc2_new _ _ _|exact hkeep (halloc2 _ _ rfl)|exact hkeep (hkeep (halloc2 _ _ rfl))|exact halloc2 _ _ (by simp;done));(try clear taB taL taN ta0 ta1 taf0 taf1);have taB:Hid (w5.heap[w4.heap.size]?=some (.cells #[.int .i64 t1,.string t2] 24 (0,0))):=tad;have ta0:w5.cell? ⟨w4.heap.size,0,none⟩=some (.int .i64 t1):=(cell_of_row w5 (w4.heap.size) 0 _ _ _ tad).trans rfl;have taf0:=frozen_of_row w5 (w4.heap.size) 0 _ _ tad;have ta1:w5.cell? ⟨w4.heap.size,1,none⟩=some (.string t2):=(cell_of_row w5 (w4.heap.size) 1 _ _ _ tad).trans rfl;have taf1:=frozen_of_row w5 (w4.heap.size) 1 _ _ tad;have taL:w4.heap.size<w5.heap.size:=(Array.getElem?_eq_some_iff.1 tad).1;have taN:¬ w4.heap.size=w5.heap.size:=(by omega);clear tad;have C5:Hid (Below w3.heap.size w3 w5):=bstep (C4.out.alloc C4.out.size _) hb;clear hb K2)
    | (go_at_call 52;refine (ST.out _).mono ?_;rintro e w6 ⟨rfl,hb⟩;have C6:Hid (Below w3.heap.size w3 w6):=bstep (C5.out.alloc C5.out.size _) hb;clear hb ST)
    | (go_at_call 53;refine (L1.out _ _ (HH.out.below C6.out)).mono ?_;rintro e w7 ⟨rfl,hb⟩;have C7:Hid (Below w3.heap.size w3 w7):=bstep (C6.out) hb;have hl7:w3.heap.size≤w7.heap.size:=C7.out.size;clear hb L1)
    | (go_at_call 54;refine (L2.out _ _ (HR.out.below (C7.out.alloc C7.out.size _))).mono ?_;rintro e w8 ⟨rfl,hb⟩;have mmd:w8.heap[w7.heap.size]?=some (.cells #[.int .i64 o1,.int .i64 o2] 38 (0,0)):=(hb.block (w7.heap.size) (by first|omega|(simp;try omega))).trans (by first|exact mmB.out|exact hkeep mmB.out|exact hkeep (hkeep mmB.out)|exact halloc2 _ _ rfl|exact heap_alloc2_old _ _ _|exact heap_alloc2_new _ _ _|exact hkeep (halloc2 _ _ rfl)|exact hkeep (hkeep (halloc2 _ _ rfl))|exact halloc2 _ _ (by simp;done));(try clear mmB mmL mmN mm0 mm1 mmf0 mmf1);have mmB:Hid (w8.heap[w7.heap.size]?=some (.cells #[.int .i64 o1,.int .i64 o2] 38 (0,0))):=mmd;have mm0:w8.cell? ⟨w7.heap.size,0,none⟩=some (.int .i64 o1):=(cell_of_row w8 (w7.heap.size) 0 _ _ _ mmd).trans rfl;have mmf0:=frozen_of_row w8 (w7.heap.size) 0 _ _ mmd;have mm1:w8.cell? ⟨w7.heap.size,1,none⟩=some (.int .i64 o2):=(cell_of_row w8 (w7.heap.size) 1 _ _ _ mmd).trans rfl;have mmf1:=frozen_of_row w8 (w7.heap.size) 1 _ _ mmd;have mmL:w7.heap.size<w8.heap.size:=(Array.getElem?_eq_some_iff.1 mmd).1;have mmN:¬ w7.heap.size=w8.heap.size:=(by omega);clear mmd;have C8:Hid (Below w3.heap.size w3 w8):=bstep (C7.out.alloc C7.out.size _) hb;have hl8:w3.heap.size≤w8.heap.size:=C8.out.size;clear hb L2)
    | (go_at_call 33;refine (SO.out _ _ _ () (by rfl) (by rfl)).mono ?_;rintro e w9 ⟨rfl,hb⟩;have hmn:¬ w7.heap.size=w8.heap.size:=(by omega);have hnm:¬ w8.heap.size=w7.heap.size:=(by omega);have mmd:w9.heap[w7.heap.size]?=some (.cells #[.int .i64 o1,.int .i64 o2] 38 (0,0)):=(hb.block (w7.heap.size) (by first|omega|(simp;try omega))).trans (by first|exact mmB.out|exact hkeep mmB.out|exact hkeep (hkeep mmB.out)|exact halloc2 _ _ rfl|exact heap_alloc2_old _ _ _|exact heap_alloc2_new _ _ _|exact hkeep (halloc2 _ _ rfl)|exact hkeep (hkeep (halloc2 _ _ rfl))|exact halloc2 _ _ (by simp;done));(try clear mmB mmL mmN mm0 mm1 mmf0 mmf1);have mmB:Hid (w9.heap[w7.heap.size]?=some (.cells #[.int .i64 o1,.int .i64 o2] 38 (0,0))):=mmd;have mm0:w9.cell? ⟨w7.heap.size,0,none⟩=some (.int .i64 o1):=(cell_of_row w9 (w7.heap.size) 0 _ _ _ mmd).trans rfl;have mmf0:=frozen_of_row w9 (w7.heap.size) 0 _ _ mmd;have mm1:w9.cell? ⟨w7.heap.size,1,none⟩=some (.int .i64 o2):=(cell_of_row w9 (w7.heap.size) 1 _ _ _ mmd).trans rfl;have mmf1:=frozen_of_row w9 (w7.heap.size) 1 _ _ mmd;have mmL:w7.heap.size<w9.heap.size:=(Array.getElem?_eq_some_iff.1 mmd).1;have mmN:¬ w7.heap.size=w9.heap.size:=(by omega);clear mmd;have nnd:w9.heap[w8.heap.size]?=some (.cells #[.int .i64 o1,.int .i64 o2] 38 (0,0)):=(hb.block (w8.heap.size) (by first|omega|(simp;try omega))).trans (by first|exact nnB.out|exact hkeep nnB.out|exact hkeep (hkeep nnB.out)|exact halloc2 _ _ rfl|exact heap_alloc2_old _ _ _|exact heap_alloc2_new _ _ _|exact hkeep (halloc2 _ _ rfl)|exact hkeep (hkeep (halloc2 _ _ rfl))|exact halloc2 _ _ (by simp;done));(try clear nnB nnL nnN nn0 nn1 nnf0 nnf1);have nnB:Hid (w9.heap[w8.heap.size]?=some (.cells #[.int .i64 o1,.int .i64 o2] 38 (0,0))):=nnd;have nn0:w9.cell? ⟨w8.heap.size,0,none⟩=some (.int .i64 o1):=(cell_of_row w9 (w8.heap.size) 0 _ _ _ nnd).trans rfl;have nnf0:=frozen_of_row w9 (w8.heap.size) 0 _ _ nnd;have nn1:w9.cell? ⟨w8.heap.size,1,none⟩=some (.int .i64 o2):=(cell_of_row w9 (w8.heap.size) 1 _ _ _ nnd).trans rfl;have nnf1:=frozen_of_row w9 (w8.heap.size) 1 _ _ nnd;have nnL:w8.heap.size<w9.heap.size:=(Array.getElem?_eq_some_iff.1 nnd).1;have nnN:¬ w8.heap.size=w9.heap.size:=(by omega);clear nnd;have C9:Hid (Below w3.heap.size w3 w9):=bstep (C8.out.alloc C8.out.size _) hb;clear hb SO)
    | (go_at_call 55;refine (Q1.out _ _ (HH.out.below C9.out)).mono ?_;rintro e w10 ⟨rfl,hb⟩;have mmd:w10.heap[w7.heap.size]?=some (.cells #[.int .i64 o1,.int .i64 o2] 38 (0,0)):=(hb.block (w7.heap.size) (by first|omega|(simp;try omega))).trans (by first|exact mmB.out|exact hkeep mmB.out|exact hkeep (hkeep mmB.out)|exact halloc2 _ _ rfl|exact heap_alloc2_old _ _ _|exact heap_alloc2_new _ _ _|exact hkeep (halloc2 _ _ rfl)|exact hkeep (hkeep (halloc2 _ _ rfl))|exact halloc2 _ _ (by simp;done));(try clear mmB mmL mmN mm0 mm1 mmf0 mmf1);have mmB:Hid (w10.heap[w7.heap.size]?=some (.cells #[.int .i64 o1,.int .i64 o2] 38 (0,0))):=mmd;have mm0:w10.cell? ⟨w7.heap.size,0,none⟩=some (.int .i64 o1):=(cell_of_row w10 (w7.heap.size) 0 _ _ _ mmd).trans rfl;have mmf0:=frozen_of_row w10 (w7.heap.size) 0 _ _ mmd;have mm1:w10.cell? ⟨w7.heap.size,1,none⟩=some (.int .i64 o2):=(cell_of_row w10 (w7.heap.size) 1 _ _ _ mmd).trans rfl;have mmf1:=frozen_of_row w10 (w7.heap.size) 1 _ _ mmd;have mmL:w7.heap.size<w10.heap.size:=(Array.getElem?_eq_some_iff.1 mmd).1;have mmN:¬ w7.heap.size=w10.heap.size:=(by omega);clear mmd;have nnd:w10.heap[w8.heap.size]?=some (.cells #[.int .i64 o1,.int .i64 o2] 38 (0,0)):=(hb.block (w8.heap.size) (by first|omega|(simp;try omega))).trans (by first|exact nnB.out|exact hkeep nnB.out|exact hkeep (hkeep nnB.out)|exact halloc2 _ _ rfl|exact heap_alloc2_old _ _ _|exact heap_alloc2_new _ _ _|exact hkeep (halloc2 _ _ rfl)|exact hkeep (hkeep (halloc2 _ _ rfl))|exact halloc2 _ _ (by simp;done));(try clear nnB nnL nnN nn0 nn1 nnf0 nnf1);have nnB:Hid (w10.heap[w8.heap.size]?=some (.cells #[.int .i64 o1,.int .i64 o2] 38 (0,0))):=nnd;have nn0:w10.cell? ⟨w8.heap.size,0,none⟩=some (.int .i64 o1):=(cell_of_row w10 (w8.heap.size) 0 _ _ _ nnd).trans rfl;have nnf0:=frozen_of_row w10 (w8.heap.size) 0 _ _ nnd;have nn1:w10.cell? ⟨w8.heap.size,1,none⟩=some (.int .i64 o2):=(cell_of_row w10 (w8.heap.size) 1 _ _ _ nnd).trans rfl;have nnf1:=frozen_of_row w10 (w8.heap.size) 1 _ _ nnd;have nnL:w8.heap.size<w10.heap.size:=(Array.getElem?_eq_some_iff.1 nnd).1;have nnN:¬ w8.heap.size=w10.heap.size:=(by omega);clear nnd;have C10:Hid (Below w3.heap.size w3 w10):=bstep (C9.out) hb;clear hb Q1)
    | (go_at_call 56;refine (Q2.out _ _ (HR.out.below (((C10.out).setCell (by simp;try omega) _).setCell (by simp;try omega) _))).mono ?_;rintro e w11 ⟨rfl,hb⟩;have mmd:w11.heap[w7.heap.size]?=some (.cells #[.int .i64 s1,.int .i64 s2] 38 (0,0)):=(hb.block w7.heap.size (by simp;try omega)).trans (by rw [heap_setCell_same _ _ _ #[.int .i64 s1,.int .i64 o2] 38 _ (by rw [heap_setCell_same _ _ _ _ _ _ mmB.out];rfl)];rfl);have nnd:w11.heap[w8.heap.size]?=some (.cells #[.int .i64 o1,.int .i64 o2] 38 (0,0)):=(hb.block w8.heap.size (by simp;try omega)).trans (by rw [heap_setCell_other _ _ _ _ (by simp;omega),heap_setCell_other _ _ _ _ (by simp;omega)];exact nnB.out);clear mmB mm0 mm1 mmf0 mmf1 mmL mmN nnB nn0 nn1 nnf0 nnf1 nnL nnN;obtain ⟨p0,p1,p2,p3,p4,_⟩:=row_facts (W:=W) mmd;obtain ⟨q0,q1,q2,q3,q4,_⟩:=row_facts (W:=W) nnd;have C11:Hid (Below w3.heap.size w3 w11):=bstep (((C10.out).setCell (by simp;try omega) _).setCell (by simp;try omega) _) hb;clear hb Q2 mmd nnd)
    | (go_at_call 33;refine (SS.out _ _ _ () (by rfl) (by rfl)).mono ?_;rintro e w12 ⟨rfl,hb⟩;have C12:Hid (Below w3.heap.size w3 w12):=bstep (((C11.out).setCell (by simp;try omega) _).setCell (by simp;try omega) _) hb;clear hb SS))
  all_goals go_ret
  exact ⟨retB (by simp),BB.out.trans (C12.out.mono BB.out.size)⟩
end Go.Proofs.YtgppadlkollfaaaGreat
