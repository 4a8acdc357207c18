import Derived.Test.YthfifobokpfpkaaGreatOvF
import Derived.Test.YthfifobokpfpkaaGreatOvH
import Derived.Test.YthfifobokpfpkaaGreatOvP
import Derived.Test.YthfifobokpfpkaaGreatAcE
import Derived.Test.YthfifobokpfpkaaGreatTypesParse
import Derived.Test.YthfifobokpfpkaaGreatCurB
import Derived.Test.YthfifobokpfpkaaGreatSoD
import Derived.Test.YthfifobokpfpkaaGreatOwnRefs
import Derived.Test.YthfifobokpfpkaaGreatOwnL
import Derived.Test.YthfifobokpfpkaaGreatHrR
import Derived.Laws.IdiomStrings
import Derived.Deep.LoopGhost
import Derived.Deep.RegionHeld3
set_option maxRecDepth 100000
namespace Go.Proofs.YthfifobokpfpkaaGreat
open Go.RowKit Go.Maps
def onI (ps:List Plc) (c:Int) (nm ds:ByteArray):(Int×Int)×Int:=match plcI ps c with
  | some q=>oneV ps (candL ps nm ds q.cl)
  | none=>((0,0),3)
theorem one_c {b:Nat} {ps:List Plc} {W:World} (h:WAt b ps W) (hi:WI ps) (c:Int) (nm ds:ByteArray):Calls Tryz.prog 78 #[.pointer (some ⟨b,0,none⟩),.int .i64 c,.string nm,.string ds] W fun e w'=>e=.returned (idE (onI ps c nm ds))∧Below W.heap.size W w':=by
  rcases plcI_cases ps c with ⟨h1,_⟩|⟨k,q,rfl,h2,h1⟩
  · have e:onI ps c nm ds=((0,0),3):=by rw [onI,h1]
    rw [e];exact one_no h c h1 nm ds
  · have e:onI ps (k:Int) nm ds=oneV ps (candL ps nm ds q.cl):=by rw [onI,h1]
    rw [e];exact one_yes h hi k q h2 nm ds
theorem rfr_err {ps:List Plc} {r:Int} {m:Int×Int} {x:Int} (h:rfrI ps r m=.error x):x=2∨x=3:=by
  rw [rfrI] at h
  split at h
  · split at h
    · cases h;exact .inl rfl
    · cases h
  · rename_i e he
    cases h
    rw [crdI] at he
    split at he
    · cases he
    · cases he;exact .inr rfl
def virI (ps:List Plc) (r:Int) (m:Int×Int):(Int×Int)×Int:=match rfrI ps r m with
  | .error e=>((0,0),e)
  | .ok x=>if stB x.fl then ((0,0),23) else if (firI ps r m).2=0 then unaI ps (firI ps r m).1 else onI ps r x.nm x.ds
def itfI (ps:List Plc) (r:Int) (m:Int×Int):(Int×Int)×Int:=match rfrI ps r m with
  | .error e=>((0,0),e)
  | .ok x=>if hasI x.fl 10 then ((0,0),23) else if (uchI ps x.nm x.ds r).2 then (if hasS ps (uchI ps x.nm x.ds r).1.1 (uchI ps x.nm x.ds r).1.2 1 then unaI ps (uchI ps x.nm x.ds r).1 else ((0,0),22)) else onI ps r x.nm x.ds
set_option maxHeartbeats 2000000 in
theorem vir_c {b:Nat} {ps:List Plc} {W:World} (h:WAt b ps W) (hi:WI ps) (r c i:Int):Calls Tryz.prog 77 #[.pointer (some ⟨b,0,none⟩),.int .i64 r,.agg #[.int .i64 c,.int .i64 i]] W fun e w'=>e=.returned (idE (virI ps r (c,i)))∧Below W.heap.size W w':=by
  have HI:∀ w,Below W.heap.size W w→WAt b ps w:=fun w hb=>h.below hb
  have HR:Hid (∀ w,Below W.heap.size W w→Calls Tryz.prog 135 #[.pointer (some ⟨b,0,none⟩),.int .i64 r,.agg #[.int .i64 c,.int .i64 i]] w fun e w'=>mthE (rfrI ps r (c,i)) e∧Below w.heap.size w w'):=fun w hb=>rfr_c (HI w hb) hi.pb r c i
  have HO:Hid (∀ nm ds w,Below W.heap.size W w→Calls Tryz.prog 78 #[.pointer (some ⟨b,0,none⟩),.int .i64 r,.string nm,.string ds] w fun e w'=>e=.returned (.tuple #[.agg #[.int .i64 (onI ps r nm ds).1.1,.int .i64 (onI ps r nm ds).1.2],.int .i64 (onI ps r nm ds).2])∧Below w.heap.size w w'):=fun nm ds w hb=>one_c (HI w hb) hi r nm ds
  have HU:Hid (∀ c i w,Below W.heap.size W w→Calls Tryz.prog 138 #[.pointer (some ⟨b,0,none⟩),.agg #[.int .i64 c,.int .i64 i]] w fun e w'=>e=.returned (.tuple #[.agg #[.int .i64 (unaI ps (c,i)).1.1,.int .i64 (unaI ps (c,i)).1.2],.int .i64 (unaI ps (c,i)).2])∧Below w.heap.size w w'):=fun c i w hb=>una_c (HI w hb) hi.pb c i
  have HF:Hid (∀ w,Below W.heap.size W w→Calls Tryz.prog 22 #[.pointer (some ⟨b,0,none⟩),.int .i64 r,.agg #[.int .i64 c,.int .i64 i]] w fun e w'=>e=.returned (idE (firI ps r (c,i)))∧Below w.heap.size w w'):=fun w hb=>first_c (HI w hb) hi r c i
  unfold virI
  cases hD:rfrI ps r (c,i) with
  | error x =>
    have hx:x≠0:=by rcases rfr_err hD with rfl|rfl <;> decide
    rw [hD] at HR
    simp only [mthE] at HR
    clear h hi HI hD HO HU HF
    go_enter Tryz.func77,Tryz.ntmps77
    go_wp2_with (first
      | (go_at_call 135;refine (HR.out _ (by repeat (first|exact Below.refl _ _|refine Below.setCell ?_ (by simp;try omega) _|refine Below.alloc ?_ (by simp;try omega) _|refine Below.drew ?_))).mono ?_;rintro e w1 ⟨rfl,hb⟩;have ad:w1.heap[W.heap.size]?=some (.cells #[.int .i64 c,.int .i64 i] 24 (0,0)):=(hb.block (W.heap.size) (by first|omega|(simp;try omega))).trans (hkeep (halloc1 _ _));(try clear aB a0 a1 af aL aN);have aB:Hid _:=ad;obtain ⟨a0,a1,af,aL⟩:=rw2 ad;have aN:¬ W.heap.size=w1.heap.size:=(by omega);clear ad;have zd:w1.heap[W.heap.size+1]?=some (.cells #[.int .i64 0,.int .i64 0] 24 (0,0)):=(hb.block (W.heap.size+1) (by first|omega|(simp;try omega))).trans (halloc2 _ _ (by simp));(try clear zB z0 z1 zf zL zN);have zB:Hid _:=zd;obtain ⟨z0,z1,zf,zL⟩:=rw2 zd;have zN:¬ W.heap.size+1=w1.heap.size:=(by omega);clear zd;have Bw1:Hid (Below W.heap.size W w1):=bstep (by repeat (first|exact Below.refl _ _|refine Below.setCell ?_ (by simp;try omega) _|refine Below.alloc ?_ (by simp;try omega) _|refine Below.drew ?_)) hb;clear hb HR))
    exact bodyPost_ret (v:=idE ((0,0),x)) (by simp [results,Tryz.results77,go_sem,idE, *]) rfl ⟨rfl,(by repeat (first|refine Below.setCell ?_ (by simp;try omega) _|refine Below.alloc ?_ (by have:=Bw1.out.size;simp;try omega) _|refine Below.drew ?_|exact Bw1.out))⟩
  | ok x =>
    rw [hD] at HR
    simp only [mthE] at HR
    simp only
    generalize firI ps r (c,i)=G at *
    obtain ⟨⟨g1,g2⟩,g3⟩:=G
    simp only [idE] at HF
    have HO2:Hid _:=HO.out x.nm x.ds
    have HU2:Hid _:=HU.out g1 g2
    generalize onI ps r x.nm x.ds=O at *
    simp only
    generalize unaI ps (g1,g2)=U at *
    obtain ⟨⟨o1,o2⟩,o3⟩:=O
    obtain ⟨⟨u1,u2⟩,u3⟩:=U
    simp only at HO2 HU2
    clear h hi HI hD HO HU
    cases hS:stB x.fl
    case true =>
      rw [stB] at hS
      clear HF HO2 HU2
      go_enter Tryz.func77,Tryz.ntmps77
      go_wp2_with (first
        | (go_at_call 135;refine (HR.out _ (by repeat (first|exact Below.refl _ _|refine Below.setCell ?_ (by simp;try omega) _|refine Below.alloc ?_ (by simp;try omega) _|refine Below.drew ?_))).mono ?_;rintro e w1 ⟨⟨sa,sk,so,rfl⟩,hb⟩;have ad:w1.heap[W.heap.size]?=some (.cells #[.int .i64 c,.int .i64 i] 24 (0,0)):=(hb.block (W.heap.size) (by first|omega|(simp;try omega))).trans (hkeep (halloc1 _ _));(try clear aB a0 a1 af aL aN);have aB:Hid _:=ad;obtain ⟨a0,a1,af,aL⟩:=rw2 ad;have aN:¬ W.heap.size=w1.heap.size:=(by omega);clear ad;have zd:w1.heap[W.heap.size+1]?=some (.cells #[.int .i64 0,.int .i64 0] 24 (0,0)):=(hb.block (W.heap.size+1) (by first|omega|(simp;try omega))).trans (halloc2 _ _ (by simp));(try clear zB z0 z1 zf zL zN);have zB:Hid _:=zd;obtain ⟨z0,z1,zf,zL⟩:=rw2 zd;have zN:¬ W.heap.size+1=w1.heap.size:=(by omega);clear zd;have Bw1:Hid (Below W.heap.size W w1):=bstep (by repeat (first|exact Below.refl _ _|refine Below.setCell ?_ (by simp;try omega) _|refine Below.alloc ?_ (by simp;try omega) _|refine Below.drew ?_)) hb;clear hb HR))
      exact bodyPost_ret (v:=idE ((0,0),23)) (by simp [results,Tryz.results77,go_sem,idE, *]) rfl ⟨rfl,(by repeat (first|refine Below.setCell ?_ (by simp;try omega) _|refine Below.alloc ?_ (by have:=Bw1.out.size;simp;try omega) _|refine Below.drew ?_|exact Bw1.out))⟩
    case false =>
      rw [stB] at hS
      by_cases hg:g3=0
      · subst hg
        clear HO2
        go_enter Tryz.func77,Tryz.ntmps77
        go_wp2_with (first
          | (go_at_call 135;refine (HR.out _ (by repeat (first|exact Below.refl _ _|refine Below.setCell ?_ (by simp;try omega) _|refine Below.alloc ?_ (by simp;try omega) _|refine Below.drew ?_))).mono ?_;rintro e w1 ⟨⟨sa,sk,so,rfl⟩,hb⟩;have ad:w1.heap[W.heap.size]?=some (.cells #[.int .i64 c,.int .i64 i] 24 (0,0)):=(hb.block (W.heap.size) (by first|omega|(simp;try omega))).trans (hkeep (halloc1 _ _));(try clear aB a0 a1 af aL aN);have aB:Hid _:=ad;obtain ⟨a0,a1,af,aL⟩:=rw2 ad;have aN:¬ W.heap.size=w1.heap.size:=(by omega);clear ad;have zd:w1.heap[W.heap.size+1]?=some (.cells #[.int .i64 0,.int .i64 0] 24 (0,0)):=(hb.block (W.heap.size+1) (by first|omega|(simp;try omega))).trans (halloc2 _ _ (by simp));(try clear zB z0 z1 zf zL zN);have zB:Hid _:=zd;obtain ⟨z0,z1,zf,zL⟩:=rw2 zd;have zN:¬ W.heap.size+1=w1.heap.size:=(by omega);clear zd;have Bw1:Hid (Below W.heap.size W w1):=bstep (by repeat (first|exact Below.refl _ _|refine Below.setCell ?_ (by simp;try omega) _|refine Below.alloc ?_ (by simp;try omega) _|refine Below.drew ?_)) hb;clear hb HR)
          | (go_at_call 22;refine (HF.out _ (by repeat (first|refine Below.setCell ?_ (by simp;try omega) _|refine Below.alloc ?_ (by have:=Bw1.out.size;simp;try omega) _|refine Below.drew ?_|exact Bw1.out))).mono ?_;rintro e w2 ⟨rfl,hb⟩;have ad:w2.heap[W.heap.size]?=some (.cells #[.int .i64 c,.int .i64 i] 24 (0,0)):=(hb.block (W.heap.size) (by first|omega|(simp;try omega))).trans (hkeep aB.out);(try clear aB a0 a1 af aL aN);have aB:Hid _:=ad;obtain ⟨a0,a1,af,aL⟩:=rw2 ad;have aN:¬ W.heap.size=w2.heap.size:=(by omega);clear ad;have zd:w2.heap[W.heap.size+1]?=some (.cells #[.int .i64 0,.int .i64 0] 24 (0,0)):=(hb.block (W.heap.size+1) (by first|omega|(simp;try omega))).trans (hkeep zB.out);(try clear zB z0 z1 zf zL zN);have zB:Hid _:=zd;obtain ⟨z0,z1,zf,zL⟩:=rw2 zd;have zN:¬ W.heap.size+1=w2.heap.size:=(by omega);clear zd;have vd:w2.heap[w1.heap.size]?=some (.cells #[.string x.nm,.string x.ds,.int .i64 x.fl,.int .i64 x.lo,.int .i64 x.st,.slice sa sk so] 30 (0,0)):=(hb.block (w1.heap.size) (by first|omega|(simp;try omega))).trans (halloc1 _ _);(try clear vB v0 v1 v2 v3 v4 v5 vf vL vN);have vB:Hid _:=vd;obtain ⟨v0,v1,v2,v3,v4,v5,vf,vL⟩:=rw6 vd;have vN:¬ w1.heap.size=w2.heap.size:=(by omega);clear vd;have Bw2:Hid (Below W.heap.size W w2):=bstep (by repeat (first|refine Below.setCell ?_ (by simp;try omega) _|refine Below.alloc ?_ (by have:=Bw1.out.size;simp;try omega) _|refine Below.drew ?_|exact Bw1.out)) hb;clear hb HF)
          | (go_at_call 138;refine (HU2.out _ (by repeat (first|refine Below.setCell ?_ (by simp;try omega) _|refine Below.alloc ?_ (by have:=Bw2.out.size;simp;try omega) _|refine Below.drew ?_|exact Bw2.out))).mono ?_;rintro e w3 ⟨rfl,hb⟩;have zd:w3.heap[W.heap.size+1]?=some (.cells #[.int .i64 0,.int .i64 0] 24 (0,0)):=(hb.block (W.heap.size+1) (by first|omega|(simp;try omega))).trans (hkeep zB.out);(try clear zB z0 z1 zf zL zN);have zB:Hid _:=zd;obtain ⟨z0,z1,zf,zL⟩:=rw2 zd;have zN:¬ W.heap.size+1=w3.heap.size:=(by omega);clear zd;have Bw3:Hid (Below W.heap.size W w3):=bstep (by repeat (first|refine Below.setCell ?_ (by simp;try omega) _|refine Below.alloc ?_ (by have:=Bw2.out.size;simp;try omega) _|refine Below.drew ?_|exact Bw2.out)) hb;clear hb HU2))
        exact bodyPost_ret (v:=idE ((u1,u2),u3)) (by simp [results,Tryz.results77,go_sem,idE, *]) rfl ⟨rfl,(by repeat (first|refine Below.setCell ?_ (by simp;try omega) _|refine Below.alloc ?_ (by have:=Bw3.out.size;simp;try omega) _|refine Below.drew ?_|exact Bw3.out))⟩
      · rw [if_neg hg]
        clear HU2
        go_enter Tryz.func77,Tryz.ntmps77
        go_wp2_with (first
          | (go_at_call 135;refine (HR.out _ (by repeat (first|exact Below.refl _ _|refine Below.setCell ?_ (by simp;try omega) _|refine Below.alloc ?_ (by simp;try omega) _|refine Below.drew ?_))).mono ?_;rintro e w1 ⟨⟨sa,sk,so,rfl⟩,hb⟩;have ad:w1.heap[W.heap.size]?=some (.cells #[.int .i64 c,.int .i64 i] 24 (0,0)):=(hb.block (W.heap.size) (by first|omega|(simp;try omega))).trans (hkeep (halloc1 _ _));(try clear aB a0 a1 af aL aN);have aB:Hid _:=ad;obtain ⟨a0,a1,af,aL⟩:=rw2 ad;have aN:¬ W.heap.size=w1.heap.size:=(by omega);clear ad;have zd:w1.heap[W.heap.size+1]?=some (.cells #[.int .i64 0,.int .i64 0] 24 (0,0)):=(hb.block (W.heap.size+1) (by first|omega|(simp;try omega))).trans (halloc2 _ _ (by simp));(try clear zB z0 z1 zf zL zN);have zB:Hid _:=zd;obtain ⟨z0,z1,zf,zL⟩:=rw2 zd;have zN:¬ W.heap.size+1=w1.heap.size:=(by omega);clear zd;have Bw1:Hid (Below W.heap.size W w1):=bstep (by repeat (first|exact Below.refl _ _|refine Below.setCell ?_ (by simp;try omega) _|refine Below.alloc ?_ (by simp;try omega) _|refine Below.drew ?_)) hb;clear hb HR)
          | (go_at_call 22;refine (HF.out _ (by repeat (first|refine Below.setCell ?_ (by simp;try omega) _|refine Below.alloc ?_ (by have:=Bw1.out.size;simp;try omega) _|refine Below.drew ?_|exact Bw1.out))).mono ?_;rintro e w2 ⟨rfl,hb⟩;have ad:w2.heap[W.heap.size]?=some (.cells #[.int .i64 c,.int .i64 i] 24 (0,0)):=(hb.block (W.heap.size) (by first|omega|(simp;try omega))).trans (hkeep aB.out);(try clear aB a0 a1 af aL aN);have aB:Hid _:=ad;obtain ⟨a0,a1,af,aL⟩:=rw2 ad;have aN:¬ W.heap.size=w2.heap.size:=(by omega);clear ad;have zd:w2.heap[W.heap.size+1]?=some (.cells #[.int .i64 0,.int .i64 0] 24 (0,0)):=(hb.block (W.heap.size+1) (by first|omega|(simp;try omega))).trans (hkeep zB.out);(try clear zB z0 z1 zf zL zN);have zB:Hid _:=zd;obtain ⟨z0,z1,zf,zL⟩:=rw2 zd;have zN:¬ W.heap.size+1=w2.heap.size:=(by omega);clear zd;have vd:w2.heap[w1.heap.size]?=some (.cells #[.string x.nm,.string x.ds,.int .i64 x.fl,.int .i64 x.lo,.int .i64 x.st,.slice sa sk so] 30 (0,0)):=(hb.block (w1.heap.size) (by first|omega|(simp;try omega))).trans (halloc1 _ _);(try clear vB v0 v1 v2 v3 v4 v5 vf vL vN);have vB:Hid _:=vd;obtain ⟨v0,v1,v2,v3,v4,v5,vf,vL⟩:=rw6 vd;have vN:¬ w1.heap.size=w2.heap.size:=(by omega);clear vd;have Bw2:Hid (Below W.heap.size W w2):=bstep (by repeat (first|refine Below.setCell ?_ (by simp;try omega) _|refine Below.alloc ?_ (by have:=Bw1.out.size;simp;try omega) _|refine Below.drew ?_|exact Bw1.out)) hb;clear hb HF)
          | (go_at_call 78;refine (HO2.out _ (by repeat (first|refine Below.setCell ?_ (by simp;try omega) _|refine Below.alloc ?_ (by have:=Bw2.out.size;simp;try omega) _|refine Below.drew ?_|exact Bw2.out))).mono ?_;rintro e w3 ⟨rfl,hb⟩;have zd:w3.heap[W.heap.size+1]?=some (.cells #[.int .i64 0,.int .i64 0] 24 (0,0)):=(hb.block (W.heap.size+1) (by first|omega|(simp;try omega))).trans (hkeep zB.out);(try clear zB z0 z1 zf zL zN);have zB:Hid _:=zd;obtain ⟨z0,z1,zf,zL⟩:=rw2 zd;have zN:¬ W.heap.size+1=w3.heap.size:=(by omega);clear zd;have Bw3:Hid (Below W.heap.size W w3):=bstep (by repeat (first|refine Below.setCell ?_ (by simp;try omega) _|refine Below.alloc ?_ (by have:=Bw2.out.size;simp;try omega) _|refine Below.drew ?_|exact Bw2.out)) hb;clear hb HO2))
        exact bodyPost_ret (v:=idE ((o1,o2),o3)) (by simp [results,Tryz.results77,go_sem,idE, *]) rfl ⟨rfl,(by repeat (first|refine Below.setCell ?_ (by simp;try omega) _|refine Below.alloc ?_ (by have:=Bw3.out.size;simp;try omega) _|refine Below.drew ?_|exact Bw3.out))⟩
set_option maxHeartbeats 2000000 in
theorem itf_c {b:Nat} {ps:List Plc} {W:World} (h:WAt b ps W) (hi:WI ps) (r c i:Int):Calls Tryz.prog 76 #[.pointer (some ⟨b,0,none⟩),.int .i64 r,.agg #[.int .i64 c,.int .i64 i]] W fun e w'=>e=.returned (idE (itfI ps r (c,i)))∧Below W.heap.size W w':=by
  have HI:∀ w,Below W.heap.size W w→WAt b ps w:=fun w hb=>h.below hb
  have HR:Hid (∀ w,Below W.heap.size W w→Calls Tryz.prog 135 #[.pointer (some ⟨b,0,none⟩),.int .i64 r,.agg #[.int .i64 c,.int .i64 i]] w fun e w'=>mthE (rfrI ps r (c,i)) e∧Below w.heap.size w w'):=fun w hb=>rfr_c (HI w hb) hi.pb r c i
  have HO:Hid (∀ nm ds w,Below W.heap.size W w→Calls Tryz.prog 78 #[.pointer (some ⟨b,0,none⟩),.int .i64 r,.string nm,.string ds] w fun e w'=>e=.returned (.tuple #[.agg #[.int .i64 (onI ps r nm ds).1.1,.int .i64 (onI ps r nm ds).1.2],.int .i64 (onI ps r nm ds).2])∧Below w.heap.size w w'):=fun nm ds w hb=>one_c (HI w hb) hi r nm ds
  have HU:Hid (∀ c i w,Below W.heap.size W w→Calls Tryz.prog 138 #[.pointer (some ⟨b,0,none⟩),.agg #[.int .i64 c,.int .i64 i]] w fun e w'=>e=.returned (.tuple #[.agg #[.int .i64 (unaI ps (c,i)).1.1,.int .i64 (unaI ps (c,i)).1.2],.int .i64 (unaI ps (c,i)).2])∧Below w.heap.size w w'):=fun c i w hb=>una_c (HI w hb) hi.pb c i
  have HF:Hid (∀ nm ds fl lo st sa sk so w,Below W.heap.size W w→Calls Tryz.prog 136 #[.pointer (some ⟨b,0,none⟩),.int .i64 r,.agg #[.string nm,.string ds,.int .i64 fl,.int .i64 lo,.int .i64 st,.slice sa sk so]] w fun e w'=>e=.returned (idB (uchI ps nm ds r))∧Below w.heap.size w w'):=fun nm ds fl lo st sa sk so w hb=>uch_c (HI w hb) hi r nm ds fl lo st sa sk so
  have HS:Hid (∀ c i w,Below W.heap.size W w→Calls Tryz.prog 137 #[.pointer (some ⟨b,0,none⟩),.agg #[.int .i64 c,.int .i64 i],.int .i64 1] w fun e w'=>e=.returned (.bool (hasS ps c i 1))∧Below w.heap.size w w'):=fun c i w hb=>chS_c (HI w hb) hi.pb c i 1
  unfold itfI
  cases hD:rfrI ps r (c,i) with
  | error x =>
    have hx:x≠0:=by rcases rfr_err hD with rfl|rfl <;> decide
    rw [hD] at HR
    simp only [mthE] at HR
    clear h hi HI hD HO HU HF HS
    go_enter Tryz.func76,Tryz.ntmps76
    go_wp2_with (first
      | (go_at_call 135;refine (HR.out _ (by repeat (first|exact Below.refl _ _|refine Below.setCell ?_ (by simp;try omega) _|refine Below.alloc ?_ (by simp;try omega) _|refine Below.drew ?_))).mono ?_;rintro e w1 ⟨rfl,hb⟩;have ad:w1.heap[W.heap.size]?=some (.cells #[.int .i64 c,.int .i64 i] 24 (0,0)):=(hb.block (W.heap.size) (by first|omega|(simp;try omega))).trans (hkeep (halloc1 _ _));(try clear aB a0 a1 af aL aN);have aB:Hid _:=ad;obtain ⟨a0,a1,af,aL⟩:=rw2 ad;have aN:¬ W.heap.size=w1.heap.size:=(by omega);clear ad;have zd:w1.heap[W.heap.size+1]?=some (.cells #[.int .i64 0,.int .i64 0] 24 (0,0)):=(hb.block (W.heap.size+1) (by first|omega|(simp;try omega))).trans (halloc2 _ _ (by simp));(try clear zB z0 z1 zf zL zN);have zB:Hid _:=zd;obtain ⟨z0,z1,zf,zL⟩:=rw2 zd;have zN:¬ W.heap.size+1=w1.heap.size:=(by omega);clear zd;have Bw1:Hid (Below W.heap.size W w1):=bstep (by repeat (first|exact Below.refl _ _|refine Below.setCell ?_ (by simp;try omega) _|refine Below.alloc ?_ (by simp;try omega) _|refine Below.drew ?_)) hb;clear hb HR))
    exact bodyPost_ret (v:=idE ((0,0),x)) (by simp [results,Tryz.results76,go_sem,idE, *]) rfl ⟨rfl,(by repeat (first|refine Below.setCell ?_ (by simp;try omega) _|refine Below.alloc ?_ (by have:=Bw1.out.size;simp;try omega) _|refine Below.drew ?_|exact Bw1.out))⟩
  | ok x =>
    rw [hD] at HR
    simp only [mthE] at HR
    simp only
    have HF2:Hid (∀ fl lo st sa sk so w,Below W.heap.size W w→Calls Tryz.prog 136 #[.pointer (some ⟨b,0,none⟩),.int .i64 r,.agg #[.string x.nm,.string x.ds,.int .i64 fl,.int .i64 lo,.int .i64 st,.slice sa sk so]] w fun e w'=>e=.returned (idB (uchI ps x.nm x.ds r))∧Below w.heap.size w w'):=HF.out x.nm x.ds
    clear HF
    generalize uchI ps x.nm x.ds r=G at *
    obtain ⟨⟨g1,g2⟩,g3⟩:=G
    simp only [idB] at HF2
    have HO2:Hid _:=HO.out x.nm x.ds
    have HU2:Hid _:=HU.out g1 g2
    have HS2:Hid _:=HS.out g1 g2
    generalize onI ps r x.nm x.ds=O at *
    simp only
    generalize unaI ps (g1,g2)=U at *
    generalize hasS ps g1 g2 1=S at *
    obtain ⟨⟨o1,o2⟩,o3⟩:=O
    obtain ⟨⟨u1,u2⟩,u3⟩:=U
    simp only at HO2 HU2 HS2
    clear h hi HI hD HO HU HS
    cases hS:hasI x.fl 10
    case true =>
      rw [hasI] at hS
      clear HF2 HO2 HU2 HS2
      go_enter Tryz.func76,Tryz.ntmps76
      go_wp2_with (first
        | (go_at_call 135;refine (HR.out _ (by repeat (first|exact Below.refl _ _|refine Below.setCell ?_ (by simp;try omega) _|refine Below.alloc ?_ (by simp;try omega) _|refine Below.drew ?_))).mono ?_;rintro e w1 ⟨⟨sa,sk,so,rfl⟩,hb⟩;have ad:w1.heap[W.heap.size]?=some (.cells #[.int .i64 c,.int .i64 i] 24 (0,0)):=(hb.block (W.heap.size) (by first|omega|(simp;try omega))).trans (hkeep (halloc1 _ _));(try clear aB a0 a1 af aL aN);have aB:Hid _:=ad;obtain ⟨a0,a1,af,aL⟩:=rw2 ad;have aN:¬ W.heap.size=w1.heap.size:=(by omega);clear ad;have zd:w1.heap[W.heap.size+1]?=some (.cells #[.int .i64 0,.int .i64 0] 24 (0,0)):=(hb.block (W.heap.size+1) (by first|omega|(simp;try omega))).trans (halloc2 _ _ (by simp));(try clear zB z0 z1 zf zL zN);have zB:Hid _:=zd;obtain ⟨z0,z1,zf,zL⟩:=rw2 zd;have zN:¬ W.heap.size+1=w1.heap.size:=(by omega);clear zd;have Bw1:Hid (Below W.heap.size W w1):=bstep (by repeat (first|exact Below.refl _ _|refine Below.setCell ?_ (by simp;try omega) _|refine Below.alloc ?_ (by simp;try omega) _|refine Below.drew ?_)) hb;clear hb HR))
      exact bodyPost_ret (v:=idE ((0,0),23)) (by simp [results,Tryz.results76,go_sem,idE, *]) rfl ⟨rfl,(by repeat (first|refine Below.setCell ?_ (by simp;try omega) _|refine Below.alloc ?_ (by have:=Bw1.out.size;simp;try omega) _|refine Below.drew ?_|exact Bw1.out))⟩
    case false =>
      rw [hasI] at hS
      cases g3
      case false =>
        clear HU2 HS2
        go_enter Tryz.func76,Tryz.ntmps76
        go_wp2_with (first
          | (go_at_call 135;refine (HR.out _ (by repeat (first|exact Below.refl _ _|refine Below.setCell ?_ (by simp;try omega) _|refine Below.alloc ?_ (by simp;try omega) _|refine Below.drew ?_))).mono ?_;rintro e w1 ⟨⟨sa,sk,so,rfl⟩,hb⟩;have ad:w1.heap[W.heap.size]?=some (.cells #[.int .i64 c,.int .i64 i] 24 (0,0)):=(hb.block (W.heap.size) (by first|omega|(simp;try omega))).trans (hkeep (halloc1 _ _));(try clear aB a0 a1 af aL aN);have aB:Hid _:=ad;obtain ⟨a0,a1,af,aL⟩:=rw2 ad;have aN:¬ W.heap.size=w1.heap.size:=(by omega);clear ad;have zd:w1.heap[W.heap.size+1]?=some (.cells #[.int .i64 0,.int .i64 0] 24 (0,0)):=(hb.block (W.heap.size+1) (by first|omega|(simp;try omega))).trans (halloc2 _ _ (by simp));(try clear zB z0 z1 zf zL zN);have zB:Hid _:=zd;obtain ⟨z0,z1,zf,zL⟩:=rw2 zd;have zN:¬ W.heap.size+1=w1.heap.size:=(by omega);clear zd;have Bw1:Hid (Below W.heap.size W w1):=bstep (by repeat (first|exact Below.refl _ _|refine Below.setCell ?_ (by simp;try omega) _|refine Below.alloc ?_ (by simp;try omega) _|refine Below.drew ?_)) hb;clear hb HR)
          | (go_at_call 136;refine (HF2.out _ _ _ _ _ _ _ (by repeat (first|refine Below.setCell ?_ (by simp;try omega) _|refine Below.alloc ?_ (by have:=Bw1.out.size;simp;try omega) _|refine Below.drew ?_|exact Bw1.out))).mono ?_;rintro e w2 ⟨rfl,hb⟩;have ad:w2.heap[W.heap.size]?=some (.cells #[.int .i64 c,.int .i64 i] 24 (0,0)):=(hb.block (W.heap.size) (by first|omega|(simp;try omega))).trans (hkeep aB.out);(try clear aB a0 a1 af aL aN);have aB:Hid _:=ad;obtain ⟨a0,a1,af,aL⟩:=rw2 ad;have aN:¬ W.heap.size=w2.heap.size:=(by omega);clear ad;have zd:w2.heap[W.heap.size+1]?=some (.cells #[.int .i64 0,.int .i64 0] 24 (0,0)):=(hb.block (W.heap.size+1) (by first|omega|(simp;try omega))).trans (hkeep zB.out);(try clear zB z0 z1 zf zL zN);have zB:Hid _:=zd;obtain ⟨z0,z1,zf,zL⟩:=rw2 zd;have zN:¬ W.heap.size+1=w2.heap.size:=(by omega);clear zd;have vd:w2.heap[w1.heap.size]?=some (.cells #[.string x.nm,.string x.ds,.int .i64 x.fl,.int .i64 x.lo,.int .i64 x.st,.slice sa sk so] 30 (0,0)):=(hb.block (w1.heap.size) (by first|omega|(simp;try omega))).trans (halloc1 _ _);(try clear vB v0 v1 v2 v3 v4 v5 vf vL vN);have vB:Hid _:=vd;obtain ⟨v0,v1,v2,v3,v4,v5,vf,vL⟩:=rw6 vd;have vN:¬ w1.heap.size=w2.heap.size:=(by omega);clear vd;have Bw2:Hid (Below W.heap.size W w2):=bstep (by repeat (first|refine Below.setCell ?_ (by simp;try omega) _|refine Below.alloc ?_ (by have:=Bw1.out.size;simp;try omega) _|refine Below.drew ?_|exact Bw1.out)) hb;clear hb HF2)
          | (go_at_call 78;refine (HO2.out _ (by repeat (first|refine Below.setCell ?_ (by simp;try omega) _|refine Below.alloc ?_ (by have:=Bw2.out.size;simp;try omega) _|refine Below.drew ?_|exact Bw2.out))).mono ?_;rintro e w3 ⟨rfl,hb⟩;have zd:w3.heap[W.heap.size+1]?=some (.cells #[.int .i64 0,.int .i64 0] 24 (0,0)):=(hb.block (W.heap.size+1) (by first|omega|(simp;try omega))).trans (hkeep zB.out);(try clear zB z0 z1 zf zL zN);have zB:Hid _:=zd;obtain ⟨z0,z1,zf,zL⟩:=rw2 zd;have zN:¬ W.heap.size+1=w3.heap.size:=(by omega);clear zd;have Bw3:Hid (Below W.heap.size W w3):=bstep (by repeat (first|refine Below.setCell ?_ (by simp;try omega) _|refine Below.alloc ?_ (by have:=Bw2.out.size;simp;try omega) _|refine Below.drew ?_|exact Bw2.out)) hb;clear hb HO2))
        exact bodyPost_ret (v:=idE ((o1,o2),o3)) (by simp [results,Tryz.results76,go_sem,idE, *]) rfl ⟨rfl,(by repeat (first|refine Below.setCell ?_ (by simp;try omega) _|refine Below.alloc ?_ (by have:=Bw3.out.size;simp;try omega) _|refine Below.drew ?_|exact Bw3.out))⟩
      case true =>
        clear HO2
        cases S
        case false =>
          clear HU2
          go_enter Tryz.func76,Tryz.ntmps76
          go_wp2_with (first
            | (go_at_call 135;refine (HR.out _ (by repeat (first|exact Below.refl _ _|refine Below.setCell ?_ (by simp;try omega) _|refine Below.alloc ?_ (by simp;try omega) _|refine Below.drew ?_))).mono ?_;rintro e w1 ⟨⟨sa,sk,so,rfl⟩,hb⟩;have ad:w1.heap[W.heap.size]?=some (.cells #[.int .i64 c,.int .i64 i] 24 (0,0)):=(hb.block (W.heap.size) (by first|omega|(simp;try omega))).trans (hkeep (halloc1 _ _));(try clear aB a0 a1 af aL aN);have aB:Hid _:=ad;obtain ⟨a0,a1,af,aL⟩:=rw2 ad;have aN:¬ W.heap.size=w1.heap.size:=(by omega);clear ad;have zd:w1.heap[W.heap.size+1]?=some (.cells #[.int .i64 0,.int .i64 0] 24 (0,0)):=(hb.block (W.heap.size+1) (by first|omega|(simp;try omega))).trans (halloc2 _ _ (by simp));(try clear zB z0 z1 zf zL zN);have zB:Hid _:=zd;obtain ⟨z0,z1,zf,zL⟩:=rw2 zd;have zN:¬ W.heap.size+1=w1.heap.size:=(by omega);clear zd;have Bw1:Hid (Below W.heap.size W w1):=bstep (by repeat (first|exact Below.refl _ _|refine Below.setCell ?_ (by simp;try omega) _|refine Below.alloc ?_ (by simp;try omega) _|refine Below.drew ?_)) hb;clear hb HR)
            | (go_at_call 136;refine (HF2.out _ _ _ _ _ _ _ (by repeat (first|refine Below.setCell ?_ (by simp;try omega) _|refine Below.alloc ?_ (by have:=Bw1.out.size;simp;try omega) _|refine Below.drew ?_|exact Bw1.out))).mono ?_;rintro e w2 ⟨rfl,hb⟩;have ad:w2.heap[W.heap.size]?=some (.cells #[.int .i64 c,.int .i64 i] 24 (0,0)):=(hb.block (W.heap.size) (by first|omega|(simp;try omega))).trans (hkeep aB.out);(try clear aB a0 a1 af aL aN);have aB:Hid _:=ad;obtain ⟨a0,a1,af,aL⟩:=rw2 ad;have aN:¬ W.heap.size=w2.heap.size:=(by omega);clear ad;have zd:w2.heap[W.heap.size+1]?=some (.cells #[.int .i64 0,.int .i64 0] 24 (0,0)):=(hb.block (W.heap.size+1) (by first|omega|(simp;try omega))).trans (hkeep zB.out);(try clear zB z0 z1 zf zL zN);have zB:Hid _:=zd;obtain ⟨z0,z1,zf,zL⟩:=rw2 zd;have zN:¬ W.heap.size+1=w2.heap.size:=(by omega);clear zd;have vd:w2.heap[w1.heap.size]?=some (.cells #[.string x.nm,.string x.ds,.int .i64 x.fl,.int .i64 x.lo,.int .i64 x.st,.slice sa sk so] 30 (0,0)):=(hb.block (w1.heap.size) (by first|omega|(simp;try omega))).trans (halloc1 _ _);(try clear vB v0 v1 v2 v3 v4 v5 vf vL vN);have vB:Hid _:=vd;obtain ⟨v0,v1,v2,v3,v4,v5,vf,vL⟩:=rw6 vd;have vN:¬ w1.heap.size=w2.heap.size:=(by omega);clear vd;have Bw2:Hid (Below W.heap.size W w2):=bstep (by repeat (first|refine Below.setCell ?_ (by simp;try omega) _|refine Below.alloc ?_ (by have:=Bw1.out.size;simp;try omega) _|refine Below.drew ?_|exact Bw1.out)) hb;clear hb HF2)
            | (go_at_call 137;refine (HS2.out _ (by repeat (first|refine Below.setCell ?_ (by simp;try omega) _|refine Below.alloc ?_ (by have:=Bw2.out.size;simp;try omega) _|refine Below.drew ?_|exact Bw2.out))).mono ?_;rintro e w3 ⟨rfl,hb⟩;have zd:w3.heap[W.heap.size+1]?=some (.cells #[.int .i64 0,.int .i64 0] 24 (0,0)):=(hb.block (W.heap.size+1) (by first|omega|(simp;try omega))).trans (hkeep zB.out);(try clear zB z0 z1 zf zL zN);have zB:Hid _:=zd;obtain ⟨z0,z1,zf,zL⟩:=rw2 zd;have zN:¬ W.heap.size+1=w3.heap.size:=(by omega);clear zd;have Bw3:Hid (Below W.heap.size W w3):=bstep (by repeat (first|refine Below.setCell ?_ (by simp;try omega) _|refine Below.alloc ?_ (by have:=Bw2.out.size;simp;try omega) _|refine Below.drew ?_|exact Bw2.out)) hb;clear hb HS2))
          exact bodyPost_ret (v:=idE ((0,0),22)) (by simp [results,Tryz.results76,go_sem,idE, *]) rfl ⟨rfl,(by repeat (first|refine Below.setCell ?_ (by simp;try omega) _|refine Below.alloc ?_ (by have:=Bw3.out.size;simp;try omega) _|refine Below.drew ?_|exact Bw3.out))⟩
        case true =>
          go_enter Tryz.func76,Tryz.ntmps76
          go_wp2_with (first
            | (go_at_call 135;refine (HR.out _ (by repeat (first|exact Below.refl _ _|refine Below.setCell ?_ (by simp;try omega) _|refine Below.alloc ?_ (by simp;try omega) _|refine Below.drew ?_))).mono ?_;rintro e w1 ⟨⟨sa,sk,so,rfl⟩,hb⟩;have ad:w1.heap[W.heap.size]?=some (.cells #[.int .i64 c,.int .i64 i] 24 (0,0)):=(hb.block (W.heap.size) (by first|omega|(simp;try omega))).trans (hkeep (halloc1 _ _));(try clear aB a0 a1 af aL aN);have aB:Hid _:=ad;obtain ⟨a0,a1,af,aL⟩:=rw2 ad;have aN:¬ W.heap.size=w1.heap.size:=(by omega);clear ad;have zd:w1.heap[W.heap.size+1]?=some (.cells #[.int .i64 0,.int .i64 0] 24 (0,0)):=(hb.block (W.heap.size+1) (by first|omega|(simp;try omega))).trans (halloc2 _ _ (by simp));(try clear zB z0 z1 zf zL zN);have zB:Hid _:=zd;obtain ⟨z0,z1,zf,zL⟩:=rw2 zd;have zN:¬ W.heap.size+1=w1.heap.size:=(by omega);clear zd;have Bw1:Hid (Below W.heap.size W w1):=bstep (by repeat (first|exact Below.refl _ _|refine Below.setCell ?_ (by simp;try omega) _|refine Below.alloc ?_ (by simp;try omega) _|refine Below.drew ?_)) hb;clear hb HR)
            | (go_at_call 136;refine (HF2.out _ _ _ _ _ _ _ (by repeat (first|refine Below.setCell ?_ (by simp;try omega) _|refine Below.alloc ?_ (by have:=Bw1.out.size;simp;try omega) _|refine Below.drew ?_|exact Bw1.out))).mono ?_;rintro e w2 ⟨rfl,hb⟩;have ad:w2.heap[W.heap.size]?=some (.cells #[.int .i64 c,.int .i64 i] 24 (0,0)):=(hb.block (W.heap.size) (by first|omega|(simp;try omega))).trans (hkeep aB.out);(try clear aB a0 a1 af aL aN);have aB:Hid _:=ad;obtain ⟨a0,a1,af,aL⟩:=rw2 ad;have aN:¬ W.heap.size=w2.heap.size:=(by omega);clear ad;have zd:w2.heap[W.heap.size+1]?=some (.cells #[.int .i64 0,.int .i64 0] 24 (0,0)):=(hb.block (W.heap.size+1) (by first|omega|(simp;try omega))).trans (hkeep zB.out);(try clear zB z0 z1 zf zL zN);have zB:Hid _:=zd;obtain ⟨z0,z1,zf,zL⟩:=rw2 zd;have zN:¬ W.heap.size+1=w2.heap.size:=(by omega);clear zd;have vd:w2.heap[w1.heap.size]?=some (.cells #[.string x.nm,.string x.ds,.int .i64 x.fl,.int .i64 x.lo,.int .i64 x.st,.slice sa sk so] 30 (0,0)):=(hb.block (w1.heap.size) (by first|omega|(simp;try omega))).trans (halloc1 _ _);(try clear vB v0 v1 v2 v3 v4 v5 vf vL vN);have vB:Hid _:=vd;obtain ⟨v0,v1,v2,v3,v4,v5,vf,vL⟩:=rw6 vd;have vN:¬ w1.heap.size=w2.heap.size:=(by omega);clear vd;have Bw2:Hid (Below W.heap.size W w2):=bstep (by repeat (first|refine Below.setCell ?_ (by simp;try omega) _|refine Below.alloc ?_ (by have:=Bw1.out.size;simp;try omega) _|refine Below.drew ?_|exact Bw1.out)) hb;clear hb HF2)
            | (go_at_call 137;refine (HS2.out _ (by repeat (first|refine Below.setCell ?_ (by simp;try omega) _|refine Below.alloc ?_ (by have:=Bw2.out.size;simp;try omega) _|refine Below.drew ?_|exact Bw2.out))).mono ?_;rintro e w3 ⟨rfl,hb⟩;have zd:w3.heap[W.heap.size+1]?=some (.cells #[.int .i64 0,.int .i64 0] 24 (0,0)):=(hb.block (W.heap.size+1) (by first|omega|(simp;try omega))).trans (hkeep zB.out);(try clear zB z0 z1 zf zL zN);have zB:Hid _:=zd;obtain ⟨z0,z1,zf,zL⟩:=rw2 zd;have zN:¬ W.heap.size+1=w3.heap.size:=(by omega);clear zd;have yd:w3.heap[w2.heap.size]?=some (.cells #[.int .i64 g1,.int .i64 g2] 24 (0,0)):=(hb.block (w2.heap.size) (by first|omega|(simp;try omega))).trans (halloc1 _ _);(try clear yB y0 y1 yf yL yN);have yB:Hid _:=yd;obtain ⟨y0,y1,yf,yL⟩:=rw2 yd;have yN:¬ w2.heap.size=w3.heap.size:=(by omega);clear yd;have Bw3:Hid (Below W.heap.size W w3):=bstep (by repeat (first|refine Below.setCell ?_ (by simp;try omega) _|refine Below.alloc ?_ (by have:=Bw2.out.size;simp;try omega) _|refine Below.drew ?_|exact Bw2.out)) hb;clear hb HS2)
            | (go_at_call 138;refine (HU2.out _ Bw3.out).mono ?_;rintro e w4 ⟨rfl,hb⟩;have zd:w4.heap[W.heap.size+1]?=some (.cells #[.int .i64 0,.int .i64 0] 24 (0,0)):=(hb.block (W.heap.size+1) (by first|omega|(simp;try omega))).trans (zB.out);(try clear zB z0 z1 zf zL zN);have zB:Hid _:=zd;obtain ⟨z0,z1,zf,zL⟩:=rw2 zd;have zN:¬ W.heap.size+1=w4.heap.size:=(by omega);clear zd;have Bw4:Hid (Below W.heap.size W w4):=bstep Bw3.out hb;clear hb HU2))
          exact bodyPost_ret (v:=idE ((u1,u2),u3)) (by simp [results,Tryz.results76,go_sem,idE, *]) rfl ⟨rfl,(by repeat (first|refine Below.setCell ?_ (by simp;try omega) _|refine Below.alloc ?_ (by have:=Bw4.out.size;simp;try omega) _|refine Below.drew ?_|exact Bw4.out))⟩
structure Gr (ps:List Plc) (p:Plc):Prop where
  wi:WI ps
  wi2:WI (ps++[p])
  nn:lookL ps (nameL p)=none
theorem clO_snoc (ns:List Nd) (p:Nd) {k:Nat} (hk:k<ns.length):clO (ns++[p]) k=clO ns k:=by rw [clO,clO,List.getElem?_append_left hk]
theorem spO_snoc (ns:List Nd) (p:Nd) {k:Nat} (hk:k<ns.length):spO (ns++[p]) k=spO ns k:=by rw [spO,spO,List.getElem?_append_left hk]
theorem chL_snoc {ns:List Nd} {p:Nd} (h:WO ns) (h2:WO (ns++[p])):∀ k,k<ns.length→chL (ns++[p]) k=chL ns k:=by
  refine ch_ind h (P:=fun k=>chL (ns++[p]) k=chL ns k) rfl ?_
  intro k hk h0 _ ih
  rw [chL_cons h hk h0,chL_cons h2 (by simp;omega) h0,spO_snoc ns p hk,ih]
theorem extB_snoc {ns:List Nd} {p:Nd} (h:WO ns) (h2:WO (ns++[p])) {k:Nat} (hk:k<ns.length) (m:Nat):extB (ns++[p]) k m=extB ns k m:=by
  rw [extB,extB,chL_snoc h h2 k hk,clO_snoc ns p hk]
theorem ch_in {ns:List Nd} (h:WO ns):∀ k,k<ns.length→∀ i∈chL ns k,i<ns.length:=by
  refine ch_ind h (P:=fun k=>∀ i∈chL ns k,i<ns.length) ?_ ?_
  · intro i hi
    have h0:chL ns 0=[0]:=by rfl
    rw [h0] at hi
    obtain ⟨n,hn,_⟩:=h.top
    have:=(List.getElem?_eq_some_iff.1 hn).1
    simp at hi;omega
  · intro k hk h0 _ ih i hi
    rw [chL_cons h hk h0] at hi
    rcases List.mem_cons.1 hi with rfl|hi
    · exact hk
    · exact ih i hi
section
variable {ps:List Plc} {p:Plc}
theorem Gr.plc {i:Int} {q:Plc} (hi:plcI ps i=some q):plcI (ps++[p]) i=some q:=by
  obtain ⟨h1,h2⟩:=plcI_lt hi
  rw [plcI,if_pos h1] at hi ⊢
  rw [List.getElem?_append_left (by omega)];exact hi
theorem plc_nat {k:Nat} (hk:k<ps.length):∃ q,plcI ps (k:Int)=some q:=⟨ps[k],by rw [plcI_nat];exact List.getElem?_eq_getElem hk⟩
theorem Gr.fnd {i:Int} {q:Plc} (hi:plcI ps i=some q) (nm ds:ByteArray):fndI (ps++[p]) i nm ds=fndI ps i nm ds:=by
  rw [fndI,fndI,hi,Gr.plc hi]
theorem Gr.met {i:Int} {q:Plc} (hi:plcI ps i=some q) (j:Int):methI (ps++[p]) i j=methI ps i j:=by
  rw [methI,methI,hi,Gr.plc hi]
theorem Gr.has {i:Int} {q:Plc} (hi:plcI ps i=some q) (j f:Int):hasS (ps++[p]) i j f=hasS ps i j f:=by
  rw [hasS,hasS,Gr.met hi]
theorem Gr.ifc {i:Int} {q:Plc} (hi:plcI ps i=some q):ifcI (ps++[p]) i=ifcI ps i:=by
  rw [ifcI,ifcI,hi,Gr.plc hi]
theorem Gr.ext (h:Gr ps p) {i j:Int} {q r:Plc} (hi:plcI ps i=some q) (hj:plcI ps j=some r):extI (ps++[p]) i j=extI ps i j:=by
  have h1:=plcI_lt hi
  rw [extI,extI,hi,hj,Gr.plc hi,Gr.plc hj,List.map_append]
  show (_&&extB (ps.map nd++[nd p]) _ _)=_
  have hw:=h.wi2.wo
  rw [List.map_append] at hw
  rw [extB_snoc h.wi.wo hw (by simp;omega)]
theorem Gr.cand (nm ds:ByteArray):∀ l:List Nat,(∀ i∈l,i<ps.length)→candL (ps++[p]) nm ds l=candL ps nm ds l
  | [],_=>rfl
  | i::r,h=>by
    obtain ⟨q,hq⟩:=plc_nat (h i (by simp))
    have e1:cand1 (ps++[p]) nm ds i=cand1 ps nm ds i:=by rw [cand1,cand1,Gr.fnd hq,Gr.has hq]
    have e2:=Gr.cand nm ds r (fun j hj=>h j (by simp [hj]))
    rw [candL] at e2 ⊢
    rw [candL] at e2 ⊢
    rw [List.flatMap_cons,List.flatMap_cons,e1,e2]
theorem cand_in {nm ds:ByteArray} {l:List Nat} (h:∀ i∈l,i<ps.length) {m:Int×Int} (hm:m∈candL ps nm ds l):∃ q,plcI ps m.1=some q:=by
  rw [candL] at hm
  obtain ⟨i,hi,hc⟩:=List.mem_flatMap.1 hm
  unfold cand1 at hc
  split at hc
  · simp at hc;subst hc;exact plc_nat (h i hi)
  · simp at hc
theorem Gr.max (h:Gr ps p) {l:List (Int×Int)} (hl:∀ m∈l,∃ q,plcI ps m.1=some q):maxL (ps++[p]) l=maxL ps l:=by
  rw [maxL,maxL]
  refine List.filter_congr fun m hm=>?_
  obtain ⟨q,hq⟩:=hl m hm
  have:overB (ps++[p]) l m=overB ps l m:=by
    rw [overB,overB,Bool.eq_iff_iff,List.any_eq_true,List.any_eq_true]
    constructor
    · rintro ⟨o,ho,hh⟩
      obtain ⟨r,hr⟩:=hl o ho
      exact ⟨o,ho,by rw [h.ext hr hq] at hh;exact hh⟩
    · rintro ⟨o,ho,hh⟩
      obtain ⟨r,hr⟩:=hl o ho
      exact ⟨o,ho,by rw [h.ext hr hq];exact hh⟩
  rw [this]
theorem Gr.one (h:Gr ps p) {l:List (Int×Int)} (hl:∀ m∈l,∃ q,plcI ps m.1=some q):oneV (ps++[p]) l=oneV ps l:=by
  have e:oneL (ps++[p]) l=oneL ps l:=by
    rw [oneL,oneL,h.max hl]
    refine List.filter_congr fun m hm=>?_
    obtain ⟨q,hq⟩:=hl m (max_mem hm)
    rw [Gr.has hq]
  rw [oneV,oneV,e]
theorem cl_in (h:WI ps) {i:Int} {q:Plc} (hi:plcI ps i=some q):∀ j∈q.cl,j<ps.length:=by
  intro j hj
  obtain ⟨h1,h2⟩:=plcI_lt hi
  rw [plcI,if_pos h1] at hi
  have:=((h.wo.cl i.toNat (nd q) (nd_at' hi)).2 j hj).1
  omega
end
variable {ps:List Plc} {p:Plc}
theorem Gr.sp {a b:Int} {q r:Plc} (ha:plcI ps a=some q) (hb:plcI ps b=some r):spI (ps++[p]) a b=spI ps a b:=by
  rw [spI,spI,ha,hb,Gr.plc ha,Gr.plc hb]
theorem Gr.pln (h:Gr ps p) {c a:Int} {q r:Plc} (hc:plcI ps c=some q) (ha:plcI ps a=some r) (xn xd:ByteArray) (xf:Int) (yn yd:ByteArray) (yf:Int):plnB (ps++[p]) xn xd xf c yn yd yf a=plnB ps xn xd xf c yn yd yf a:=by
  unfold plnB bloB reaB
  rw [Gr.ifc hc,h.ext hc ha,Gr.ifc ha,Gr.sp hc ha]
theorem Gr.pl (h:Gr ps p) {c a:Int×Int} {q r:Plc} (hc:plcI ps c.1=some q) (ha:plcI ps a.1=some r):plI (ps++[p]) c a=plI ps c a:=by
  unfold plI
  rw [Gr.met hc,Gr.met ha]
  split
  · exact h.pln hc ha _ _ _ _ _ _
  · rfl
theorem Gr.st {c:Int×Int} {q:Plc} (hc:plcI ps c.1=some q):stI (ps++[p]) c=stI ps c:=by
  unfold stI
  rw [Gr.met hc]
def InP (ps:List Plc) (l:List (Int×Int)):Prop:=∀ m∈l,∃ q,plcI ps m.1=some q
theorem gth_sub (a:Int×Int):∀ (l k:List (Int×Int)),∀ m∈l.foldl (gth1 ps a) k,m∈k∨m∈l
  | [],k,m,hm=>.inl hm
  | c::r,k,m,hm=>by
    rw [List.foldl_cons] at hm
    rcases gth_sub a r _ m hm with h|h
    · rw [gth1] at h
      split at h
      · rcases List.mem_append.1 h with h|h
        · exact .inl h
        · rw [List.mem_singleton] at h;exact .inr (by rw [h];exact List.mem_cons_self)
      · exact .inl h
    · exact .inr (List.mem_cons_of_mem _ h)
theorem gthL_sub {a:Int×Int} {l:List (Int×Int)} {m:Int×Int} (h:m∈gthL ps a l):m∈l:=by
  rcases gth_sub (ps:=ps) a l [] m h with h|h
  · cases h
  · exact h
theorem any_congr {α:Type} {f g:α→Bool}:∀ {l:List α},(∀ x∈l,f x=g x)→l.any f=l.any g
  | [],_=>rfl
  | x::r,h=>by rw [List.any_cons,List.any_cons,h x List.mem_cons_self,any_congr (fun y hy=>h y (List.mem_cons_of_mem _ hy))]
theorem Gr.gth1 (h:Gr ps p) {a c:Int×Int} {q:Plc} (hc:plcI ps c.1=some q) {k:List (Int×Int)} (hk:InP ps k):Go.Proofs.YthfifobokpfpkaaGreat.gth1 (ps++[p]) a k c=Go.Proofs.YthfifobokpfpkaaGreat.gth1 ps a k c:=by
  unfold Go.Proofs.YthfifobokpfpkaaGreat.gth1
  rw [Gr.st hc,any_congr (fun x hx=>by obtain ⟨r,hr⟩:=hk x hx;exact h.pl hc hr)]
theorem Gr.gthF (h:Gr ps p) (a:Int×Int):∀ (l k:List (Int×Int)),InP ps l→InP ps k→l.foldl (Go.Proofs.YthfifobokpfpkaaGreat.gth1 (ps++[p]) a) k=l.foldl (Go.Proofs.YthfifobokpfpkaaGreat.gth1 ps a) k
  | [],_,_,_=>rfl
  | c::r,k,hl,hk=>by
    obtain ⟨q,hq⟩:=hl c List.mem_cons_self
    rw [List.foldl_cons,List.foldl_cons,h.gth1 hq hk]
    refine Gr.gthF h a r _ (fun m hm=>hl m (List.mem_cons_of_mem _ hm)) (fun m hm=>?_)
    rw [Go.Proofs.YthfifobokpfpkaaGreat.gth1] at hm
    split at hm
    · rcases List.mem_append.1 hm with hm|hm
      · exact hk m hm
      · rw [List.mem_singleton] at hm;subst hm;exact ⟨q,hq⟩
    · exact hk m hm
theorem Gr.gthL (h:Gr ps p) (a:Int×Int) {l:List (Int×Int)} (hl:InP ps l):Go.Proofs.YthfifobokpfpkaaGreat.gthL (ps++[p]) a l=Go.Proofs.YthfifobokpfpkaaGreat.gthL ps a l:=h.gthF a l [] hl (fun m hm=>by cases hm)
theorem Gr.nsk (nm ds:ByteArray) (a:Int):∀ l:List Nat,(∀ i∈l,i<ps.length)→nskL (ps++[p]) nm ds a l=nskL ps nm ds a l
  | [],_=>rfl
  | i::r,h=>by
    obtain ⟨q,hq⟩:=plc_nat (ps:=ps) (h i List.mem_cons_self)
    rw [nskL,nskL,Gr.fnd hq,Gr.nsk nm ds a r (fun j hj=>h j (List.mem_cons_of_mem _ hj))]
theorem nsk_in (nm ds:ByteArray) (a:Int):∀ l:List Nat,(∀ i∈l,i<ps.length)→InP ps (nskL ps nm ds a l)
  | [],_,m,hm=>by cases hm
  | i::r,h,m,hm=>by
    rw [nskL] at hm
    have ih:=nsk_in nm ds a r (fun j hj=>h j (List.mem_cons_of_mem _ hj))
    split at hm
    · rcases List.mem_cons.1 hm with rfl|hm
      · exact plc_nat (h i List.mem_cons_self)
      · exact ih m hm
    · exact ih m hm
theorem Gr.chn (h:Gr ps p) {c:Int} {q:Plc} (hc:plcI ps c=some q):chL ((ps++[p]).map nd) c.toNat=chL (ps.map nd) c.toNat∧∀ i∈chL (ps.map nd) c.toNat,i<ps.length:=by
  obtain ⟨h1,h2⟩:=plcI_lt hc
  have hw:=h.wi2.wo
  rw [List.map_append] at hw
  have hlt:c.toNat<(ps.map nd).length:=by simp;omega
  refine ⟨by rw [List.map_append];exact chL_snoc h.wi.wo hw _ hlt,fun i hi=>by have:=ch_in h.wi.wo _ hlt i hi;simpa using this⟩
theorem ask_in {m:HM} {a:Int×Int} {q:Plc} (ha:plcI ps a.1=some q) {l:List Nat} (hl:∀ i∈l,i<ps.length):InP ps (askL ps m a l):=by
  intro x hx
  rw [askL] at hx
  rcases List.mem_cons.1 hx with rfl|hx
  · exact ⟨q,ha⟩
  · exact nsk_in _ _ _ l hl x hx
theorem Gr.fir (h:Gr ps p) {r:Int} {a:Int×Int} {q s:Plc} (hr:plcI ps r=some q) (ha:plcI ps a.1=some s):firI (ps++[p]) r a=firI ps r a∧((firI ps r a).2=0→∃ t,plcI ps (firI ps r a).1.1=some t):=by
  obtain ⟨e1,e2⟩:=h.chn hr
  unfold firI
  rw [Gr.met ha,hr,Gr.plc hr]
  cases hm:methI ps a.1 a.2 with
  | none=>exact ⟨rfl,fun e=>absurd e (show ¬ (3:Int)=0 by decide)⟩
  | some m =>
    simp only
    have hl:∀ i∈(chL (ps.map nd) r.toNat).reverse,i<ps.length:=fun i hi=>e2 i (List.mem_reverse.1 hi)
    have ea:askL (ps++[p]) m a (chL (ps.map nd) r.toNat).reverse=askL ps m a (chL (ps.map nd) r.toNat).reverse:=by rw [askL,askL,Gr.nsk _ _ _ _ hl]
    have hin:=ask_in (m:=m) ha hl
    rw [e1,ea,h.gthL a hin]
    refine ⟨rfl,fun e=>?_⟩
    cases hg:(Go.Proofs.YthfifobokpfpkaaGreat.gthL ps a (askL ps m a (chL (ps.map nd) r.toNat).reverse)).getLast? with
    | none=>rw [lstI,hg] at e;exact absurd e (show ¬ (6:Int)=0 by decide)
    | some x =>
      rw [lstI_last hg] at e ⊢
      split
      · exact hin x (gthL_sub (List.mem_of_getLast? hg))
      · rename_i hh;rw [if_neg hh] at e;exact absurd e (by decide)
theorem Gr.una {m:Int×Int} {q:Plc} (hm:plcI ps m.1=some q):unaI (ps++[p]) m=unaI ps m:=by rw [unaI,unaI,Gr.has hm]
theorem Gr.on (h:Gr ps p) {c:Int} {q:Plc} (hc:plcI ps c=some q) (nm ds:ByteArray):onI (ps++[p]) c nm ds=onI ps c nm ds:=by
  rw [onI,onI,hc,Gr.plc hc]
  simp only
  have hl:=cl_in h.wi hc
  rw [Gr.cand nm ds q.cl hl,h.one (fun m hm=>cand_in hl hm)]
theorem Gr.crd {d:Int} {m:Int×Int} {q r:Plc} (hd:plcI ps d=some q) (hm:plcI ps m.1=some r):crdI (ps++[p]) d m=crdI ps d m:=by
  rw [crdI,crdI,hd,Gr.plc hd,Gr.met hm]
theorem Gr.vir (h:Gr ps p) {r:Int} {m:Int×Int} {q s:Plc} (hr:plcI ps r=some q) (hm:plcI ps m.1=some s):virI (ps++[p]) r m=virI ps r m:=by
  unfold virI rfrI
  rw [Gr.crd hr hm,Gr.ifc hr]
  cases hD:crdI ps r m with
  | error e=>rfl
  | ok x =>
    obtain ⟨e1,e2⟩:=h.fir hr hm
    cases ifcI ps r with
    | true=>rfl
    | false =>
      simp only [Bool.false_eq_true,if_false]
      rw [e1,h.on hr]
      split
      · rfl
      · split
        · rename_i h0
          obtain ⟨t,ht⟩:=e2 h0
          rw [Gr.una ht]
        · rfl
theorem Gr.upp (nm ds:ByteArray):∀ l:List Nat,(∀ i∈l,i<ps.length)→uppI (ps++[p]) nm ds l=uppI ps nm ds l
  | [],_=>rfl
  | i::r,h=>by
    obtain ⟨q,hq⟩:=plc_nat (ps:=ps) (h i List.mem_cons_self)
    rw [uppI,uppI,Gr.fnd hq,Gr.has hq,Gr.upp nm ds r (fun j hj=>h j (List.mem_cons_of_mem _ hj))]
theorem upp_in (nm ds:ByteArray):∀ l:List Nat,(∀ i∈l,i<ps.length)→(uppI ps nm ds l).2=true→∃ q,plcI ps (uppI ps nm ds l).1.1=some q
  | [],_,e=>by cases e
  | i::r,h,e=>by
    rw [uppI] at e ⊢
    split at e
    · rename_i hh
      rw [if_pos hh]
      exact plc_nat (h i List.mem_cons_self)
    · rename_i hh
      rw [if_neg hh]
      exact upp_in nm ds r (fun j hj=>h j (List.mem_cons_of_mem _ hj)) e
theorem Gr.uch (h:Gr ps p) {c:Int} {q:Plc} (hc:plcI ps c=some q) (nm ds:ByteArray):uchI (ps++[p]) nm ds c=uchI ps nm ds c∧((uchI ps nm ds c).2=true→∃ t,plcI ps (uchI ps nm ds c).1.1=some t):=by
  obtain ⟨e1,e2⟩:=h.chn hc
  unfold uchI
  rw [hc,Gr.plc hc]
  simp only
  rw [e1,Gr.upp nm ds _ e2]
  exact ⟨rfl,upp_in nm ds _ e2⟩
theorem Gr.itf (h:Gr ps p) {r:Int} {m:Int×Int} {q s:Plc} (hr:plcI ps r=some q) (hm:plcI ps m.1=some s):itfI (ps++[p]) r m=itfI ps r m:=by
  unfold itfI rfrI
  rw [Gr.crd hr hm,Gr.ifc hr]
  cases hD:crdI ps r m with
  | error e=>rfl
  | ok x =>
    obtain ⟨e1,e2⟩:=h.uch hr x.nm x.ds
    cases ifcI ps r with
    | true=>rfl
    | false =>
      simp only [Bool.false_eq_true,if_false]
      rw [e1,h.on hr]
      split
      · rfl
      · split
        · rename_i h0
          obtain ⟨t,ht⟩:=e2 h0
          rw [Gr.una ht,Gr.has ht]
        · rfl
end Go.Proofs.YthfifobokpfpkaaGreat
