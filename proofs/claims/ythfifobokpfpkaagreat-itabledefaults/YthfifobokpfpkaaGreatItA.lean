import Derived.Test.YthfifobokpfpkaaGreatOvF
import Derived.Test.YthfifobokpfpkaaGreatOvH
import Derived.Test.YthfifobokpfpkaaGreatOvP
import Derived.Test.YthfifobokpfpkaaGreatAcE
import Derived.Test.YthfifobokpfpkaaGreatTypesParse
import Derived.Test.YthfifobokpfpkaaGreatCurB
import Derived.Test.YthfifobokpfpkaaGreatSoD
import Derived.Test.YthfifobokpfpkaaGreatOwnRefs
import Derived.Test.YthfifobokpfpkaaGreatOwnL
import Derived.Test.YthfifobokpfpkaaGreatHrR
import Derived.Test.YthfifobokpfpkaaGreatMxC
import Derived.Laws.IdiomStrings
import Derived.Deep.LoopGhost
import Derived.Deep.RegionHeld3
set_option maxRecDepth 100000
namespace Go.Proofs.YthfifobokpfpkaaGreat
open Go.RowKit Go.Maps
def onI (ps:List Plc) (c:Int) (nm ds:ByteArray):(Int×Int)×Int:=match plcI ps c with
  | some q=>oneV ps (candL ps nm ds q.cl)
  | none=>((0,0),3)
theorem one_c {b:Nat} {ps:List Plc} {W:World} (h:WAt b ps W) (hi:WI ps) (c:Int) (nm ds:ByteArray):Calls Tryz.prog 78 #[.pointer (some ⟨b,0,none⟩),.int .i64 c,.string nm,.string ds] W fun e w'=>e=.returned (idE (onI ps c nm ds))∧Below W.heap.size W w':=by
  rcases plcI_cases ps c with ⟨h1,_⟩|⟨k,q,rfl,h2,h1⟩
  · have e:onI ps c nm ds=((0,0),3):=by rw [onI,h1]
    rw [e];exact one_no h c h1 nm ds
  · have e:onI ps (k:Int) nm ds=oneV ps (candL ps nm ds q.cl):=by rw [onI,h1]
    rw [e];exact one_yes h hi k q h2 nm ds
theorem rfr_err {ps:List Plc} {r:Int} {m:Int×Int} {x:Int} (h:rfrI ps r m=.error x):x=2∨x=3:=by
  rw [rfrI] at h
  split at h
  · split at h
    · cases h;exact .inl rfl
    · cases h
  · rename_i e he
    cases h
    rw [crdI] at he
    split at he
    · cases he
    · cases he;exact .inr rfl
def virI (ps:List Plc) (r:Int) (m:Int×Int):(Int×Int)×Int:=match rfrI ps r m with
  | .error e=>((0,0),e)
  | .ok x=>if stB x.fl then ((0,0),23) else if (firI ps r m).2=0 then unaI ps (firI ps r m).1 else onI ps r x.nm x.ds
def itfI (ps:List Plc) (r:Int) (m:Int×Int):(Int×Int)×Int:=match rfrI ps r m with
  | .error e=>((0,0),e)
  | .ok x=>if hasI x.fl 10 then ((0,0),23) else if (uchI ps x.nm x.ds r).2 then (if hasS ps (uchI ps x.nm x.ds r).1.1 (uchI ps x.nm x.ds r).1.2 1 then unaI ps (uchI ps x.nm x.ds r).1 else ((0,0),22)) else onI ps r x.nm x.ds
set_option maxHeartbeats 2000000 in
theorem vir_c {b:Nat} {ps:List Plc} {W:World} (h:WAt b ps W) (hi:WI ps) (r c i:Int):Calls Tryz.prog 77 #[.pointer (some ⟨b,0,none⟩),.int .i64 r,.agg #[.int .i64 c,.int .i64 i]] W fun e w'=>e=.returned (idE (virI ps r (c,i)))∧Below W.heap.size W w':=by
  have HI:∀ w,Below W.heap.size W w→WAt b ps w:=fun w hb=>h.below hb
  have HR:Hid (∀ w,Below W.heap.size W w→Calls Tryz.prog 135 #[.pointer (some ⟨b,0,none⟩),.int .i64 r,.agg #[.int .i64 c,.int .i64 i]] w fun e w'=>mthE (rfrI ps r (c,i)) e∧Below w.heap.size w w'):=fun w hb=>rfr_c (HI w hb) hi.pb r c i
  have HO:Hid (∀ nm ds w,Below W.heap.size W w→Calls Tryz.prog 78 #[.pointer (some ⟨b,0,none⟩),.int .i64 r,.string nm,.string ds] w fun e w'=>e=.returned (.tuple #[.agg #[.int .i64 (onI ps r nm ds).1.1,.int .i64 (onI ps r nm ds).1.2],.int .i64 (onI ps r nm ds).2])∧Below w.heap.size w w'):=fun nm ds w hb=>one_c (HI w hb) hi r nm ds
  have HU:Hid (∀ c i w,Below W.heap.size W w→Calls Tryz.prog 138 #[.pointer (some ⟨b,0,none⟩),.agg #[.int .i64 c,.int .i64 i]] w fun e w'=>e=.returned (.tuple #[.agg #[.int .i64 (unaI ps (c,i)).1.1,.int .i64 (unaI ps (c,i)).1.2],.int .i64 (unaI ps (c,i)).2])∧Below w.heap.size w w'):=fun c i w hb=>una_c (HI w hb) hi.pb c i
  have HF:Hid (∀ w,Below W.heap.size W w→Calls Tryz.prog 22 #[.pointer (some ⟨b,0,none⟩),.int .i64 r,.agg #[.int .i64 c,.int .i64 i]] w fun e w'=>e=.returned (idE (firI ps r (c,i)))∧Below w.heap.size w w'):=fun w hb=>first_c (HI w hb) hi r c i
  unfold virI
  cases hD:rfrI ps r (c,i) with
  | error x =>
    have hx:x≠0:=by rcases rfr_err hD with rfl|rfl <;> decide
    rw [hD] at HR
    simp only [mthE] at HR
    clear h hi HI hD HO HU HF
    go_enter Tryz.func77,Tryz.ntmps77
    go_wp2_with (first
      | (go_at_call 135;refine (HR.out _ (by repeat (first|exact Below.refl _ _|refine Below.setCell ?_ (by simp;try omega) _|refine Below.alloc ?_ (by simp;try omega) _|refine Below.drew ?_))).mono ?_;rintro e w1 ⟨rfl,hb⟩;have ad:w1.heap[W.heap.size]?=some (.cells #[.int .i64 c,.int .i64 i] 24 (0,0)):=(hb.block (W.heap.size) (by first|omega|(simp;try omega))).trans (hkeep (halloc1 _ _));(try clear aB a0 a1 af aL aN);have aB:Hid _:=ad;obtain ⟨a0,a1,af,aL⟩:=rw2 ad;have aN:¬ W.heap.size=w1.heap.size:=(by omega);clear ad;have zd:w1.heap[W.heap.size+1]?=some (.cells #[.int .i64 0,.int .i64 0] 24 (0,0)):=(hb.block (W.heap.size+1) (by first|omega|(simp;try omega))).trans (halloc2 _ _ (by simp));(try clear zB z0 z1 zf zL zN);have zB:Hid _:=zd;obtain ⟨z0,z1,zf,zL⟩:=rw2 zd;have zN:¬ W.heap.size+1=w1.heap.size:=(by omega);clear zd;have Bw1:Hid (Below W.heap.size W w1):=bstep (by repeat (first|exact Below.refl _ _|refine Below.setCell ?_ (by simp;try omega) _|refine Below.alloc ?_ (by simp;try omega) _|refine Below.drew ?_)) hb;clear hb HR))
    exact bodyPost_ret (v:=idE ((0,0),x)) (by simp [results,Tryz.results77,go_sem,idE, *]) rfl ⟨rfl,(by repeat (first|refine Below.setCell ?_ (by simp;try omega) _|refine Below.alloc ?_ (by have:=Bw1.out.size;simp;try omega) _|refine Below.drew ?_|exact Bw1.out))⟩
  | ok x =>
    rw [hD] at HR
    simp only [mthE] at HR
    simp only
    generalize firI ps r (c,i)=G at *
    obtain ⟨⟨g1,g2⟩,g3⟩:=G
    simp only [idE] at HF
    have HO2:Hid _:=HO.out x.nm x.ds
    have HU2:Hid _:=HU.out g1 g2
    generalize onI ps r x.nm x.ds=O at *
    simp only
    generalize unaI ps (g1,g2)=U at *
    obtain ⟨⟨o1,o2⟩,o3⟩:=O
    obtain ⟨⟨u1,u2⟩,u3⟩:=U
    simp only at HO2 HU2
    clear h hi HI hD HO HU
    cases hS:stB x.fl
    case true =>
      rw [stB] at hS
      clear HF HO2 HU2
      go_enter Tryz.func77,Tryz.ntmps77
      go_wp2_with (first
        | (go_at_call 135;refine (HR.out _ (by repeat (first|exact Below.refl _ _|refine Below.setCell ?_ (by simp;try omega) _|refine Below.alloc ?_ (by simp;try omega) _|refine Below.drew ?_))).mono ?_;rintro e w1 ⟨⟨sa,sk,so,rfl⟩,hb⟩;have ad:w1.heap[W.heap.size]?=some (.cells #[.int .i64 c,.int .i64 i] 24 (0,0)):=(hb.block (W.heap.size) (by first|omega|(simp;try omega))).trans (hkeep (halloc1 _ _));(try clear aB a0 a1 af aL aN);have aB:Hid _:=ad;obtain ⟨a0,a1,af,aL⟩:=rw2 ad;have aN:¬ W.heap.size=w1.heap.size:=(by omega);clear ad;have zd:w1.heap[W.heap.size+1]?=some (.cells #[.int .i64 0,.int .i64 0] 24 (0,0)):=(hb.block (W.heap.size+1) (by first|omega|(simp;try omega))).trans (halloc2 _ _ (by simp));(try clear zB z0 z1 zf zL zN);have zB:Hid _:=zd;obtain ⟨z0,z1,zf,zL⟩:=rw2 zd;have zN:¬ W.heap.size+1=w1.heap.size:=(by omega);clear zd;have Bw1:Hid (Below W.heap.size W w1):=bstep (by repeat (first|exact Below.refl _ _|refine Below.setCell ?_ (by simp;try omega) _|refine Below.alloc ?_ (by simp;try omega) _|refine Below.drew ?_)) hb;clear hb HR))
      exact bodyPost_ret (v:=idE ((0,0),23)) (by simp [results,Tryz.results77,go_sem,idE, *]) rfl ⟨rfl,(by repeat (first|refine Below.setCell ?_ (by simp;try omega) _|refine Below.alloc ?_ (by have:=Bw1.out.size;simp;try omega) _|refine Below.drew ?_|exact Bw1.out))⟩
    case false =>
      rw [stB] at hS
      by_cases hg:g3=0
      · subst hg
        clear HO2
        go_enter Tryz.func77,Tryz.ntmps77
        go_wp2_with (first
          | (go_at_call 135;refine (HR.out _ (by repeat (first|exact Below.refl _ _|refine Below.setCell ?_ (by simp;try omega) _|refine Below.alloc ?_ (by simp;try omega) _|refine Below.drew ?_))).mono ?_;rintro e w1 ⟨⟨sa,sk,so,rfl⟩,hb⟩;have ad:w1.heap[W.heap.size]?=some (.cells #[.int .i64 c,.int .i64 i] 24 (0,0)):=(hb.block (W.heap.size) (by first|omega|(simp;try omega))).trans (hkeep (halloc1 _ _));(try clear aB a0 a1 af aL aN);have aB:Hid _:=ad;obtain ⟨a0,a1,af,aL⟩:=rw2 ad;have aN:¬ W.heap.size=w1.heap.size:=(by omega);clear ad;have zd:w1.heap[W.heap.size+1]?=some (.cells #[.int .i64 0,.int .i64 0] 24 (0,0)):=(hb.block (W.heap.size+1) (by first|omega|(simp;try omega))).trans (halloc2 _ _ (by simp));(try clear zB z0 z1 zf zL zN);have zB:Hid _:=zd;obtain ⟨z0,z1,zf,zL⟩:=rw2 zd;have zN:¬ W.heap.size+1=w1.heap.size:=(by omega);clear zd;have Bw1:Hid (Below W.heap.size W w1):=bstep (by repeat (first|exact Below.refl _ _|refine Below.setCell ?_ (by simp;try omega) _|refine Below.alloc ?_ (by simp;try omega) _|refine Below.drew ?_)) hb;clear hb HR)
          | (go_at_call 22;refine (HF.out _ (by repeat (first|refine Below.setCell ?_ (by simp;try omega) _|refine Below.alloc ?_ (by have:=Bw1.out.size;simp;try omega) _|refine Below.drew ?_|exact Bw1.out))).mono ?_;rintro e w2 ⟨rfl,hb⟩;have ad:w2.heap[W.heap.size]?=some (.cells #[.int .i64 c,.int .i64 i] 24 (0,0)):=(hb.block (W.heap.size) (by first|omega|(simp;try omega))).trans (hkeep aB.out);(try clear aB a0 a1 af aL aN);have aB:Hid _:=ad;obtain ⟨a0,a1,af,aL⟩:=rw2 ad;have aN:¬ W.heap.size=w2.heap.size:=(by omega);clear ad;have zd:w2.heap[W.heap.size+1]?=some (.cells #[.int .i64 0,.int .i64 0] 24 (0,0)):=(hb.block (W.heap.size+1) (by first|omega|(simp;try omega))).trans (hkeep zB.out);(try clear zB z0 z1 zf zL zN);have zB:Hid _:=zd;obtain ⟨z0,z1,zf,zL⟩:=rw2 zd;have zN:¬ W.heap.size+1=w2.heap.size:=(by omega);clear zd;have vd:w2.heap[w1.heap.size]?=some (.cells #[.string x.nm,.string x.ds,.int .i64 x.fl,.int .i64 x.lo,.int .i64 x.st,.slice sa sk so] 30 (0,0)):=(hb.block (w1.heap.size) (by first|omega|(simp;try omega))).trans (halloc1 _ _);(try clear vB v0 v1 v2 v3 v4 v5 vf vL vN);have vB:Hid _:=vd;obtain ⟨v0,v1,v2,v3,v4,v5,vf,vL⟩:=rw6 vd;have vN:¬ w1.heap.size=w2.heap.size:=(by omega);clear vd;have Bw2:Hid (Below W.heap.size W w2):=bstep (by repeat (first|refine Below.setCell ?_ (by simp;try omega) _|refine Below.alloc ?_ (by have:=Bw1.out.size;simp;try omega) _|refine Below.drew ?_|exact Bw1.out)) hb;clear hb HF)
          | (go_at_call 138;refine (HU2.out _ (by repeat (first|refine Below.setCell ?_ (by simp;try omega) _|refine Below.alloc ?_ (by have:=Bw2.out.size;simp;try omega) _|refine Below.drew ?_|exact Bw2.out))).mono ?_;rintro e w3 ⟨rfl,hb⟩;have zd:w3.heap[W.heap.size+1]?=some (.cells #[.int .i64 0,.int .i64 0] 24 (0,0)):=(hb.block (W.heap.size+1) (by first|omega|(simp;try omega))).trans (hkeep zB.out);(try clear zB z0 z1 zf zL zN);have zB:Hid _:=zd;obtain ⟨z0,z1,zf,zL⟩:=rw2 zd;have zN:¬ W.heap.size+1=w3.heap.size:=(by omega);clear zd;have Bw3:Hid (Below W.heap.size W w3):=bstep (by repeat (first|refine Below.setCell ?_ (by simp;try omega) _|refine Below.alloc ?_ (by have:=Bw2.out.size;simp;try omega) _|refine Below.drew ?_|exact Bw2.out)) hb;clear hb HU2))
        exact bodyPost_ret (v:=idE ((u1,u2),u3)) (by simp [results,Tryz.results77,go_sem,idE, *]) rfl ⟨rfl,(by repeat (first|refine Below.setCell ?_ (by simp;try omega) _|refine Below.alloc ?_ (by have:=Bw3.out.size;simp;try omega) _|refine Below.drew ?_|exact Bw3.out))⟩
      · rw [if_neg hg]
        clear HU2
        go_enter Tryz.func77,Tryz.ntmps77
        go_wp2_with (first
          | (go_at_call 135;refine (HR.out _ (by repeat (first|exact Below.refl _ _|refine Below.setCell ?_ (by simp;try omega) _|refine Below.alloc ?_ (by simp;try omega) _|refine Below.drew ?_))).mono ?_;rintro e w1 ⟨⟨sa,sk,so,rfl⟩,hb⟩;have ad:w1.heap[W.heap.size]?=some (.cells #[.int .i64 c,.int .i64 i] 24 (0,0)):=(hb.block (W.heap.size) (by first|omega|(simp;try omega))).trans (hkeep (halloc1 _ _));(try clear aB a0 a1 af aL aN);have aB:Hid _:=ad;obtain ⟨a0,a1,af,aL⟩:=rw2 ad;have aN:¬ W.heap.size=w1.heap.size:=(by omega);clear ad;have zd:w1.heap[W.heap.size+1]?=some (.cells #[.int .i64 0,.int .i64 0] 24 (0,0)):=(hb.block (W.heap.size+1) (by first|omega|(simp;try omega))).trans (halloc2 _ _ (by simp));(try clear zB z0 z1 zf zL zN);have zB:Hid _:=zd;obtain ⟨z0,z1,zf,zL⟩:=rw2 zd;have zN:¬ W.heap.size+1=w1.heap.size:=(by omega);clear zd;have Bw1:Hid (Below W.heap.size W w1):=bstep (by repeat (first|exact Below.refl _ _|refine Below.setCell ?_ (by simp;try omega) _|refine Below.alloc ?_ (by simp;try omega) _|refine Below.drew ?_)) hb;clear hb HR)
          | (go_at_call 22;refine (HF.out _ (by repeat (first|refine Below.setCell ?_ (by simp;try omega) _|refine Below.alloc ?_ (by have:=Bw1.out.size;simp;try omega) _|refine Below.drew ?_|exact Bw1.out))).mono ?_;rintro e w2 ⟨rfl,hb⟩;have ad:w2.heap[W.heap.size]?=some (.cells #[.int .i64 c,.int .i64 i] 24 (0,0)):=(hb.block (W.heap.size) (by first|omega|(simp;try omega))).trans (hkeep aB.out);(try clear aB a0 a1 af aL aN);have aB:Hid _:=ad;obtain ⟨a0,a1,af,aL⟩:=rw2 ad;have aN:¬ W.heap.size=w2.heap.size:=(by omega);clear ad;have zd:w2.heap[W.heap.size+1]?=some (.cells #[.int .i64 0,.int .i64 0] 24 (0,0)):=(hb.block (W.heap.size+1) (by first|omega|(simp;try omega))).trans (hkeep zB.out);(try clear zB z0 z1 zf zL zN);have zB:Hid _:=zd;obtain ⟨z0,z1,zf,zL⟩:=rw2 zd;have zN:¬ W.heap.size+1=w2.heap.size:=(by omega);clear zd;have vd:w2.heap[w1.heap.size]?=some (.cells #[.string x.nm,.string x.ds,.int .i64 x.fl,.int .i64 x.lo,.int .i64 x.st,.slice sa sk so] 30 (0,0)):=(hb.block (w1.heap.size) (by first|omega|(simp;try omega))).trans (halloc1 _ _);(try clear vB v0 v1 v2 v3 v4 v5 vf vL vN);have vB:Hid _:=vd;obtain ⟨v0,v1,v2,v3,v4,v5,vf,vL⟩:=rw6 vd;have vN:¬ w1.heap.size=w2.heap.size:=(by omega);clear vd;have Bw2:Hid (Below W.heap.size W w2):=bstep (by repeat (first|refine Below.setCell ?_ (by simp;try omega) _|refine Below.alloc ?_ (by have:=Bw1.out.size;simp;try omega) _|refine Below.drew ?_|exact Bw1.out)) hb;clear hb HF)
          | (go_at_call 78;refine (HO2.out _ (by repeat (first|refine Below.setCell ?_ (by simp;try omega) _|refine Below.alloc ?_ (by have:=Bw2.out.size;simp;try omega) _|refine Below.drew ?_|exact Bw2.out))).mono ?_;rintro e w3 ⟨rfl,hb⟩;have zd:w3.heap[W.heap.size+1]?=some (.cells #[.int .i64 0,.int .i64 0] 24 (0,0)):=(hb.block (W.heap.size+1) (by first|omega|(simp;try omega))).trans (hkeep zB.out);(try clear zB z0 z1 zf zL zN);have zB:Hid _:=zd;obtain ⟨z0,z1,zf,zL⟩:=rw2 zd;have zN:¬ W.heap.size+1=w3.heap.size:=(by omega);clear zd;have Bw3:Hid (Below W.heap.size W w3):=bstep (by repeat (first|refine Below.setCell ?_ (by simp;try omega) _|refine Below.alloc ?_ (by have:=Bw2.out.size;simp;try omega) _|refine Below.drew ?_|exact Bw2.out)) hb;clear hb HO2))
        exact bodyPost_ret (v:=idE ((o1,o2),o3)) (by simp [results,Tryz.results77,go_sem,idE, *]) rfl ⟨rfl,(by repeat (first|refine Below.setCell ?_ (by simp;try omega) _|refine Below.alloc ?_ (by have:=Bw3.out.size;simp;try omega) _|refine Below.drew ?_|exact Bw3.out))⟩
set_option maxHeartbeats 2000000 in
theorem itf_c {b:Nat} {ps:List Plc} {W:World} (h:WAt b ps W) (hi:WI ps) (r c i:Int):Calls Tryz.prog 76 #[.pointer (some ⟨b,0,none⟩),.int .i64 r,.agg #[.int .i64 c,.int .i64 i]] W fun e w'=>e=.returned (idE (itfI ps r (c,i)))∧Below W.heap.size W w':=by
  have HI:∀ w,Below W.heap.size W w→WAt b ps w:=fun w hb=>h.below hb
  have HR:Hid (∀ w,Below W.heap.size W w→Calls Tryz.prog 135 #[.pointer (some ⟨b,0,none⟩),.int .i64 r,.agg #[.int .i64 c,.int .i64 i]] w fun e w'=>mthE (rfrI ps r (c,i)) e∧Below w.heap.size w w'):=fun w hb=>rfr_c (HI w hb) hi.pb r c i
  have HO:Hid (∀ nm ds w,Below W.heap.size W w→Calls Tryz.prog 78 #[.pointer (some ⟨b,0,none⟩),.int .i64 r,.string nm,.string ds] w fun e w'=>e=.returned (.tuple #[.agg #[.int .i64 (onI ps r nm ds).1.1,.int .i64 (onI ps r nm ds).1.2],.int .i64 (onI ps r nm ds).2])∧Below w.heap.size w w'):=fun nm ds w hb=>one_c (HI w hb) hi r nm ds
  have HU:Hid (∀ c i w,Below W.heap.size W w→Calls Tryz.prog 138 #[.pointer (some ⟨b,0,none⟩),.agg #[.int .i64 c,.int .i64 i]] w fun e w'=>e=.returned (.tuple #[.agg #[.int .i64 (unaI ps (c,i)).1.1,.int .i64 (unaI ps (c,i)).1.2],.int .i64 (unaI ps (c,i)).2])∧Below w.heap.size w w'):=fun c i w hb=>una_c (HI w hb) hi.pb c i
  have HF:Hid (∀ nm ds fl lo st sa sk so w,Below W.heap.size W w→Calls Tryz.prog 136 #[.pointer (some ⟨b,0,none⟩),.int .i64 r,.agg #[.string nm,.string ds,.int .i64 fl,.int .i64 lo,.int .i64 st,.slice sa sk so]] w fun e w'=>e=.returned (idB (uchI ps nm ds r))∧Below w.heap.size w w'):=fun nm ds fl lo st sa sk so w hb=>uch_c (HI w hb) hi r nm ds fl lo st sa sk so
  have HS:Hid (∀ c i w,Below W.heap.size W w→Calls Tryz.prog 137 #[.pointer (some ⟨b,0,none⟩),.agg #[.int .i64 c,.int .i64 i],.int .i64 1] w fun e w'=>e=.returned (.bool (hasS ps c i 1))∧Below w.heap.size w w'):=fun c i w hb=>chS_c (HI w hb) hi.pb c i 1
  unfold itfI
  cases hD:rfrI ps r (c,i) with
  | error x =>
    have hx:x≠0:=by rcases rfr_err hD with rfl|rfl <;> decide
    rw [hD] at HR
    simp only [mthE] at HR
    clear h hi HI hD HO HU HF HS
    go_enter Tryz.func76,Tryz.ntmps76
    go_wp2_with (first
      | (go_at_call 135;refine (HR.out _ (by repeat (first|exact Below.refl _ _|refine Below.setCell ?_ (by simp;try omega) _|refine Below.alloc ?_ (by simp;try omega) _|refine Below.drew ?_))).mono ?_;rintro e w1 ⟨rfl,hb⟩;have ad:w1.heap[W.heap.size]?=some (.cells #[.int .i64 c,.int .i64 i] 24 (0,0)):=(hb.block (W.heap.size) (by first|omega|(simp;try omega))).trans (hkeep (halloc1 _ _));(try clear aB a0 a1 af aL aN);have aB:Hid _:=ad;obtain ⟨a0,a1,af,aL⟩:=rw2 ad;have aN:¬ W.heap.size=w1.heap.size:=(by omega);clear ad;have zd:w1.heap[W.heap.size+1]?=some (.cells #[.int .i64 0,.int .i64 0] 24 (0,0)):=(hb.block (W.heap.size+1) (by first|omega|(simp;try omega))).trans (halloc2 _ _ (by simp));(try clear zB z0 z1 zf zL zN);have zB:Hid _:=zd;obtain ⟨z0,z1,zf,zL⟩:=rw2 zd;have zN:¬ W.heap.size+1=w1.heap.size:=(by omega);clear zd;have Bw1:Hid (Below W.heap.size W w1):=bstep (by repeat (first|exact Below.refl _ _|refine Below.setCell ?_ (by simp;try omega) _|refine Below.alloc ?_ (by simp;try omega) _|refine Below.drew ?_)) hb;clear hb HR))
    exact bodyPost_ret (v:=idE ((0,0),x)) (by simp [results,Tryz.results76,go_sem,idE, *]) rfl ⟨rfl,(by repeat (first|refine Below.setCell ?_ (by simp;try omega) _|refine Below.alloc ?_ (by have:=Bw1.out.size;simp;try omega) _|refine Below.drew ?_|exact Bw1.out))⟩
  | ok x =>
    rw [hD] at HR
    simp only [mthE] at HR
    simp only
    have HF2:Hid (∀ fl lo st sa sk so w,Below W.heap.size W w→Calls Tryz.prog 136 #[.pointer (some ⟨b,0,none⟩),.int .i64 r,.agg #[.string x.nm,.string x.ds,.int .i64 fl,.int .i64 lo,.int .i64 st,.slice sa sk so]] w fun e w'=>e=.returned (idB (uchI ps x.nm x.ds r))∧Below w.heap.size w w'):=HF.out x.nm x.ds
    clear HF
    generalize uchI ps x.nm x.ds r=G at *
    obtain ⟨⟨g1,g2⟩,g3⟩:=G
    simp only [idB] at HF2
    have HO2:Hid _:=HO.out x.nm x.ds
    have HU2:Hid _:=HU.out g1 g2
    have HS2:Hid _:=HS.out g1 g2
    generalize onI ps r x.nm x.ds=O at *
    simp only
    generalize unaI ps (g1,g2)=U at *
    generalize hasS ps g1 g2 1=S at *
    obtain ⟨⟨o1,o2⟩,o3⟩:=O
    obtain ⟨⟨u1,u2⟩,u3⟩:=U
    simp only at HO2 HU2 HS2
    clear h hi HI hD HO HU HS
    cases hS:hasI x.fl 10
    case true =>
      rw [hasI] at hS
      clear HF2 HO2 HU2 HS2
      go_enter Tryz.func76,Tryz.ntmps76
      go_wp2_with (first
        | (go_at_call 135;refine (HR.out _ (by repeat (first|exact Below.refl _ _|refine Below.setCell ?_ (by simp;try omega) _|refine Below.alloc ?_ (by simp;try omega) _|refine Below.drew ?_))).mono ?_;rintro e w1 ⟨⟨sa,sk,so,rfl⟩,hb⟩;have ad:w1.heap[W.heap.size]?=some (.cells #[.int .i64 c,.int .i64 i] 24 (0,0)):=(hb.block (W.heap.size) (by first|omega|(simp;try omega))).trans (hkeep (halloc1 _ _));(try clear aB a0 a1 af aL aN);have aB:Hid _:=ad;obtain ⟨a0,a1,af,aL⟩:=rw2 ad;have aN:¬ W.heap.size=w1.heap.size:=(by omega);clear ad;have zd:w1.heap[W.heap.size+1]?=some (.cells #[.int .i64 0,.int .i64 0] 24 (0,0)):=(hb.block (W.heap.size+1) (by first|omega|(simp;try omega))).trans (halloc2 _ _ (by simp));(try clear zB z0 z1 zf zL zN);have zB:Hid _:=zd;obtain ⟨z0,z1,zf,zL⟩:=rw2 zd;have zN:¬ W.heap.size+1=w1.heap.size:=(by omega);clear zd;have Bw1:Hid (Below W.heap.size W w1):=bstep (by repeat (first|exact Below.refl _ _|refine Below.setCell ?_ (by simp;try omega) _|refine Below.alloc ?_ (by simp;try omega) _|refine Below.drew ?_)) hb;clear hb HR))
      exact bodyPost_ret (v:=idE ((0,0),23)) (by simp [results,Tryz.results76,go_sem,idE, *]) rfl ⟨rfl,(by repeat (first|refine Below.setCell ?_ (by simp;try omega) _|refine Below.alloc ?_ (by have:=Bw1.out.size;simp;try omega) _|refine Below.drew ?_|exact Bw1.out))⟩
    case false =>
      rw [hasI] at hS
      cases g3
      case false =>
        clear HU2 HS2
        go_enter Tryz.func76,Tryz.ntmps76
        go_wp2_with (first
          | (go_at_call 135;refine (HR.out _ (by repeat (first|exact Below.refl _ _|refine Below.setCell ?_ (by simp;try omega) _|refine Below.alloc ?_ (by simp;try omega) _|refine Below.drew ?_))).mono ?_;rintro e w1 ⟨⟨sa,sk,so,rfl⟩,hb⟩;have ad:w1.heap[W.heap.size]?=some (.cells #[.int .i64 c,.int .i64 i] 24 (0,0)):=(hb.block (W.heap.size) (by first|omega|(simp;try omega))).trans (hkeep (halloc1 _ _));(try clear aB a0 a1 af aL aN);have aB:Hid _:=ad;obtain ⟨a0,a1,af,aL⟩:=rw2 ad;have aN:¬ W.heap.size=w1.heap.size:=(by omega);clear ad;have zd:w1.heap[W.heap.size+1]?=some (.cells #[.int .i64 0,.int .i64 0] 24 (0,0)):=(hb.block (W.heap.size+1) (by first|omega|(simp;try omega))).trans (halloc2 _ _ (by simp));(try clear zB z0 z1 zf zL zN);have zB:Hid _:=zd;obtain ⟨z0,z1,zf,zL⟩:=rw2 zd;have zN:¬ W.heap.size+1=w1.heap.size:=(by omega);clear zd;have Bw1:Hid (Below W.heap.size W w1):=bstep (by repeat (first|exact Below.refl _ _|refine Below.setCell ?_ (by simp;try omega) _|refine Below.alloc ?_ (by simp;try omega) _|refine Below.drew ?_)) hb;clear hb HR)
          | (go_at_call 136;refine (HF2.out _ _ _ _ _ _ _ (by repeat (first|refine Below.setCell ?_ (by simp;try omega) _|refine Below.alloc ?_ (by have:=Bw1.out.size;simp;try omega) _|refine Below.drew ?_|exact Bw1.out))).mono ?_;rintro e w2 ⟨rfl,hb⟩;have ad:w2.heap[W.heap.size]?=some (.cells #[.int .i64 c,.int .i64 i] 24 (0,0)):=(hb.block (W.heap.size) (by first|omega|(simp;try omega))).trans (hkeep aB.out);(try clear aB a0 a1 af aL aN);have aB:Hid _:=ad;obtain ⟨a0,a1,af,aL⟩:=rw2 ad;have aN:¬ W.heap.size=w2.heap.size:=(by omega);clear ad;have zd:w2.heap[W.heap.size+1]?=some (.cells #[.int .i64 0,.int .i64 0] 24 (0,0)):=(hb.block (W.heap.size+1) (by first|omega|(simp;try omega))).trans (hkeep zB.out);(try clear zB z0 z1 zf zL zN);have zB:Hid _:=zd;obtain ⟨z0,z1,zf,zL⟩:=rw2 zd;have zN:¬ W.heap.size+1=w2.heap.size:=(by omega);clear zd;have vd:w2.heap[w1.heap.size]?=some (.cells #[.string x.nm,.string x.ds,.int .i64 x.fl,.int .i64 x.lo,.int .i64 x.st,.slice sa sk so] 30 (0,0)):=(hb.block (w1.heap.size) (by first|omega|(simp;try omega))).trans (halloc1 _ _);(try clear vB v0 v1 v2 v3 v4 v5 vf vL vN);have vB:Hid _:=vd;obtain ⟨v0,v1,v2,v3,v4,v5,vf,vL⟩:=rw6 vd;have vN:¬ w1.heap.size=w2.heap.size:=(by omega);clear vd;have Bw2:Hid (Below W.heap.size W w2):=bstep (by repeat (first|refine Below.setCell ?_ (by simp;try omega) _|refine Below.alloc ?_ (by have:=Bw1.out.size;simp;try omega) _|refine Below.drew ?_|exact Bw1.out)) hb;clear hb HF2)
          | (go_at_call 78;refine (HO2.out _ (by repeat (first|refine Below.setCell ?_ (by simp;try omega) _|refine Below.alloc ?_ (by have:=Bw2.out.size;simp;try omega) _|refine Below.drew ?_|exact Bw2.out))).mono ?_;rintro e w3 ⟨rfl,hb⟩;have zd:w3.heap[W.heap.size+1]?=some (.cells #[.int .i64 0,.int .i64 0] 24 (0,0)):=(hb.block (W.heap.size+1) (by first|omega|(simp;try omega))).trans (hkeep zB.out);(try clear zB z0 z1 zf zL zN);have zB:Hid _:=zd;obtain ⟨z0,z1,zf,zL⟩:=rw2 zd;have zN:¬ W.heap.size+1=w3.heap.size:=(by omega);clear zd;have Bw3:Hid (Below W.heap.size W w3):=bstep (by repeat (first|refine Below.setCell ?_ (by simp;try omega) _|refine Below.alloc ?_ (by have:=Bw2.out.size;simp;try omega) _|refine Below.drew ?_|exact Bw2.out)) hb;clear hb HO2))
        exact bodyPost_ret (v:=idE ((o1,o2),o3)) (by simp [results,Tryz.results76,go_sem,idE, *]) rfl ⟨rfl,(by repeat (first|refine Below.setCell ?_ (by simp;try omega) _|refine Below.alloc ?_ (by have:=Bw3.out.size;simp;try omega) _|refine Below.drew ?_|exact Bw3.out))⟩
      case true =>
        clear HO2
        cases S
        case false =>
          clear HU2
          go_enter Tryz.func76,Tryz.ntmps76
          go_wp2_with (first
            | (go_at_call 135;refine (HR.out _ (by repeat (first|exact Below.refl _ _|refine Below.setCell ?_ (by simp;try omega) _|refine Below.alloc ?_ (by simp;try omega) _|refine Below.drew ?_))).mono ?_;rintro e w1 ⟨⟨sa,sk,so,rfl⟩,hb⟩;have ad:w1.heap[W.heap.size]?=some (.cells #[.int .i64 c,.int .i64 i] 24 (0,0)):=(hb.block (W.heap.size) (by first|omega|(simp;try omega))).trans (hkeep (halloc1 _ _));(try clear aB a0 a1 af aL aN);have aB:Hid _:=ad;obtain ⟨a0,a1,af,aL⟩:=rw2 ad;have aN:¬ W.heap.size=w1.heap.size:=(by omega);clear ad;have zd:w1.heap[W.heap.size+1]?=some (.cells #[.int .i64 0,.int .i64 0] 24 (0,0)):=(hb.block (W.heap.size+1) (by first|omega|(simp;try omega))).trans (halloc2 _ _ (by simp));(try clear zB z0 z1 zf zL zN);have zB:Hid _:=zd;obtain ⟨z0,z1,zf,zL⟩:=rw2 zd;have zN:¬ W.heap.size+1=w1.heap.size:=(by omega);clear zd;have Bw1:Hid (Below W.heap.size W w1):=bstep (by repeat (first|exact Below.refl _ _|refine Below.setCell ?_ (by simp;try omega) _|refine Below.alloc ?_ (by simp;try omega) _|refine Below.drew ?_)) hb;clear hb HR)
            | (go_at_call 136;refine (HF2.out _ _ _ _ _ _ _ (by repeat (first|refine Below.setCell ?_ (by simp;try omega) _|refine Below.alloc ?_ (by have:=Bw1.out.size;simp;try omega) _|refine Below.drew ?_|exact Bw1.out))).mono ?_;rintro e w2 ⟨rfl,hb⟩;have ad:w2.heap[W.heap.size]?=some (.cells #[.int .i64 c,.int .i64 i] 24 (0,0)):=(hb.block (W.heap.size) (by first|omega|(simp;try omega))).trans (hkeep aB.out);(try clear aB a0 a1 af aL aN);have aB:Hid _:=ad;obtain ⟨a0,a1,af,aL⟩:=rw2 ad;have aN:¬ W.heap.size=w2.heap.size:=(by omega);clear ad;have zd:w2.heap[W.heap.size+1]?=some (.cells #[.int .i64 0,.int .i64 0] 24 (0,0)):=(hb.block (W.heap.size+1) (by first|omega|(simp;try omega))).trans (hkeep zB.out);(try clear zB z0 z1 zf zL zN);have zB:Hid _:=zd;obtain ⟨z0,z1,zf,zL⟩:=rw2 zd;have zN:¬ W.heap.size+1=w2.heap.size:=(by omega);clear zd;have vd:w2.heap[w1.heap.size]?=some (.cells #[.string x.nm,.string x.ds,.int .i64 x.fl,.int .i64 x.lo,.int .i64 x.st,.slice sa sk so] 30 (0,0)):=(hb.block (w1.heap.size) (by first|omega|(simp;try omega))).trans (halloc1 _ _);(try clear vB v0 v1 v2 v3 v4 v5 vf vL vN);have vB:Hid _:=vd;obtain ⟨v0,v1,v2,v3,v4,v5,vf,vL⟩:=rw6 vd;have vN:¬ w1.heap.size=w2.heap.size:=(by omega);clear vd;have Bw2:Hid (Below W.heap.size W w2):=bstep (by repeat (first|refine Below.setCell ?_ (by simp;try omega) _|refine Below.alloc ?_ (by have:=Bw1.out.size;simp;try omega) _|refine Below.drew ?_|exact Bw1.out)) hb;clear hb HF2)
            | (go_at_call 137;refine (HS2.out _ (by repeat (first|refine Below.setCell ?_ (by simp;try omega) _|refine Below.alloc ?_ (by have:=Bw2.out.size;simp;try omega) _|refine Below.drew ?_|exact Bw2.out))).mono ?_;rintro e w3 ⟨rfl,hb⟩;have zd:w3.heap[W.heap.size+1]?=some (.cells #[.int .i64 0,.int .i64 0] 24 (0,0)):=(hb.block (W.heap.size+1) (by first|omega|(simp;try omega))).trans (hkeep zB.out);(try clear zB z0 z1 zf zL zN);have zB:Hid _:=zd;obtain ⟨z0,z1,zf,zL⟩:=rw2 zd;have zN:¬ W.heap.size+1=w3.heap.size:=(by omega);clear zd;have Bw3:Hid (Below W.heap.size W w3):=bstep (by repeat (first|refine Below.setCell ?_ (by simp;try omega) _|refine Below.alloc ?_ (by have:=Bw2.out.size;simp;try omega) _|refine Below.drew ?_|exact Bw2.out)) hb;clear hb HS2))
          exact bodyPost_ret (v:=idE ((0,0),22)) (by simp [results,Tryz.results76,go_sem,idE, *]) rfl ⟨rfl,(by repeat (first|refine Below.setCell ?_ (by simp;try omega) _|refine Below.alloc ?_ (by have:=Bw3.out.size;simp;try omega) _|refine Below.drew ?_|exact Bw3.out))⟩
        case true =>
          go_enter Tryz.func76,Tryz.ntmps76
          go_wp2_with (first
            | (go_at_call 135;refine (HR.out _ (by repeat (first|exact Below.refl _ _|refine Below.setCell ?_ (by simp;try omega) _|refine Below.alloc ?_ (by simp;try omega) _|refine Below.drew ?_))).mono ?_;rintro e w1 ⟨⟨sa,sk,so,rfl⟩,hb⟩;have ad:w1.heap[W.heap.size]?=some (.cells #[.int .i64 c,.int .i64 i] 24 (0,0)):=(hb.block (W.heap.size) (by first|omega|(simp;try omega))).trans (hkeep (halloc1 _ _));(try clear aB a0 a1 af aL aN);have aB:Hid _:=ad;obtain ⟨a0,a1,af,aL⟩:=rw2 ad;have aN:¬ W.heap.size=w1.heap.size:=(by omega);clear ad;have zd:w1.heap[W.heap.size+1]?=some (.cells #[.int .i64 0,.int .i64 0] 24 (0,0)):=(hb.block (W.heap.size+1) (by first|omega|(simp;try omega))).trans (halloc2 _ _ (by simp));(try clear zB z0 z1 zf zL zN);have zB:Hid _:=zd;obtain ⟨z0,z1,zf,zL⟩:=rw2 zd;have zN:¬ W.heap.size+1=w1.heap.size:=(by omega);clear zd;have Bw1:Hid (Below W.heap.size W w1):=bstep (by repeat (first|exact Below.refl _ _|refine Below.setCell ?_ (by simp;try omega) _|refine Below.alloc ?_ (by simp;try omega) _|refine Below.drew ?_)) hb;clear hb HR)
            | (go_at_call 136;refine (HF2.out _ _ _ _ _ _ _ (by repeat (first|refine Below.setCell ?_ (by simp;try omega) _|refine Below.alloc ?_ (by have:=Bw1.out.size;simp;try omega) _|refine Below.drew ?_|exact Bw1.out))).mono ?_;rintro e w2 ⟨rfl,hb⟩;have ad:w2.heap[W.heap.size]?=some (.cells #[.int .i64 c,.int .i64 i] 24 (0,0)):=(hb.block (W.heap.size) (by first|omega|(simp;try omega))).trans (hkeep aB.out);(try clear aB a0 a1 af aL aN);have aB:Hid _:=ad;obtain ⟨a0,a1,af,aL⟩:=rw2 ad;have aN:¬ W.heap.size=w2.heap.size:=(by omega);clear ad;have zd:w2.heap[W.heap.size+1]?=some (.cells #[.int .i64 0,.int .i64 0] 24 (0,0)):=(hb.block (W.heap.size+1) (by first|omega|(simp;try omega))).trans (hkeep zB.out);(try clear zB z0 z1 zf zL zN);have zB:Hid _:=zd;obtain ⟨z0,z1,zf,zL⟩:=rw2 zd;have zN:¬ W.heap.size+1=w2.heap.size:=(by omega);clear zd;have vd:w2.heap[w1.heap.size]?=some (.cells #[.string x.nm,.string x.ds,.int .i64 x.fl,.int .i64 x.lo,.int .i64 x.st,.slice sa sk so] 30 (0,0)):=(hb.block (w1.heap.size) (by first|omega|(simp;try omega))).trans (halloc1 _ _);(try clear vB v0 v1 v2 v3 v4 v5 vf vL vN);have vB:Hid _:=vd;obtain ⟨v0,v1,v2,v3,v4,v5,vf,vL⟩:=rw6 vd;have vN:¬ w1.heap.size=w2.heap.size:=(by omega);clear vd;have Bw2:Hid (Below W.heap.size W w2):=bstep (by repeat (first|refine Below.setCell ?_ (by simp;try omega) _|refine Below.alloc ?_ (by have:=Bw1.out.size;simp;try omega) _|refine Below.drew ?_|exact Bw1.out)) hb;clear hb HF2)
            | (go_at_call 137;refine (HS2.out _ (by repeat (first|refine Below.setCell ?_ (by simp;try omega) _|refine Below.alloc ?_ (by have:=Bw2.out.size;simp;try omega) _|refine Below.drew ?_|exact Bw2.out))).mono ?_;rintro e w3 ⟨rfl,hb⟩;have zd:w3.heap[W.heap.size+1]?=some (.cells #[.int .i64 0,.int .i64 0] 24 (0,0)):=(hb.block (W.heap.size+1) (by first|omega|(simp;try omega))).trans (hkeep zB.out);(try clear zB z0 z1 zf zL zN);have zB:Hid _:=zd;obtain ⟨z0,z1,zf,zL⟩:=rw2 zd;have zN:¬ W.heap.size+1=w3.heap.size:=(by omega);clear zd;have yd:w3.heap[w2.heap.size]?=some (.cells #[.int .i64 g1,.int .i64 g2] 24 (0,0)):=(hb.block (w2.heap.size) (by first|omega|(simp;try omega))).trans (halloc1 _ _);(try clear yB y0 y1 yf yL yN);have yB:Hid _:=yd;obtain ⟨y0,y1,yf,yL⟩:=rw2 yd;have yN:¬ w2.heap.size=w3.heap.size:=(by omega);clear yd;have Bw3:Hid (Below W.heap.size W w3):=bstep (by repeat (first|refine Below.setCell ?_ (by simp;try omega) _|refine Below.alloc ?_ (by have:=Bw2.out.size;simp;try omega) _|refine Below.drew ?_|exact Bw2.out)) hb;clear hb HS2)
            | (go_at_call 138;refine (HU2.out _ Bw3.out).mono ?_;rintro e w4 ⟨rfl,hb⟩;have zd:w4.heap[W.heap.size+1]?=some (.cells #[.int .i64 0,.int .i64 0] 24 (0,0)):=(hb.block (W.heap.size+1) (by first|omega|(simp;try omega))).trans (zB.out);(try clear zB z0 z1 zf zL zN);have zB:Hid _:=zd;obtain ⟨z0,z1,zf,zL⟩:=rw2 zd;have zN:¬ W.heap.size+1=w4.heap.size:=(by omega);clear zd;have Bw4:Hid (Below W.heap.size W w4):=bstep Bw3.out hb;clear hb HU2))
          exact bodyPost_ret (v:=idE ((u1,u2),u3)) (by simp [results,Tryz.results76,go_sem,idE, *]) rfl ⟨rfl,(by repeat (first|refine Below.setCell ?_ (by simp;try omega) _|refine Below.alloc ?_ (by have:=Bw4.out.size;simp;try omega) _|refine Below.drew ?_|exact Bw4.out))⟩
section
variable {ps:List Plc} {p:Plc}
end
variable {ps:List Plc} {p:Plc}
def topB (m:HM):Bool:=((bits .and .i64 m.fl 1 != 0)&&(bits .and .i64 m.fl 8 == 0))&&!(m.nm.toList == [60,105,110,105,116,62])
def iroB (m:HM):Bool:=bits .and .i64 m.fl 10 == 0
def rtK (p:HM→Bool) (k:Int):List HM→Nat→List (Int×Int)
  | [],_=>[]
  | m::r,i=>(if p m then [(k,(i:Int))] else [])++rtK p k r (i+1)
theorem rtK_snoc (p:HM→Bool) (k:Int):∀ (l:List HM) (m:HM) (i:Nat),rtK p k (l++[m]) i=rtK p k l i++(if p m then [(k,((i+l.length:Nat):Int))] else [])
  | [],m,i=>by simp [rtK]
  | x::r,m,i=>by
    rw [List.cons_append,rtK,rtK,rtK_snoc p k r m (i+1),List.append_assoc,List.length_cons,show i+1+r.length=i+(r.length+1) by omega]
theorem rtK_len (p:HM→Bool) (k:Int):∀ (l:List HM) (i:Nat),(rtK p k l i).length≤l.length
  | [],i=>Nat.le_refl _
  | x::r,i=>by
    have:=rtK_len p k r (i+1)
    rw [rtK,List.length_append,List.length_cons]
    split <;> simp <;> omega
theorem rtK_mem (p:HM→Bool) (k:Int):∀ (l:List HM) (i:Nat) (x:Int×Int),x∈rtK p k l i↔∃ (j:Nat) (m:HM),l[j]?=some m∧p m=true∧x=(k,((i+j:Nat):Int))
  | [],i,x=>by simp [rtK]
  | y::r,i,x=>by
    rw [rtK,List.mem_append,rtK_mem p k r (i+1) x]
    constructor
    · rintro (h|⟨j,m,h1,h2,h3⟩)
      · split at h
        · rename_i hp
          rw [List.mem_singleton] at h
          exact ⟨0,y,rfl,hp,by rw [Nat.add_zero];exact h⟩
        · cases h
      · exact ⟨j+1,m,by rw [List.getElem?_cons_succ];exact h1,h2,by rw [h3,show i+(j+1)=i+1+j by omega]⟩
    · rintro ⟨j,m,h1,h2,h3⟩
      cases j with
      | zero =>
        rw [List.getElem?_cons_zero] at h1
        cases h1
        exact .inl (by rw [if_pos h2,List.mem_singleton,h3,Nat.add_zero])
      | succ j =>
        rw [List.getElem?_cons_succ] at h1
        exact .inr ⟨j,m,h1,h2,by rw [h3,show i+(j+1)=i+1+j by omega]⟩
def mtK (ps:List Plc) (k:Nat):List HM:=match ps[k]? with
  | some q=>q.c.ms
  | none=>[]
def rtsP (ps:List Plc) (q:Plc):List (Int×Int):=rtK topB 0 (mtK ps 0) 0++q.cl.flatMap fun k:Nat=>rtK iroB (k:Int) (mtK ps k) 0
def itE (ps:List Plc) (x:Int):Int:=match plcI ps x with
  | none=>3
  | some _=>if ifcI ps x then 23 else 0
def rtsR (ps:List Plc) (x:Int):List (Int×Int):=match plcI ps x with
  | none=>[]
  | some q=>if ifcI ps x then [] else rtsP ps q
theorem it_cases (ps:List Plc) (x:Int):(itE ps x=0∧∃ (k:Nat) (q:Plc),x=(k:Int)∧ps[k]?=some q∧ifcI ps x=false∧rtsR ps x=rtsP ps q)∨(rtsR ps x=[]∧(itE ps x=3∨itE ps x=23)):=by
  rcases plcI_cases ps x with ⟨h1,_⟩|⟨k,q,rfl,h2,h1⟩
  · exact .inr ⟨by rw [rtsR,h1],.inl (by rw [itE,h1])⟩
  · cases hf:ifcI ps (k:Int) with
    | true=>exact .inr ⟨by rw [rtsR,h1];simp [hf],.inr (by rw [itE,h1];simp [hf])⟩
    | false=>exact .inl ⟨by rw [itE,h1];simp [hf],k,q,rfl,h2,rfl,by rw [rtsR,h1];simp [hf]⟩
theorem rts_len {ps:List Plc} (hW:WI ps) {k:Nat} {q:Plc} (hq:ps[k]?=some q):(rtsP ps q).length≤301000000:=by
  have hm:∀ j,(mtK ps j).length≤1000000:=fun j=>by
    rw [mtK]
    split
    · rename_i p hp;exact (hW.pb p (List.mem_of_getElem? hp)).ms
    · exact Nat.zero_le _
  have hcl:q.cl.length≤300:=by
    have h1:clO (ps.map nd) k=q.cl:=by rw [clO,List.getElem?_map,hq];rfl
    have h2:=hW.wo.cl k (nd q) (by rw [List.getElem?_map,hq];rfl)
    have h3:q.cl.length≤ps.length:=by
      have:=List.Nodup.length_le_of_subset h2.1 (l₂:=List.range ps.length) (fun i hi=>List.mem_range.2 (by
        have h5:=(h2.2 i hi).1
        have h6:=(List.getElem?_eq_some_iff.1 hq).1
        omega))
      rw [List.length_range] at this
      exact this
    have:=hW.hi
    omega
  have hf:∀ l:List Nat,(l.flatMap fun k:Nat=>rtK iroB (k:Int) (mtK ps k) 0).length≤l.length * 1000000:=by
    intro l
    induction l with
    | nil=>exact Nat.zero_le _
    | cons x r ih =>
      rw [List.flatMap_cons,List.length_append,List.length_cons]
      have h1:=rtK_len iroB (x:Int) (mtK ps x) 0
      have h2:=hm x
      omega
  rw [rtsP,List.length_append]
  have h1:=rtK_len topB 0 (mtK ps 0) 0
  have h2:=hm 0
  have h3:=hf q.cl
  omega
theorem rts_mem {ps:List Plc} {q:Plc} {x:Int×Int} (h:x∈rtsP ps q):∃ (j i:Nat) (p:Plc) (m:HM),x=((j:Int),(i:Int))∧ps[j]?=some p∧p.c.ms[i]?=some m∧((j=0∧topB m=true)∨(j∈q.cl∧iroB m=true)):=by
  have hk:∀ (P:HM→Bool) (j:Nat),x∈rtK P (j:Int) (mtK ps j) 0→∃ (i:Nat) (p:Plc) (m:HM),x=((j:Int),(i:Int))∧ps[j]?=some p∧p.c.ms[i]?=some m∧P m=true:=by
    intro P j hx
    obtain ⟨i,m,h1,h2,h3⟩:=(rtK_mem _ _ _ _ _).1 hx
    rw [mtK] at h1
    cases hp:ps[j]? with
    | none=>rw [hp] at h1;simp at h1
    | some p =>
      rw [hp] at h1
      exact ⟨i,p,m,by rw [h3,Nat.zero_add],rfl,h1,h2⟩
  rw [rtsP,List.mem_append] at h
  rcases h with h|h
  · obtain ⟨i,p,m,h1,h2,h3,h4⟩:=hk topB 0 h
    exact ⟨0,i,p,m,h1,h2,h3,.inl ⟨rfl,h4⟩⟩
  · obtain ⟨j,hj,hx⟩:=List.mem_flatMap.1 h
    obtain ⟨i,p,m,h1,h2,h3,h4⟩:=hk iroB j hx
    exact ⟨j,i,p,m,h1,h2,h3,.inr ⟨hj,h4⟩⟩
structure Ent where
  r:Int×Int
  m:Int×Int
  e:Int
  v:Int×Int
  f:Int
def entP (ps:List Plc) (id:Int) (x:Int×Int):Ent:=⟨x,(itfI ps id x).1,(itfI ps id x).2,(virI ps id x).1,(virI ps id x).2⟩
def Ent.cells (x:Ent):List Value:=[.int .i64 x.r.1,.int .i64 x.r.2,.int .i64 x.m.1,.int .i64 x.m.2,.int .i64 x.e,.int .i64 x.v.1,.int .i64 x.v.2,.int .i64 x.f]
def Ent.agg (x:Ent):Value:=.agg #[.int .i64 x.r.1,.int .i64 x.r.2,.int .i64 x.m.1,.int .i64 x.m.2,.int .i64 x.e,.int .i64 x.v.1,.int .i64 x.v.2,.int .i64 x.f]
def flat8 (l:List Ent):List Value:=l.flatMap Ent.cells
theorem flat8_app (l r:List Ent):flat8 (l++r)=flat8 l++flat8 r:=List.flatMap_append
theorem flat8_one (l:List Ent):∀ u∈flat8 l,u.oneCell'=true:=by
  intro u hu
  rw [flat8,List.mem_flatMap] at hu
  obtain ⟨x,_,hx⟩:=hu
  simp only [Ent.cells,List.mem_cons,List.not_mem_nil,or_false] at hx
  rcases hx with rfl|rfl|rfl|rfl|rfl|rfl|rfl|rfl <;> rfl
theorem flat8_at:∀ (l:List Ent) (i:Nat) (x:Ent) (j:Nat),l[i]?=some x→j<8→(flat8 l)[i * 8+j]?=x.cells[j]?
  | [],_,_,_,h,_=>by simp at h
  | y::r,0,x,j,h,hj=>by
    simp only [List.getElem?_cons_zero,Option.some.injEq] at h
    subst h
    rw [flat8,List.flatMap_cons,Nat.zero_mul,Nat.zero_add,List.getElem?_append_left (by simp [Ent.cells];omega)]
  | y::r,i+1,x,j,h,hj=>by
    rw [List.getElem?_cons_succ] at h
    rw [flat8,List.flatMap_cons,List.getElem?_append_right (by simp [Ent.cells];omega),show (i+1) * 8+j - (y.cells).length=i * 8+j by simp [Ent.cells];omega]
    exact flat8_at r i x j h hj
def itT (ps:List Plc) (x:Int):List Ent:=(rtsR ps x).map (entP ps x)
theorem rfr_yes {ps:List Plc} {k:Nat} {q:Plc} (hq:ps[k]?=some q) (hf:ifcI ps (k:Int)=false) {m:Int×Int} {x:HM} (hm:methI ps m.1 m.2=some x):rfrI ps (k:Int) m=.ok x:=by
  have hc:crdI ps (k:Int) m=.ok x:=by rw [crdI,plcI_nat,hq];simp only [hm]
  rw [rfrI,hc]
  simp only [hf]
  rfl
theorem rts_meth {ps:List Plc} {q:Plc} {x:Int×Int} (h:x∈rtsP ps q):∃ m,methI ps x.1 x.2=some m:=by
  obtain ⟨j,i,p,m,rfl,hp,hm,_⟩:=rts_mem h
  refine ⟨m,?_⟩
  rw [methI,plcI_nat,hp]
  show methP p (i:Int)=some m
  rw [methP,if_pos (by omega),Int.toNat_natCast,hm]
end Go.Proofs.YthfifobokpfpkaaGreat
