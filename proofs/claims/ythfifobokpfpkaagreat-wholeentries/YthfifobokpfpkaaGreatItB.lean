import Derived.Test.YthfifobokpfpkaaGreatOvF
import Derived.Test.YthfifobokpfpkaaGreatOvH
import Derived.Test.YthfifobokpfpkaaGreatOvP
import Derived.Test.YthfifobokpfpkaaGreatAcE
import Derived.Test.YthfifobokpfpkaaGreatTypesParse
import Derived.Test.YthfifobokpfpkaaGreatCurB
import Derived.Test.YthfifobokpfpkaaGreatSoD
import Derived.Test.YthfifobokpfpkaaGreatOwnRefs
import Derived.Test.YthfifobokpfpkaaGreatOwnL
import Derived.Test.YthfifobokpfpkaaGreatHrR
import Derived.Test.YthfifobokpfpkaaGreatMxC
import Derived.Laws.IdiomStrings
import Derived.Deep.LoopGhost
import Derived.Deep.RegionHeld3
set_option maxRecDepth 100000
namespace Go.Proofs.YthfifobokpfpkaaGreat
open Go.RowKit Go.Maps
def onI (ps:List Plc) (c:Int) (nm ds:ByteArray):(Int×Int)×Int:=match plcI ps c with
  | some q=>oneV ps (candL ps nm ds q.cl)
  | none=>((0,0),3)
theorem one_c {b:Nat} {ps:List Plc} {W:World} (h:WAt b ps W) (hi:WI ps) (c:Int) (nm ds:ByteArray):Calls Tryz.prog 78 #[.pointer (some ⟨b,0,none⟩),.int .i64 c,.string nm,.string ds] W fun e w'=>e=.returned (idE (onI ps c nm ds))∧Below W.heap.size W w':=by
  rcases plcI_cases ps c with ⟨h1,_⟩|⟨k,q,rfl,h2,h1⟩
  · have e:onI ps c nm ds=((0,0),3):=by rw [onI,h1]
    rw [e];exact one_no h c h1 nm ds
  · have e:onI ps (k:Int) nm ds=oneV ps (candL ps nm ds q.cl):=by rw [onI,h1]
    rw [e];exact one_yes h hi k q h2 nm ds
theorem rfr_err {ps:List Plc} {r:Int} {m:Int×Int} {x:Int} (h:rfrI ps r m=.error x):x=2∨x=3:=by
  rw [rfrI] at h
  split at h
  · split at h
    · cases h;exact .inl rfl
    · cases h
  · rename_i e he
    cases h
    rw [crdI] at he
    split at he
    · cases he
    · cases he;exact .inr rfl
def virI (ps:List Plc) (r:Int) (m:Int×Int):(Int×Int)×Int:=match rfrI ps r m with
  | .error e=>((0,0),e)
  | .ok x=>if stB x.fl then ((0,0),23) else if (firI ps r m).2=0 then unaI ps (firI ps r m).1 else onI ps r x.nm x.ds
def itfI (ps:List Plc) (r:Int) (m:Int×Int):(Int×Int)×Int:=match rfrI ps r m with
  | .error e=>((0,0),e)
  | .ok x=>if hasI x.fl 10 then ((0,0),23) else if (uchI ps x.nm x.ds r).2 then (if hasS ps (uchI ps x.nm x.ds r).1.1 (uchI ps x.nm x.ds r).1.2 1 then unaI ps (uchI ps x.nm x.ds r).1 else ((0,0),22)) else onI ps r x.nm x.ds
set_option maxHeartbeats 2000000 in
theorem vir_c {b:Nat} {ps:List Plc} {W:World} (h:WAt b ps W) (hi:WI ps) (r c i:Int):Calls Tryz.prog 77 #[.pointer (some ⟨b,0,none⟩),.int .i64 r,.agg #[.int .i64 c,.int .i64 i]] W fun e w'=>e=.returned (idE (virI ps r (c,i)))∧Below W.heap.size W w':=by
  have HI:∀ w,Below W.heap.size W w→WAt b ps w:=fun w hb=>h.below hb
  have HR:Hid (∀ w,Below W.heap.size W w→Calls Tryz.prog 135 #[.pointer (some ⟨b,0,none⟩),.int .i64 r,.agg #[.int .i64 c,.int .i64 i]] w fun e w'=>mthE (rfrI ps r (c,i)) e∧Below w.heap.size w w'):=fun w hb=>rfr_c (HI w hb) hi.pb r c i
  have HO:Hid (∀ nm ds w,Below W.heap.size W w→Calls Tryz.prog 78 #[.pointer (some ⟨b,0,none⟩),.int .i64 r,.string nm,.string ds] w fun e w'=>e=.returned (.tuple #[.agg #[.int .i64 (onI ps r nm ds).1.1,.int .i64 (onI ps r nm ds).1.2],.int .i64 (onI ps r nm ds).2])∧Below w.heap.size w w'):=fun nm ds w hb=>one_c (HI w hb) hi r nm ds
  have HU:Hid (∀ c i w,Below W.heap.size W w→Calls Tryz.prog 138 #[.pointer (some ⟨b,0,none⟩),.agg #[.int .i64 c,.int .i64 i]] w fun e w'=>e=.returned (.tuple #[.agg #[.int .i64 (unaI ps (c,i)).1.1,.int .i64 (unaI ps (c,i)).1.2],.int .i64 (unaI ps (c,i)).2])∧Below w.heap.size w w'):=fun c i w hb=>una_c (HI w hb) hi.pb c i
  have HF:Hid (∀ w,Below W.heap.size W w→Calls Tryz.prog 22 #[.pointer (some ⟨b,0,none⟩),.int .i64 r,.agg #[.int .i64 c,.int .i64 i]] w fun e w'=>e=.returned (idE (firI ps r (c,i)))∧Below w.heap.size w w'):=fun w hb=>first_c (HI w hb) hi r c i
  unfold virI
  cases hD:rfrI ps r (c,i) with
  | error x =>
    have hx:x≠0:=by rcases rfr_err hD with rfl|rfl <;> decide
    rw [hD] at HR
    simp only [mthE] at HR
    clear h hi HI hD HO HU HF
    go_enter Tryz.func77,Tryz.ntmps77
    go_wp2_with (first
      | (go_at_call 135;refine (HR.out _ (by repeat (first|exact Below.refl _ _|refine Below.setCell ?_ (by simp;try omega) _|refine Below.alloc ?_ (by simp;try omega) _|refine Below.drew ?_))).mono ?_;rintro e w1 ⟨rfl,hb⟩;have ad:w1.heap[W.heap.size]?=some (.cells #[.int .i64 c,.int .i64 i] 24 (0,0)):=(hb.block (W.heap.size) (by first|omega|(simp;try omega))).trans (hkeep (halloc1 _ _));(try clear aB a0 a1 af aL aN);have aB:Hid _:=ad;obtain ⟨a0,a1,af,aL⟩:=rw2 ad;have aN:¬ W.heap.size=w1.heap.size:=(by omega);clear ad;have zd:w1.heap[W.heap.size+1]?=some (.cells #[.int .i64 0,.int .i64 0] 24 (0,0)):=(hb.block (W.heap.size+1) (by first|omega|(simp;try omega))).trans (halloc2 _ _ (by simp));(try clear zB z0 z1 zf zL zN);have zB:Hid _:=zd;obtain ⟨z0,z1,zf,zL⟩:=rw2 zd;have zN:¬ W.heap.size+1=w1.heap.size:=(by omega);clear zd;have Bw1:Hid (Below W.heap.size W w1):=bstep (by repeat (first|exact Below.refl _ _|refine Below.setCell ?_ (by simp;try omega) _|refine Below.alloc ?_ (by simp;try omega) _|refine Below.drew ?_)) hb;clear hb HR))
    exact bodyPost_ret (v:=idE ((0,0),x)) (by simp [results,Tryz.results77,go_sem,idE, *]) rfl ⟨rfl,(by repeat (first|refine Below.setCell ?_ (by simp;try omega) _|refine Below.alloc ?_ (by have:=Bw1.out.size;simp;try omega) _|refine Below.drew ?_|exact Bw1.out))⟩
  | ok x =>
    rw [hD] at HR
    simp only [mthE] at HR
    simp only
    generalize firI ps r (c,i)=G at *
    obtain ⟨⟨g1,g2⟩,g3⟩:=G
    simp only [idE] at HF
    have HO2:Hid _:=HO.out x.nm x.ds
    have HU2:Hid _:=HU.out g1 g2
    generalize onI ps r x.nm x.ds=O at *
    simp only
    generalize unaI ps (g1,g2)=U at *
    obtain ⟨⟨o1,o2⟩,o3⟩:=O
    obtain ⟨⟨u1,u2⟩,u3⟩:=U
    simp only at HO2 HU2
    clear h hi HI hD HO HU
    cases hS:stB x.fl
    case true =>
      rw [stB] at hS
      clear HF HO2 HU2
      go_enter Tryz.func77,Tryz.ntmps77
      go_wp2_with (first
        | (go_at_call 135;refine (HR.out _ (by repeat (first|exact Below.refl _ _|refine Below.setCell ?_ (by simp;try omega) _|refine Below.alloc ?_ (by simp;try omega) _|refine Below.drew ?_))).mono ?_;rintro e w1 ⟨⟨sa,sk,so,rfl⟩,hb⟩;have ad:w1.heap[W.heap.size]?=some (.cells #[.int .i64 c,.int .i64 i] 24 (0,0)):=(hb.block (W.heap.size) (by first|omega|(simp;try omega))).trans (hkeep (halloc1 _ _));(try clear aB a0 a1 af aL aN);have aB:Hid _:=ad;obtain ⟨a0,a1,af,aL⟩:=rw2 ad;have aN:¬ W.heap.size=w1.heap.size:=(by omega);clear ad;have zd:w1.heap[W.heap.size+1]?=some (.cells #[.int .i64 0,.int .i64 0] 24 (0,0)):=(hb.block (W.heap.size+1) (by first|omega|(simp;try omega))).trans (halloc2 _ _ (by simp));(try clear zB z0 z1 zf zL zN);have zB:Hid _:=zd;obtain ⟨z0,z1,zf,zL⟩:=rw2 zd;have zN:¬ W.heap.size+1=w1.heap.size:=(by omega);clear zd;have Bw1:Hid (Below W.heap.size W w1):=bstep (by repeat (first|exact Below.refl _ _|refine Below.setCell ?_ (by simp;try omega) _|refine Below.alloc ?_ (by simp;try omega) _|refine Below.drew ?_)) hb;clear hb HR))
      exact bodyPost_ret (v:=idE ((0,0),23)) (by simp [results,Tryz.results77,go_sem,idE, *]) rfl ⟨rfl,(by repeat (first|refine Below.setCell ?_ (by simp;try omega) _|refine Below.alloc ?_ (by have:=Bw1.out.size;simp;try omega) _|refine Below.drew ?_|exact Bw1.out))⟩
    case false =>
      rw [stB] at hS
      by_cases hg:g3=0
      · subst hg
        clear HO2
        go_enter Tryz.func77,Tryz.ntmps77
        go_wp2_with (first
          | (go_at_call 135;refine (HR.out _ (by repeat (first|exact Below.refl _ _|refine Below.setCell ?_ (by simp;try omega) _|refine Below.alloc ?_ (by simp;try omega) _|refine Below.drew ?_))).mono ?_;rintro e w1 ⟨⟨sa,sk,so,rfl⟩,hb⟩;have ad:w1.heap[W.heap.size]?=some (.cells #[.int .i64 c,.int .i64 i] 24 (0,0)):=(hb.block (W.heap.size) (by first|omega|(simp;try omega))).trans (hkeep (halloc1 _ _));(try clear aB a0 a1 af aL aN);have aB:Hid _:=ad;obtain ⟨a0,a1,af,aL⟩:=rw2 ad;have aN:¬ W.heap.size=w1.heap.size:=(by omega);clear ad;have zd:w1.heap[W.heap.size+1]?=some (.cells #[.int .i64 0,.int .i64 0] 24 (0,0)):=(hb.block (W.heap.size+1) (by first|omega|(simp;try omega))).trans (halloc2 _ _ (by simp));(try clear zB z0 z1 zf zL zN);have zB:Hid _:=zd;obtain ⟨z0,z1,zf,zL⟩:=rw2 zd;have zN:¬ W.heap.size+1=w1.heap.size:=(by omega);clear zd;have Bw1:Hid (Below W.heap.size W w1):=bstep (by repeat (first|exact Below.refl _ _|refine Below.setCell ?_ (by simp;try omega) _|refine Below.alloc ?_ (by simp;try omega) _|refine Below.drew ?_)) hb;clear hb HR)
          | (go_at_call 22;refine (HF.out _ (by repeat (first|refine Below.setCell ?_ (by simp;try omega) _|refine Below.alloc ?_ (by have:=Bw1.out.size;simp;try omega) _|refine Below.drew ?_|exact Bw1.out))).mono ?_;rintro e w2 ⟨rfl,hb⟩;have ad:w2.heap[W.heap.size]?=some (.cells #[.int .i64 c,.int .i64 i] 24 (0,0)):=(hb.block (W.heap.size) (by first|omega|(simp;try omega))).trans (hkeep aB.out);(try clear aB a0 a1 af aL aN);have aB:Hid _:=ad;obtain ⟨a0,a1,af,aL⟩:=rw2 ad;have aN:¬ W.heap.size=w2.heap.size:=(by omega);clear ad;have zd:w2.heap[W.heap.size+1]?=some (.cells #[.int .i64 0,.int .i64 0] 24 (0,0)):=(hb.block (W.heap.size+1) (by first|omega|(simp;try omega))).trans (hkeep zB.out);(try clear zB z0 z1 zf zL zN);have zB:Hid _:=zd;obtain ⟨z0,z1,zf,zL⟩:=rw2 zd;have zN:¬ W.heap.size+1=w2.heap.size:=(by omega);clear zd;have vd:w2.heap[w1.heap.size]?=some (.cells #[.string x.nm,.string x.ds,.int .i64 x.fl,.int .i64 x.lo,.int .i64 x.st,.slice sa sk so] 30 (0,0)):=(hb.block (w1.heap.size) (by first|omega|(simp;try omega))).trans (halloc1 _ _);(try clear vB v0 v1 v2 v3 v4 v5 vf vL vN);have vB:Hid _:=vd;obtain ⟨v0,v1,v2,v3,v4,v5,vf,vL⟩:=rw6 vd;have vN:¬ w1.heap.size=w2.heap.size:=(by omega);clear vd;have Bw2:Hid (Below W.heap.size W w2):=bstep (by repeat (first|refine Below.setCell ?_ (by simp;try omega) _|refine Below.alloc ?_ (by have:=Bw1.out.size;simp;try omega) _|refine Below.drew ?_|exact Bw1.out)) hb;clear hb HF)
          | (go_at_call 138;refine (HU2.out _ (by repeat (first|refine Below.setCell ?_ (by simp;try omega) _|refine Below.alloc ?_ (by have:=Bw2.out.size;simp;try omega) _|refine Below.drew ?_|exact Bw2.out))).mono ?_;rintro e w3 ⟨rfl,hb⟩;have zd:w3.heap[W.heap.size+1]?=some (.cells #[.int .i64 0,.int .i64 0] 24 (0,0)):=(hb.block (W.heap.size+1) (by first|omega|(simp;try omega))).trans (hkeep zB.out);(try clear zB z0 z1 zf zL zN);have zB:Hid _:=zd;obtain ⟨z0,z1,zf,zL⟩:=rw2 zd;have zN:¬ W.heap.size+1=w3.heap.size:=(by omega);clear zd;have Bw3:Hid (Below W.heap.size W w3):=bstep (by repeat (first|refine Below.setCell ?_ (by simp;try omega) _|refine Below.alloc ?_ (by have:=Bw2.out.size;simp;try omega) _|refine Below.drew ?_|exact Bw2.out)) hb;clear hb HU2))
        exact bodyPost_ret (v:=idE ((u1,u2),u3)) (by simp [results,Tryz.results77,go_sem,idE, *]) rfl ⟨rfl,(by repeat (first|refine Below.setCell ?_ (by simp;try omega) _|refine Below.alloc ?_ (by have:=Bw3.out.size;simp;try omega) _|refine Below.drew ?_|exact Bw3.out))⟩
      · rw [if_neg hg]
        clear HU2
        go_enter Tryz.func77,Tryz.ntmps77
        go_wp2_with (first
          | (go_at_call 135;refine (HR.out _ (by repeat (first|exact Below.refl _ _|refine Below.setCell ?_ (by simp;try omega) _|refine Below.alloc ?_ (by simp;try omega) _|refine Below.drew ?_))).mono ?_;rintro e w1 ⟨⟨sa,sk,so,rfl⟩,hb⟩;have ad:w1.heap[W.heap.size]?=some (.cells #[.int .i64 c,.int .i64 i] 24 (0,0)):=(hb.block (W.heap.size) (by first|omega|(simp;try omega))).trans (hkeep (halloc1 _ _));(try clear aB a0 a1 af aL aN);have aB:Hid _:=ad;obtain ⟨a0,a1,af,aL⟩:=rw2 ad;have aN:¬ W.heap.size=w1.heap.size:=(by omega);clear ad;have zd:w1.heap[W.heap.size+1]?=some (.cells #[.int .i64 0,.int .i64 0] 24 (0,0)):=(hb.block (W.heap.size+1) (by first|omega|(simp;try omega))).trans (halloc2 _ _ (by simp));(try clear zB z0 z1 zf zL zN);have zB:Hid _:=zd;obtain ⟨z0,z1,zf,zL⟩:=rw2 zd;have zN:¬ W.heap.size+1=w1.heap.size:=(by omega);clear zd;have Bw1:Hid (Below W.heap.size W w1):=bstep (by repeat (first|exact Below.refl _ _|refine Below.setCell ?_ (by simp;try omega) _|refine Below.alloc ?_ (by simp;try omega) _|refine Below.drew ?_)) hb;clear hb HR)
          | (go_at_call 22;refine (HF.out _ (by repeat (first|refine Below.setCell ?_ (by simp;try omega) _|refine Below.alloc ?_ (by have:=Bw1.out.size;simp;try omega) _|refine Below.drew ?_|exact Bw1.out))).mono ?_;rintro e w2 ⟨rfl,hb⟩;have ad:w2.heap[W.heap.size]?=some (.cells #[.int .i64 c,.int .i64 i] 24 (0,0)):=(hb.block (W.heap.size) (by first|omega|(simp;try omega))).trans (hkeep aB.out);(try clear aB a0 a1 af aL aN);have aB:Hid _:=ad;obtain ⟨a0,a1,af,aL⟩:=rw2 ad;have aN:¬ W.heap.size=w2.heap.size:=(by omega);clear ad;have zd:w2.heap[W.heap.size+1]?=some (.cells #[.int .i64 0,.int .i64 0] 24 (0,0)):=(hb.block (W.heap.size+1) (by first|omega|(simp;try omega))).trans (hkeep zB.out);(try clear zB z0 z1 zf zL zN);have zB:Hid _:=zd;obtain ⟨z0,z1,zf,zL⟩:=rw2 zd;have zN:¬ W.heap.size+1=w2.heap.size:=(by omega);clear zd;have vd:w2.heap[w1.heap.size]?=some (.cells #[.string x.nm,.string x.ds,.int .i64 x.fl,.int .i64 x.lo,.int .i64 x.st,.slice sa sk so] 30 (0,0)):=(hb.block (w1.heap.size) (by first|omega|(simp;try omega))).trans (halloc1 _ _);(try clear vB v0 v1 v2 v3 v4 v5 vf vL vN);have vB:Hid _:=vd;obtain ⟨v0,v1,v2,v3,v4,v5,vf,vL⟩:=rw6 vd;have vN:¬ w1.heap.size=w2.heap.size:=(by omega);clear vd;have Bw2:Hid (Below W.heap.size W w2):=bstep (by repeat (first|refine Below.setCell ?_ (by simp;try omega) _|refine Below.alloc ?_ (by have:=Bw1.out.size;simp;try omega) _|refine Below.drew ?_|exact Bw1.out)) hb;clear hb HF)
          | (go_at_call 78;refine (HO2.out _ (by repeat (first|refine Below.setCell ?_ (by simp;try omega) _|refine Below.alloc ?_ (by have:=Bw2.out.size;simp;try omega) _|refine Below.drew ?_|exact Bw2.out))).mono ?_;rintro e w3 ⟨rfl,hb⟩;have zd:w3.heap[W.heap.size+1]?=some (.cells #[.int .i64 0,.int .i64 0] 24 (0,0)):=(hb.block (W.heap.size+1) (by first|omega|(simp;try omega))).trans (hkeep zB.out);(try clear zB z0 z1 zf zL zN);have zB:Hid _:=zd;obtain ⟨z0,z1,zf,zL⟩:=rw2 zd;have zN:¬ W.heap.size+1=w3.heap.size:=(by omega);clear zd;have Bw3:Hid (Below W.heap.size W w3):=bstep (by repeat (first|refine Below.setCell ?_ (by simp;try omega) _|refine Below.alloc ?_ (by have:=Bw2.out.size;simp;try omega) _|refine Below.drew ?_|exact Bw2.out)) hb;clear hb HO2))
        exact bodyPost_ret (v:=idE ((o1,o2),o3)) (by simp [results,Tryz.results77,go_sem,idE, *]) rfl ⟨rfl,(by repeat (first|refine Below.setCell ?_ (by simp;try omega) _|refine Below.alloc ?_ (by have:=Bw3.out.size;simp;try omega) _|refine Below.drew ?_|exact Bw3.out))⟩
set_option maxHeartbeats 2000000 in
theorem itf_c {b:Nat} {ps:List Plc} {W:World} (h:WAt b ps W) (hi:WI ps) (r c i:Int):Calls Tryz.prog 76 #[.pointer (some ⟨b,0,none⟩),.int .i64 r,.agg #[.int .i64 c,.int .i64 i]] W fun e w'=>e=.returned (idE (itfI ps r (c,i)))∧Below W.heap.size W w':=by
  have HI:∀ w,Below W.heap.size W w→WAt b ps w:=fun w hb=>h.below hb
  have HR:Hid (∀ w,Below W.heap.size W w→Calls Tryz.prog 135 #[.pointer (some ⟨b,0,none⟩),.int .i64 r,.agg #[.int .i64 c,.int .i64 i]] w fun e w'=>mthE (rfrI ps r (c,i)) e∧Below w.heap.size w w'):=fun w hb=>rfr_c (HI w hb) hi.pb r c i
  have HO:Hid (∀ nm ds w,Below W.heap.size W w→Calls Tryz.prog 78 #[.pointer (some ⟨b,0,none⟩),.int .i64 r,.string nm,.string ds] w fun e w'=>e=.returned (.tuple #[.agg #[.int .i64 (onI ps r nm ds).1.1,.int .i64 (onI ps r nm ds).1.2],.int .i64 (onI ps r nm ds).2])∧Below w.heap.size w w'):=fun nm ds w hb=>one_c (HI w hb) hi r nm ds
  have HU:Hid (∀ c i w,Below W.heap.size W w→Calls Tryz.prog 138 #[.pointer (some ⟨b,0,none⟩),.agg #[.int .i64 c,.int .i64 i]] w fun e w'=>e=.returned (.tuple #[.agg #[.int .i64 (unaI ps (c,i)).1.1,.int .i64 (unaI ps (c,i)).1.2],.int .i64 (unaI ps (c,i)).2])∧Below w.heap.size w w'):=fun c i w hb=>una_c (HI w hb) hi.pb c i
  have HF:Hid (∀ nm ds fl lo st sa sk so w,Below W.heap.size W w→Calls Tryz.prog 136 #[.pointer (some ⟨b,0,none⟩),.int .i64 r,.agg #[.string nm,.string ds,.int .i64 fl,.int .i64 lo,.int .i64 st,.slice sa sk so]] w fun e w'=>e=.returned (idB (uchI ps nm ds r))∧Below w.heap.size w w'):=fun nm ds fl lo st sa sk so w hb=>uch_c (HI w hb) hi r nm ds fl lo st sa sk so
  have HS:Hid (∀ c i w,Below W.heap.size W w→Calls Tryz.prog 137 #[.pointer (some ⟨b,0,none⟩),.agg #[.int .i64 c,.int .i64 i],.int .i64 1] w fun e w'=>e=.returned (.bool (hasS ps c i 1))∧Below w.heap.size w w'):=fun c i w hb=>chS_c (HI w hb) hi.pb c i 1
  unfold itfI
  cases hD:rfrI ps r (c,i) with
  | error x =>
    have hx:x≠0:=by rcases rfr_err hD with rfl|rfl <;> decide
    rw [hD] at HR
    simp only [mthE] at HR
    clear h hi HI hD HO HU HF HS
    go_enter Tryz.func76,Tryz.ntmps76
    go_wp2_with (first
      | (go_at_call 135;refine (HR.out _ (by repeat (first|exact Below.refl _ _|refine Below.setCell ?_ (by simp;try omega) _|refine Below.alloc ?_ (by simp;try omega) _|refine Below.drew ?_))).mono ?_;rintro e w1 ⟨rfl,hb⟩;have ad:w1.heap[W.heap.size]?=some (.cells #[.int .i64 c,.int .i64 i] 24 (0,0)):=(hb.block (W.heap.size) (by first|omega|(simp;try omega))).trans (hkeep (halloc1 _ _));(try clear aB a0 a1 af aL aN);have aB:Hid _:=ad;obtain ⟨a0,a1,af,aL⟩:=rw2 ad;have aN:¬ W.heap.size=w1.heap.size:=(by omega);clear ad;have zd:w1.heap[W.heap.size+1]?=some (.cells #[.int .i64 0,.int .i64 0] 24 (0,0)):=(hb.block (W.heap.size+1) (by first|omega|(simp;try omega))).trans (halloc2 _ _ (by simp));(try clear zB z0 z1 zf zL zN);have zB:Hid _:=zd;obtain ⟨z0,z1,zf,zL⟩:=rw2 zd;have zN:¬ W.heap.size+1=w1.heap.size:=(by omega);clear zd;have Bw1:Hid (Below W.heap.size W w1):=bstep (by repeat (first|exact Below.refl _ _|refine Below.setCell ?_ (by simp;try omega) _|refine Below.alloc ?_ (by simp;try omega) _|refine Below.drew ?_)) hb;clear hb HR))
    exact bodyPost_ret (v:=idE ((0,0),x)) (by simp [results,Tryz.results76,go_sem,idE, *]) rfl ⟨rfl,(by repeat (first|refine Below.setCell ?_ (by simp;try omega) _|refine Below.alloc ?_ (by have:=Bw1.out.size;simp;try omega) _|refine Below.drew ?_|exact Bw1.out))⟩
  | ok x =>
    rw [hD] at HR
    simp only [mthE] at HR
    simp only
    have HF2:Hid (∀ fl lo st sa sk so w,Below W.heap.size W w→Calls Tryz.prog 136 #[.pointer (some ⟨b,0,none⟩),.int .i64 r,.agg #[.string x.nm,.string x.ds,.int .i64 fl,.int .i64 lo,.int .i64 st,.slice sa sk so]] w fun e w'=>e=.returned (idB (uchI ps x.nm x.ds r))∧Below w.heap.size w w'):=HF.out x.nm x.ds
    clear HF
    generalize uchI ps x.nm x.ds r=G at *
    obtain ⟨⟨g1,g2⟩,g3⟩:=G
    simp only [idB] at HF2
    have HO2:Hid _:=HO.out x.nm x.ds
    have HU2:Hid _:=HU.out g1 g2
    have HS2:Hid _:=HS.out g1 g2
    generalize onI ps r x.nm x.ds=O at *
    simp only
    generalize unaI ps (g1,g2)=U at *
    generalize hasS ps g1 g2 1=S at *
    obtain ⟨⟨o1,o2⟩,o3⟩:=O
    obtain ⟨⟨u1,u2⟩,u3⟩:=U
    simp only at HO2 HU2 HS2
    clear h hi HI hD HO HU HS
    cases hS:hasI x.fl 10
    case true =>
      rw [hasI] at hS
      clear HF2 HO2 HU2 HS2
      go_enter Tryz.func76,Tryz.ntmps76
      go_wp2_with (first
        | (go_at_call 135;refine (HR.out _ (by repeat (first|exact Below.refl _ _|refine Below.setCell ?_ (by simp;try omega) _|refine Below.alloc ?_ (by simp;try omega) _|refine Below.drew ?_))).mono ?_;rintro e w1 ⟨⟨sa,sk,so,rfl⟩,hb⟩;have ad:w1.heap[W.heap.size]?=some (.cells #[.int .i64 c,.int .i64 i] 24 (0,0)):=(hb.block (W.heap.size) (by first|omega|(simp;try omega))).trans (hkeep (halloc1 _ _));(try clear aB a0 a1 af aL aN);have aB:Hid _:=ad;obtain ⟨a0,a1,af,aL⟩:=rw2 ad;have aN:¬ W.heap.size=w1.heap.size:=(by omega);clear ad;have zd:w1.heap[W.heap.size+1]?=some (.cells #[.int .i64 0,.int .i64 0] 24 (0,0)):=(hb.block (W.heap.size+1) (by first|omega|(simp;try omega))).trans (halloc2 _ _ (by simp));(try clear zB z0 z1 zf zL zN);have zB:Hid _:=zd;obtain ⟨z0,z1,zf,zL⟩:=rw2 zd;have zN:¬ W.heap.size+1=w1.heap.size:=(by omega);clear zd;have Bw1:Hid (Below W.heap.size W w1):=bstep (by repeat (first|exact Below.refl _ _|refine Below.setCell ?_ (by simp;try omega) _|refine Below.alloc ?_ (by simp;try omega) _|refine Below.drew ?_)) hb;clear hb HR))
      exact bodyPost_ret (v:=idE ((0,0),23)) (by simp [results,Tryz.results76,go_sem,idE, *]) rfl ⟨rfl,(by repeat (first|refine Below.setCell ?_ (by simp;try omega) _|refine Below.alloc ?_ (by have:=Bw1.out.size;simp;try omega) _|refine Below.drew ?_|exact Bw1.out))⟩
    case false =>
      rw [hasI] at hS
      cases g3
      case false =>
        clear HU2 HS2
        go_enter Tryz.func76,Tryz.ntmps76
        go_wp2_with (first
          | (go_at_call 135;refine (HR.out _ (by repeat (first|exact Below.refl _ _|refine Below.setCell ?_ (by simp;try omega) _|refine Below.alloc ?_ (by simp;try omega) _|refine Below.drew ?_))).mono ?_;rintro e w1 ⟨⟨sa,sk,so,rfl⟩,hb⟩;have ad:w1.heap[W.heap.size]?=some (.cells #[.int .i64 c,.int .i64 i] 24 (0,0)):=(hb.block (W.heap.size) (by first|omega|(simp;try omega))).trans (hkeep (halloc1 _ _));(try clear aB a0 a1 af aL aN);have aB:Hid _:=ad;obtain ⟨a0,a1,af,aL⟩:=rw2 ad;have aN:¬ W.heap.size=w1.heap.size:=(by omega);clear ad;have zd:w1.heap[W.heap.size+1]?=some (.cells #[.int .i64 0,.int .i64 0] 24 (0,0)):=(hb.block (W.heap.size+1) (by first|omega|(simp;try omega))).trans (halloc2 _ _ (by simp));(try clear zB z0 z1 zf zL zN);have zB:Hid _:=zd;obtain ⟨z0,z1,zf,zL⟩:=rw2 zd;have zN:¬ W.heap.size+1=w1.heap.size:=(by omega);clear zd;have Bw1:Hid (Below W.heap.size W w1):=bstep (by repeat (first|exact Below.refl _ _|refine Below.setCell ?_ (by simp;try omega) _|refine Below.alloc ?_ (by simp;try omega) _|refine Below.drew ?_)) hb;clear hb HR)
          | (go_at_call 136;refine (HF2.out _ _ _ _ _ _ _ (by repeat (first|refine Below.setCell ?_ (by simp;try omega) _|refine Below.alloc ?_ (by have:=Bw1.out.size;simp;try omega) _|refine Below.drew ?_|exact Bw1.out))).mono ?_;rintro e w2 ⟨rfl,hb⟩;have ad:w2.heap[W.heap.size]?=some (.cells #[.int .i64 c,.int .i64 i] 24 (0,0)):=(hb.block (W.heap.size) (by first|omega|(simp;try omega))).trans (hkeep aB.out);(try clear aB a0 a1 af aL aN);have aB:Hid _:=ad;obtain ⟨a0,a1,af,aL⟩:=rw2 ad;have aN:¬ W.heap.size=w2.heap.size:=(by omega);clear ad;have zd:w2.heap[W.heap.size+1]?=some (.cells #[.int .i64 0,.int .i64 0] 24 (0,0)):=(hb.block (W.heap.size+1) (by first|omega|(simp;try omega))).trans (hkeep zB.out);(try clear zB z0 z1 zf zL zN);have zB:Hid _:=zd;obtain ⟨z0,z1,zf,zL⟩:=rw2 zd;have zN:¬ W.heap.size+1=w2.heap.size:=(by omega);clear zd;have vd:w2.heap[w1.heap.size]?=some (.cells #[.string x.nm,.string x.ds,.int .i64 x.fl,.int .i64 x.lo,.int .i64 x.st,.slice sa sk so] 30 (0,0)):=(hb.block (w1.heap.size) (by first|omega|(simp;try omega))).trans (halloc1 _ _);(try clear vB v0 v1 v2 v3 v4 v5 vf vL vN);have vB:Hid _:=vd;obtain ⟨v0,v1,v2,v3,v4,v5,vf,vL⟩:=rw6 vd;have vN:¬ w1.heap.size=w2.heap.size:=(by omega);clear vd;have Bw2:Hid (Below W.heap.size W w2):=bstep (by repeat (first|refine Below.setCell ?_ (by simp;try omega) _|refine Below.alloc ?_ (by have:=Bw1.out.size;simp;try omega) _|refine Below.drew ?_|exact Bw1.out)) hb;clear hb HF2)
          | (go_at_call 78;refine (HO2.out _ (by repeat (first|refine Below.setCell ?_ (by simp;try omega) _|refine Below.alloc ?_ (by have:=Bw2.out.size;simp;try omega) _|refine Below.drew ?_|exact Bw2.out))).mono ?_;rintro e w3 ⟨rfl,hb⟩;have zd:w3.heap[W.heap.size+1]?=some (.cells #[.int .i64 0,.int .i64 0] 24 (0,0)):=(hb.block (W.heap.size+1) (by first|omega|(simp;try omega))).trans (hkeep zB.out);(try clear zB z0 z1 zf zL zN);have zB:Hid _:=zd;obtain ⟨z0,z1,zf,zL⟩:=rw2 zd;have zN:¬ W.heap.size+1=w3.heap.size:=(by omega);clear zd;have Bw3:Hid (Below W.heap.size W w3):=bstep (by repeat (first|refine Below.setCell ?_ (by simp;try omega) _|refine Below.alloc ?_ (by have:=Bw2.out.size;simp;try omega) _|refine Below.drew ?_|exact Bw2.out)) hb;clear hb HO2))
        exact bodyPost_ret (v:=idE ((o1,o2),o3)) (by simp [results,Tryz.results76,go_sem,idE, *]) rfl ⟨rfl,(by repeat (first|refine Below.setCell ?_ (by simp;try omega) _|refine Below.alloc ?_ (by have:=Bw3.out.size;simp;try omega) _|refine Below.drew ?_|exact Bw3.out))⟩
      case true =>
        clear HO2
        cases S
        case false =>
          clear HU2
          go_enter Tryz.func76,Tryz.ntmps76
          go_wp2_with (first
            | (go_at_call 135;refine (HR.out _ (by repeat (first|exact Below.refl _ _|refine Below.setCell ?_ (by simp;try omega) _|refine Below.alloc ?_ (by simp;try omega) _|refine Below.drew ?_))).mono ?_;rintro e w1 ⟨⟨sa,sk,so,rfl⟩,hb⟩;have ad:w1.heap[W.heap.size]?=some (.cells #[.int .i64 c,.int .i64 i] 24 (0,0)):=(hb.block (W.heap.size) (by first|omega|(simp;try omega))).trans (hkeep (halloc1 _ _));(try clear aB a0 a1 af aL aN);have aB:Hid _:=ad;obtain ⟨a0,a1,af,aL⟩:=rw2 ad;have aN:¬ W.heap.size=w1.heap.size:=(by omega);clear ad;have zd:w1.heap[W.heap.size+1]?=some (.cells #[.int .i64 0,.int .i64 0] 24 (0,0)):=(hb.block (W.heap.size+1) (by first|omega|(simp;try omega))).trans (halloc2 _ _ (by simp));(try clear zB z0 z1 zf zL zN);have zB:Hid _:=zd;obtain ⟨z0,z1,zf,zL⟩:=rw2 zd;have zN:¬ W.heap.size+1=w1.heap.size:=(by omega);clear zd;have Bw1:Hid (Below W.heap.size W w1):=bstep (by repeat (first|exact Below.refl _ _|refine Below.setCell ?_ (by simp;try omega) _|refine Below.alloc ?_ (by simp;try omega) _|refine Below.drew ?_)) hb;clear hb HR)
            | (go_at_call 136;refine (HF2.out _ _ _ _ _ _ _ (by repeat (first|refine Below.setCell ?_ (by simp;try omega) _|refine Below.alloc ?_ (by have:=Bw1.out.size;simp;try omega) _|refine Below.drew ?_|exact Bw1.out))).mono ?_;rintro e w2 ⟨rfl,hb⟩;have ad:w2.heap[W.heap.size]?=some (.cells #[.int .i64 c,.int .i64 i] 24 (0,0)):=(hb.block (W.heap.size) (by first|omega|(simp;try omega))).trans (hkeep aB.out);(try clear aB a0 a1 af aL aN);have aB:Hid _:=ad;obtain ⟨a0,a1,af,aL⟩:=rw2 ad;have aN:¬ W.heap.size=w2.heap.size:=(by omega);clear ad;have zd:w2.heap[W.heap.size+1]?=some (.cells #[.int .i64 0,.int .i64 0] 24 (0,0)):=(hb.block (W.heap.size+1) (by first|omega|(simp;try omega))).trans (hkeep zB.out);(try clear zB z0 z1 zf zL zN);have zB:Hid _:=zd;obtain ⟨z0,z1,zf,zL⟩:=rw2 zd;have zN:¬ W.heap.size+1=w2.heap.size:=(by omega);clear zd;have vd:w2.heap[w1.heap.size]?=some (.cells #[.string x.nm,.string x.ds,.int .i64 x.fl,.int .i64 x.lo,.int .i64 x.st,.slice sa sk so] 30 (0,0)):=(hb.block (w1.heap.size) (by first|omega|(simp;try omega))).trans (halloc1 _ _);(try clear vB v0 v1 v2 v3 v4 v5 vf vL vN);have vB:Hid _:=vd;obtain ⟨v0,v1,v2,v3,v4,v5,vf,vL⟩:=rw6 vd;have vN:¬ w1.heap.size=w2.heap.size:=(by omega);clear vd;have Bw2:Hid (Below W.heap.size W w2):=bstep (by repeat (first|refine Below.setCell ?_ (by simp;try omega) _|refine Below.alloc ?_ (by have:=Bw1.out.size;simp;try omega) _|refine Below.drew ?_|exact Bw1.out)) hb;clear hb HF2)
            | (go_at_call 137;refine (HS2.out _ (by repeat (first|refine Below.setCell ?_ (by simp;try omega) _|refine Below.alloc ?_ (by have:=Bw2.out.size;simp;try omega) _|refine Below.drew ?_|exact Bw2.out))).mono ?_;rintro e w3 ⟨rfl,hb⟩;have zd:w3.heap[W.heap.size+1]?=some (.cells #[.int .i64 0,.int .i64 0] 24 (0,0)):=(hb.block (W.heap.size+1) (by first|omega|(simp;try omega))).trans (hkeep zB.out);(try clear zB z0 z1 zf zL zN);have zB:Hid _:=zd;obtain ⟨z0,z1,zf,zL⟩:=rw2 zd;have zN:¬ W.heap.size+1=w3.heap.size:=(by omega);clear zd;have Bw3:Hid (Below W.heap.size W w3):=bstep (by repeat (first|refine Below.setCell ?_ (by simp;try omega) _|refine Below.alloc ?_ (by have:=Bw2.out.size;simp;try omega) _|refine Below.drew ?_|exact Bw2.out)) hb;clear hb HS2))
          exact bodyPost_ret (v:=idE ((0,0),22)) (by simp [results,Tryz.results76,go_sem,idE, *]) rfl ⟨rfl,(by repeat (first|refine Below.setCell ?_ (by simp;try omega) _|refine Below.alloc ?_ (by have:=Bw3.out.size;simp;try omega) _|refine Below.drew ?_|exact Bw3.out))⟩
        case true =>
          go_enter Tryz.func76,Tryz.ntmps76
          go_wp2_with (first
            | (go_at_call 135;refine (HR.out _ (by repeat (first|exact Below.refl _ _|refine Below.setCell ?_ (by simp;try omega) _|refine Below.alloc ?_ (by simp;try omega) _|refine Below.drew ?_))).mono ?_;rintro e w1 ⟨⟨sa,sk,so,rfl⟩,hb⟩;have ad:w1.heap[W.heap.size]?=some (.cells #[.int .i64 c,.int .i64 i] 24 (0,0)):=(hb.block (W.heap.size) (by first|omega|(simp;try omega))).trans (hkeep (halloc1 _ _));(try clear aB a0 a1 af aL aN);have aB:Hid _:=ad;obtain ⟨a0,a1,af,aL⟩:=rw2 ad;have aN:¬ W.heap.size=w1.heap.size:=(by omega);clear ad;have zd:w1.heap[W.heap.size+1]?=some (.cells #[.int .i64 0,.int .i64 0] 24 (0,0)):=(hb.block (W.heap.size+1) (by first|omega|(simp;try omega))).trans (halloc2 _ _ (by simp));(try clear zB z0 z1 zf zL zN);have zB:Hid _:=zd;obtain ⟨z0,z1,zf,zL⟩:=rw2 zd;have zN:¬ W.heap.size+1=w1.heap.size:=(by omega);clear zd;have Bw1:Hid (Below W.heap.size W w1):=bstep (by repeat (first|exact Below.refl _ _|refine Below.setCell ?_ (by simp;try omega) _|refine Below.alloc ?_ (by simp;try omega) _|refine Below.drew ?_)) hb;clear hb HR)
            | (go_at_call 136;refine (HF2.out _ _ _ _ _ _ _ (by repeat (first|refine Below.setCell ?_ (by simp;try omega) _|refine Below.alloc ?_ (by have:=Bw1.out.size;simp;try omega) _|refine Below.drew ?_|exact Bw1.out))).mono ?_;rintro e w2 ⟨rfl,hb⟩;have ad:w2.heap[W.heap.size]?=some (.cells #[.int .i64 c,.int .i64 i] 24 (0,0)):=(hb.block (W.heap.size) (by first|omega|(simp;try omega))).trans (hkeep aB.out);(try clear aB a0 a1 af aL aN);have aB:Hid _:=ad;obtain ⟨a0,a1,af,aL⟩:=rw2 ad;have aN:¬ W.heap.size=w2.heap.size:=(by omega);clear ad;have zd:w2.heap[W.heap.size+1]?=some (.cells #[.int .i64 0,.int .i64 0] 24 (0,0)):=(hb.block (W.heap.size+1) (by first|omega|(simp;try omega))).trans (hkeep zB.out);(try clear zB z0 z1 zf zL zN);have zB:Hid _:=zd;obtain ⟨z0,z1,zf,zL⟩:=rw2 zd;have zN:¬ W.heap.size+1=w2.heap.size:=(by omega);clear zd;have vd:w2.heap[w1.heap.size]?=some (.cells #[.string x.nm,.string x.ds,.int .i64 x.fl,.int .i64 x.lo,.int .i64 x.st,.slice sa sk so] 30 (0,0)):=(hb.block (w1.heap.size) (by first|omega|(simp;try omega))).trans (halloc1 _ _);(try clear vB v0 v1 v2 v3 v4 v5 vf vL vN);have vB:Hid _:=vd;obtain ⟨v0,v1,v2,v3,v4,v5,vf,vL⟩:=rw6 vd;have vN:¬ w1.heap.size=w2.heap.size:=(by omega);clear vd;have Bw2:Hid (Below W.heap.size W w2):=bstep (by repeat (first|refine Below.setCell ?_ (by simp;try omega) _|refine Below.alloc ?_ (by have:=Bw1.out.size;simp;try omega) _|refine Below.drew ?_|exact Bw1.out)) hb;clear hb HF2)
            | (go_at_call 137;refine (HS2.out _ (by repeat (first|refine Below.setCell ?_ (by simp;try omega) _|refine Below.alloc ?_ (by have:=Bw2.out.size;simp;try omega) _|refine Below.drew ?_|exact Bw2.out))).mono ?_;rintro e w3 ⟨rfl,hb⟩;have zd:w3.heap[W.heap.size+1]?=some (.cells #[.int .i64 0,.int .i64 0] 24 (0,0)):=(hb.block (W.heap.size+1) (by first|omega|(simp;try omega))).trans (hkeep zB.out);(try clear zB z0 z1 zf zL zN);have zB:Hid _:=zd;obtain ⟨z0,z1,zf,zL⟩:=rw2 zd;have zN:¬ W.heap.size+1=w3.heap.size:=(by omega);clear zd;have yd:w3.heap[w2.heap.size]?=some (.cells #[.int .i64 g1,.int .i64 g2] 24 (0,0)):=(hb.block (w2.heap.size) (by first|omega|(simp;try omega))).trans (halloc1 _ _);(try clear yB y0 y1 yf yL yN);have yB:Hid _:=yd;obtain ⟨y0,y1,yf,yL⟩:=rw2 yd;have yN:¬ w2.heap.size=w3.heap.size:=(by omega);clear yd;have Bw3:Hid (Below W.heap.size W w3):=bstep (by repeat (first|refine Below.setCell ?_ (by simp;try omega) _|refine Below.alloc ?_ (by have:=Bw2.out.size;simp;try omega) _|refine Below.drew ?_|exact Bw2.out)) hb;clear hb HS2)
            | (go_at_call 138;refine (HU2.out _ Bw3.out).mono ?_;rintro e w4 ⟨rfl,hb⟩;have zd:w4.heap[W.heap.size+1]?=some (.cells #[.int .i64 0,.int .i64 0] 24 (0,0)):=(hb.block (W.heap.size+1) (by first|omega|(simp;try omega))).trans (zB.out);(try clear zB z0 z1 zf zL zN);have zB:Hid _:=zd;obtain ⟨z0,z1,zf,zL⟩:=rw2 zd;have zN:¬ W.heap.size+1=w4.heap.size:=(by omega);clear zd;have Bw4:Hid (Below W.heap.size W w4):=bstep Bw3.out hb;clear hb HU2))
          exact bodyPost_ret (v:=idE ((u1,u2),u3)) (by simp [results,Tryz.results76,go_sem,idE, *]) rfl ⟨rfl,(by repeat (first|refine Below.setCell ?_ (by simp;try omega) _|refine Below.alloc ?_ (by have:=Bw4.out.size;simp;try omega) _|refine Below.drew ?_|exact Bw4.out))⟩
section
variable {ps:List Plc} {p:Plc}
end
variable {ps:List Plc} {p:Plc}
def topB (m:HM):Bool:=((bits .and .i64 m.fl 1 != 0)&&(bits .and .i64 m.fl 8 == 0))&&!(m.nm.toList == [60,105,110,105,116,62])
def iroB (m:HM):Bool:=bits .and .i64 m.fl 10 == 0
def rtK (p:HM→Bool) (k:Int):List HM→Nat→List (Int×Int)
  | [],_=>[]
  | m::r,i=>(if p m then [(k,(i:Int))] else [])++rtK p k r (i+1)
theorem rtK_snoc (p:HM→Bool) (k:Int):∀ (l:List HM) (m:HM) (i:Nat),rtK p k (l++[m]) i=rtK p k l i++(if p m then [(k,((i+l.length:Nat):Int))] else [])
  | [],m,i=>by simp [rtK]
  | x::r,m,i=>by
    rw [List.cons_append,rtK,rtK,rtK_snoc p k r m (i+1),List.append_assoc,List.length_cons,show i+1+r.length=i+(r.length+1) by omega]
theorem rtK_len (p:HM→Bool) (k:Int):∀ (l:List HM) (i:Nat),(rtK p k l i).length≤l.length
  | [],i=>Nat.le_refl _
  | x::r,i=>by
    have:=rtK_len p k r (i+1)
    rw [rtK,List.length_append,List.length_cons]
    split <;> simp <;> omega
theorem rtK_mem (p:HM→Bool) (k:Int):∀ (l:List HM) (i:Nat) (x:Int×Int),x∈rtK p k l i↔∃ (j:Nat) (m:HM),l[j]?=some m∧p m=true∧x=(k,((i+j:Nat):Int))
  | [],i,x=>by simp [rtK]
  | y::r,i,x=>by
    rw [rtK,List.mem_append,rtK_mem p k r (i+1) x]
    constructor
    · rintro (h|⟨j,m,h1,h2,h3⟩)
      · split at h
        · rename_i hp
          rw [List.mem_singleton] at h
          exact ⟨0,y,rfl,hp,by rw [Nat.add_zero];exact h⟩
        · cases h
      · exact ⟨j+1,m,by rw [List.getElem?_cons_succ];exact h1,h2,by rw [h3,show i+(j+1)=i+1+j by omega]⟩
    · rintro ⟨j,m,h1,h2,h3⟩
      cases j with
      | zero =>
        rw [List.getElem?_cons_zero] at h1
        cases h1
        exact .inl (by rw [if_pos h2,List.mem_singleton,h3,Nat.add_zero])
      | succ j =>
        rw [List.getElem?_cons_succ] at h1
        exact .inr ⟨j,m,h1,h2,by rw [h3,show i+(j+1)=i+1+j by omega]⟩
def mtK (ps:List Plc) (k:Nat):List HM:=match ps[k]? with
  | some q=>q.c.ms
  | none=>[]
def rtsP (ps:List Plc) (q:Plc):List (Int×Int):=rtK topB 0 (mtK ps 0) 0++q.cl.flatMap fun k:Nat=>rtK iroB (k:Int) (mtK ps k) 0
def itE (ps:List Plc) (x:Int):Int:=match plcI ps x with
  | none=>3
  | some _=>if ifcI ps x then 23 else 0
def rtsR (ps:List Plc) (x:Int):List (Int×Int):=match plcI ps x with
  | none=>[]
  | some q=>if ifcI ps x then [] else rtsP ps q
theorem it_cases (ps:List Plc) (x:Int):(itE ps x=0∧∃ (k:Nat) (q:Plc),x=(k:Int)∧ps[k]?=some q∧ifcI ps x=false∧rtsR ps x=rtsP ps q)∨(rtsR ps x=[]∧(itE ps x=3∨itE ps x=23)):=by
  rcases plcI_cases ps x with ⟨h1,_⟩|⟨k,q,rfl,h2,h1⟩
  · exact .inr ⟨by rw [rtsR,h1],.inl (by rw [itE,h1])⟩
  · cases hf:ifcI ps (k:Int) with
    | true=>exact .inr ⟨by rw [rtsR,h1];simp [hf],.inr (by rw [itE,h1];simp [hf])⟩
    | false=>exact .inl ⟨by rw [itE,h1];simp [hf],k,q,rfl,h2,rfl,by rw [rtsR,h1];simp [hf]⟩
theorem rts_len {ps:List Plc} (hW:WI ps) {k:Nat} {q:Plc} (hq:ps[k]?=some q):(rtsP ps q).length≤301000000:=by
  have hm:∀ j,(mtK ps j).length≤1000000:=fun j=>by
    rw [mtK]
    split
    · rename_i p hp;exact (hW.pb p (List.mem_of_getElem? hp)).ms
    · exact Nat.zero_le _
  have hcl:q.cl.length≤300:=by
    have h1:clO (ps.map nd) k=q.cl:=by rw [clO,List.getElem?_map,hq];rfl
    have h2:=hW.wo.cl k (nd q) (by rw [List.getElem?_map,hq];rfl)
    have h3:q.cl.length≤ps.length:=by
      have:=List.Nodup.length_le_of_subset h2.1 (l₂:=List.range ps.length) (fun i hi=>List.mem_range.2 (by
        have h5:=(h2.2 i hi).1
        have h6:=(List.getElem?_eq_some_iff.1 hq).1
        omega))
      rw [List.length_range] at this
      exact this
    have:=hW.hi
    omega
  have hf:∀ l:List Nat,(l.flatMap fun k:Nat=>rtK iroB (k:Int) (mtK ps k) 0).length≤l.length * 1000000:=by
    intro l
    induction l with
    | nil=>exact Nat.zero_le _
    | cons x r ih =>
      rw [List.flatMap_cons,List.length_append,List.length_cons]
      have h1:=rtK_len iroB (x:Int) (mtK ps x) 0
      have h2:=hm x
      omega
  rw [rtsP,List.length_append]
  have h1:=rtK_len topB 0 (mtK ps 0) 0
  have h2:=hm 0
  have h3:=hf q.cl
  omega
theorem rts_mem {ps:List Plc} {q:Plc} {x:Int×Int} (h:x∈rtsP ps q):∃ (j i:Nat) (p:Plc) (m:HM),x=((j:Int),(i:Int))∧ps[j]?=some p∧p.c.ms[i]?=some m∧((j=0∧topB m=true)∨(j∈q.cl∧iroB m=true)):=by
  have hk:∀ (P:HM→Bool) (j:Nat),x∈rtK P (j:Int) (mtK ps j) 0→∃ (i:Nat) (p:Plc) (m:HM),x=((j:Int),(i:Int))∧ps[j]?=some p∧p.c.ms[i]?=some m∧P m=true:=by
    intro P j hx
    obtain ⟨i,m,h1,h2,h3⟩:=(rtK_mem _ _ _ _ _).1 hx
    rw [mtK] at h1
    cases hp:ps[j]? with
    | none=>rw [hp] at h1;simp at h1
    | some p =>
      rw [hp] at h1
      exact ⟨i,p,m,by rw [h3,Nat.zero_add],rfl,h1,h2⟩
  rw [rtsP,List.mem_append] at h
  rcases h with h|h
  · obtain ⟨i,p,m,h1,h2,h3,h4⟩:=hk topB 0 h
    exact ⟨0,i,p,m,h1,h2,h3,.inl ⟨rfl,h4⟩⟩
  · obtain ⟨j,hj,hx⟩:=List.mem_flatMap.1 h
    obtain ⟨i,p,m,h1,h2,h3,h4⟩:=hk iroB j hx
    exact ⟨j,i,p,m,h1,h2,h3,.inr ⟨hj,h4⟩⟩
structure Ent where
  r:Int×Int
  m:Int×Int
  e:Int
  v:Int×Int
  f:Int
def entP (ps:List Plc) (id:Int) (x:Int×Int):Ent:=⟨x,(itfI ps id x).1,(itfI ps id x).2,(virI ps id x).1,(virI ps id x).2⟩
def Ent.agg (x:Ent):Value:=.agg #[.int .i64 x.r.1,.int .i64 x.r.2,.int .i64 x.m.1,.int .i64 x.m.2,.int .i64 x.e,.int .i64 x.v.1,.int .i64 x.v.2,.int .i64 x.f]
theorem rts_ext {ps:List Plc} (hW:WI ps) {k:Nat} {q:Plc} (hq:ps[k]?=some q) {x:Int×Int} (h:x∈rtsP ps q):extI ps (k:Int) x.1=true:=by
  obtain ⟨j,i,p,m,rfl,hp,_,hj⟩:=rts_mem h
  have hk:=(List.getElem?_eq_some_iff.1 hq).1
  have hjl:=(List.getElem?_eq_some_iff.1 hp).1
  rw [show ((j:Int),(i:Int)).1=(j:Int) from rfl,extI_nat hk hjl]
  rcases hj with ⟨rfl,_⟩|⟨hj,_⟩
  · exact (ext_iff _ _ _).2 (.inl (ch_zero hW.wo k (by rw [List.length_map];exact hk)))
  · exact (ext_iff _ _ _).2 (.inr (by rw [clO,List.getElem?_map,hq];exact hj))
set_option maxHeartbeats 1000000 in
theorem isTop_c (m:HM) (a:Option Addr) (n s:Nat) (W:World):Calls Tryz.prog 127 #[.agg #[.string m.nm,.string m.ds,.int .i64 m.fl,.int .i64 m.lo,.int .i64 m.st,.slice a n s]] W fun e w'=>e=.returned (.bool (topB m))∧Below W.heap.size W w':=by
  unfold topB
  obtain ⟨mn,md,mf,ml,ms,mk,mx⟩:=m
  simp only
  cases h1:(bits .and .i64 mf 1 != 0)
  case' true=>cases h2:(bits .and .i64 mf 8 == 0)
  case' true.true=>cases h3:(mn.toList == [60,105,110,105,116,62])
  all_goals
    go_enter Tryz.func127,Tryz.ntmps127
    go_wp2
  all_goals go_ret
  all_goals exact ⟨retB (by simp [*]),(by repeat (first|exact Below.refl _ _|refine Below.setCell ?_ (by simp;try omega) _|refine Below.alloc ?_ (by simp;try omega) _|refine Below.drew ?_))⟩
theorem isIro_c (m:HM) (a:Option Addr) (n s:Nat) (W:World):Calls Tryz.prog 128 #[.agg #[.string m.nm,.string m.ds,.int .i64 m.fl,.int .i64 m.lo,.int .i64 m.st,.slice a n s]] W fun e w'=>e=.returned (.bool (iroB m))∧Below W.heap.size W w':=by
  unfold iroB
  go_enter Tryz.func128,Tryz.ntmps128
  go_wp2
  all_goals go_ret
  all_goals exact ⟨retB (by simp),(by repeat (first|exact Below.refl _ _|refine Below.setCell ?_ (by simp;try omega) _|refine Below.alloc ?_ (by simp;try omega) _|refine Below.drew ?_))⟩
set_option maxHeartbeats 2000000 in
theorem closureOf_no {b:Nat} {ps:List Plc} {W:World} (h:WAt b ps W) (x:Int) (hx:¬ itE ps x=0) (hl:ps.length≤300):Calls Tryz.prog 125 #[.pointer (some ⟨b,0,none⟩),.int .i64 x] W fun e w'=>e=.returned (.tuple #[.slice none 0 0,.int .i64 (itE ps x)])∧Below W.heap.size W w':=by
  rcases plcI_cases ps x with ⟨h1,h2⟩|⟨k,q,rfl,hq,h1⟩
  · have e:itE ps x=3:=by rw [itE,h1]
    rw [e]
    have HC:Hid (Calls Tryz.prog 32 #[.pointer (some ⟨b,0,none⟩),.int .i64 x] W fun e w'=>e=.returned (.tuple #[.slice none 0 0,.int .i64 3])∧w'=W):=by
      obtain ⟨N,mb,vp,pv,h⟩:=h
      exact closure_no N b mb ps vp pv x W h h2
    clear h h2 hx e
    go_enter Tryz.func125,Tryz.ntmps125
    go_wp2_with (go_at_call 32;refine HC.out.mono ?_;rintro e w9 ⟨rfl,hw9⟩;rw [hw9];clear hw9 w9)
    exact bodyPost_ret (results_tmp2 rfl _ _ _) rfl ⟨rfl,Below.refl _ _⟩
  · have hf:ifcI ps (k:Int)=true:=by
      cases hf:ifcI ps (k:Int) with
      | true=>rfl
      | false=>exact absurd (by rw [itE,h1];simp [hf]) hx
    have e:itE ps (k:Int)=23:=by rw [itE,h1];simp [hf]
    rw [e]
    have HC:Hid (Calls Tryz.prog 32 #[.pointer (some ⟨b,0,none⟩),.int .i64 (k:Int)] W fun e w'=>∃ v,e=.returned (.tuple #[v,.int .i64 0])∧w'.ownsRow W.heap.size 3 1 v q.cl.length (q.cl.map numV)∧Below W.heap.size W w'):=by
      obtain ⟨N,mb,vp,pv,h⟩:=h
      exact closure_yes N b mb ps vp pv k q W h hq hl
    have HI:Hid (∀ w,Below W.heap.size W w→Calls Tryz.prog 23 #[.pointer (some ⟨b,0,none⟩),.int .i64 (k:Int)] w fun e w'=>e=.returned (.bool true)∧Below w.heap.size w w'):=fun w hb=>by
      have:=isIface_c (h.below hb) (k:Int)
      rw [hf] at this
      exact this
    clear h hq hx e hf
    go_enter Tryz.func125,Tryz.ntmps125
    go_wp2_with (first
      | (go_at_call 32;refine HC.out.mono ?_;rintro e w1 ⟨v,rfl,ho,hb⟩;have B1:Hid (Below W.heap.size W w1):=hb;clear ho hb HC)
      | (go_at_call 23;refine (HI.out _ B1.out).mono ?_;rintro e w2 ⟨rfl,hb⟩;have B2:Hid (Below W.heap.size W w2):=bstep B1.out hb;clear hb HI))
    exact bodyPost_ret (results_tmp2 rfl _ _ _) rfl ⟨rfl,B2.out⟩
set_option maxHeartbeats 2000000 in
theorem closureOf_yes {b:Nat} {ps:List Plc} {W:World} (h:WAt b ps W) (k:Nat) (q:Plc) (hq:ps[k]?=some q) (hf:ifcI ps (k:Int)=false) (hl:ps.length≤300):Calls Tryz.prog 125 #[.pointer (some ⟨b,0,none⟩),.int .i64 (k:Int)] W fun e w'=>∃ v,e=.returned (.tuple #[v,.int .i64 0])∧w'.ownsRow W.heap.size 3 1 v q.cl.length (q.cl.map numV)∧Below W.heap.size W w':=by
  have HC:Hid (Calls Tryz.prog 32 #[.pointer (some ⟨b,0,none⟩),.int .i64 (k:Int)] W fun e w'=>∃ v,e=.returned (.tuple #[v,.int .i64 0])∧w'.ownsRow W.heap.size 3 1 v q.cl.length (q.cl.map numV)∧Below W.heap.size W w'):=by
    obtain ⟨N,mb,vp,pv,h⟩:=h
    exact closure_yes N b mb ps vp pv k q W h hq hl
  have HI:Hid (∀ w,Below W.heap.size W w→Calls Tryz.prog 23 #[.pointer (some ⟨b,0,none⟩),.int .i64 (k:Int)] w fun e w'=>e=.returned (.bool false)∧Below w.heap.size w w'):=fun w hb=>by
    have:=isIface_c (h.below hb) (k:Int)
    rw [hf] at this
    exact this
  obtain ⟨K,hK⟩:∃ K,q.cl.length=K:=⟨_,rfl⟩
  obtain ⟨C,hC⟩:∃ C,q.cl.map numV=C:=⟨_,rfl⟩
  rw [hK,hC] at HC ⊢
  clear h hq hf hK hC
  go_enter Tryz.func125,Tryz.ntmps125
  go_wp2_with (first
    | (go_at_call 32;refine HC.out.mono ?_;rintro e w1 ⟨v,rfl,ho,hb⟩;have O1:Hid (w1.ownsRow W.heap.size 3 1 v K C):=ho;have B1:Hid (Below W.heap.size W w1):=hb;clear ho hb HC)
    | (go_at_call 23;refine (HI.out _ B1.out).mono ?_;rintro e w2 ⟨rfl,hb⟩;have O2:Hid (w2.ownsRow W.heap.size 3 1 v K C):=rowBelow O1.out hb;have B2:Hid (Below W.heap.size W w2):=bstep B1.out hb;clear hb HI O1))
  exact bodyPost_ret (results_tmp2 rfl _ _ _) rfl ⟨_,rfl,O2.out,B2.out⟩
theorem callTop (vs:Array Value) (w:World):(callFunc 127 vs).run Tryz.prog w=.ok (.enter 127 vs) w:=by simp [go_sem]
theorem callIro (vs:Array Value) (w:World):(callFunc 128 vs).run Tryz.prog w=.ok (.enter 128 vs) w:=by simp [go_sem]
set_option maxHeartbeats 8000000 in
theorem rootsIn_w (g:Nat) (eg:∀ args w,(callFunc g args).run Tryz.prog w=.ok (.enter g args) w) (p:HM→Bool) (hp:∀ (m:HM) (a:Option Addr) (n s:Nat) (w:World),Calls Tryz.prog g #[.agg #[.string m.nm,.string m.ds,.int .i64 m.fl,.int .i64 m.lo,.int .i64 m.st,.slice a n s]] w fun e w'=>e=.returned (.bool (p m))∧Below w.heap.size w w') (W:World) (b k:Nat) (q:Plc) (hms:q.c.ms.length≤1000000)
    (HCL:Hid (Calls Tryz.prog 31 #[.pointer (some ⟨b,0,none⟩),.int .i64 (k:Int)] W fun e w'=>(∃ vi vm qm,e=.returned (.tuple #[.agg #[.string q.c.nm,.string q.c.su,vi,.int .i64 q.c.fl,.int .i64 q.c.ld,vm],.int .i64 0])∧OwnC w' W.heap.size vi q.c.ni q.c.xi vm qm∧qm.map Prod.fst=q.c.ms)∧Below W.heap.size W w')) :
    Calls Tryz.prog 126 #[.pointer (some ⟨b,0,none⟩),.int .i64 (k:Int),.func (.func g) #[] #[]] W fun e w'=>(∃ v,e=.returned v∧w'.ownsRow W.heap.size 24 2 v (rtK p (k:Int) q.c.ms 0).length (flatD (rtK p (k:Int) q.c.ms 0)))∧Below W.heap.size W w':=by
  obtain ⟨i0,hi0,hz0,hz1,hz2⟩:=info_parts Tryz.hinfoD
  have HP:Hid (∀ (m:HM) (a:Option Addr) (n s:Nat) (w:World),Calls Tryz.prog g #[.agg #[.string m.nm,.string m.ds,.int .i64 m.fl,.int .i64 m.lo,.int .i64 m.st,.slice a n s]] w fun e w'=>e=.returned (.bool (p m))∧Below w.heap.size w w'):=hp
  clear hp
  go_enter Tryz.func126,Tryz.ntmps126
  go_wp2_with (first
    | (go_at_call 31;refine HCL.out.mono ?_;rintro e w2 ⟨⟨vi,vm,qm,rfl,hoc,hqm⟩,hb⟩;obtain ⟨ia,ic,rfl⟩:=ownv hoc.ifs;obtain ⟨ma,mc,rfl⟩:=ownv hoc.ms;have OM:Hid (w2.ownsRow W.heap.size 30 6 (.slice ma qm.length mc) qm.length (flatH qm)):=hoc.ms;have HQM:Hid (qm.map Prod.fst=q.c.ms):=hqm;have HCOD:Hid (∀ p∈qm,∃ a c,p.2=.slice a p.1.n c):=(fun p hp=>ownv (hoc.cod p hp));have B2:Hid (Below W.heap.size W w2):=hb;clear hb hoc hqm HCL))
  obtain ⟨K,hK⟩:∃ K,qm.length=K:=⟨_,rfl⟩
  have HK:Hid (qm.length=K):=hK
  have hKb:K≤1000000:=by
    have:=congrArg List.length HQM.out
    rw [List.length_map,hK] at this
    omega
  have HKm:Hid (q.c.ms.length=K):=by rw [Hid,← HQM.out,List.length_map,hK]
  rw [hK] at OM ⊢
  obtain ⟨U,hU⟩:∃ U,U=w2.alloc (.cells #[.string q.c.nm,.string q.c.su,.slice ia q.c.ni ic,.int .i64 q.c.fl,.int .i64 q.c.ld,.slice ma K mc] 53):=⟨_,rfl⟩
  have BU:Hid (Below W.heap.size W U):=by rw [hU];exact B2.out.alloc B2.out.size _
  have OMU:Hid (U.ownsRow W.heap.size 30 6 (.slice ma K mc) K (flatH qm)):=by rw [hU];exact OM.out.alloc _
  rw [← hU]
  clear hU hK OM hms B2
  go_loopw [9,21] (fun sv kv wr=>∃ (i:Nat),kv=.int .i64 i∧i≤K∧Hid (wr.ownsRow U.heap.size 24 2 sv (rtK p (k:Int) (q.c.ms.take i) 0).length (flatD (rtK p (k:Int) (q.c.ms.take i) 0)))∧Hid (Below U.heap.size U wr)) (fun _ kv _=>K - (intOf kv).toNat)
  case atStart=>exact ⟨0,rfl,Nat.zero_le _,World.ownsRow_nil _ _ _ _,Below.refl _ _⟩
  case round =>
    obtain ⟨i,rfl,hi,hO,hB⟩:=hrel
    by_cases hlt:i<K
    · have hiI:(i:Int)<(K:Int):=by omega
      obtain ⟨⟨m,um⟩,hm⟩:∃ m,qm[i]?=some m:=⟨_,List.getElem?_eq_getElem (by rw [HK.out];exact hlt)⟩
      have hmm:q.c.ms[i]?=some m:=by rw [← HQM.out,List.getElem?_map,hm];rfl
      obtain ⟨gm,cm,hform⟩:=Go.Joins.ownsRow_form OMU.out (by omega)
      injection hform with hca _ hcc
      subst hca hcc
      obtain ⟨ua,uc,hum⟩:=HCOD.out (m,um) (List.mem_of_getElem? hm)
      simp only at hum
      subst hum
      have hcell:=fun j (hj:j<6)=>((rowBelow OMU.out hB.out).cellAt (i * 6+j) (by have:=flatH_length qm;have:=HK.out;omega)).trans (flatH_at qm i (m,_) hm j hj)
      have c0:=hcell 0 (by omega)
      have c1:=hcell 1 (by omega)
      have c2:=hcell 2 (by omega)
      have c3:=hcell 3 (by omega)
      have c4:=hcell 4 (by omega)
      have c5:=hcell 5 (by omega)
      simp only [hmC,List.getElem?_cons_zero,List.getElem?_cons_succ,Nat.add_zero] at c0 c1 c2 c3 c4 c5
      have hst:rtK p (k:Int) (q.c.ms.take (i+1)) 0=rtK p (k:Int) (q.c.ms.take i) 0++(if p m then [((k:Int),(i:Int))] else []):=by
        have h1:(q.c.ms.take i).length=i:=by rw [List.length_take,HKm.out];omega
        rw [List.take_add_one,hmm,Option.toList_some,rtK_snoc,h1,Nat.zero_add]
      have HC:Hid (∀ w:World,Calls Tryz.prog g #[.agg #[.string m.nm,.string m.ds,.int .i64 m.fl,.int .i64 m.lo,.int .i64 m.st,.slice ua m.n uc]] w fun e w'=>e=.returned (.bool (p m))∧Below w.heap.size w w'):=fun w=>HP.out m ua m.n uc w
      have hal:(rtK p (k:Int) (q.c.ms.take i) 0).length≤1000000:=by
        have:=rtK_len p (k:Int) (q.c.ms.take i) 0
        rw [List.length_take] at this
        omega
      obtain ⟨L,hL⟩:∃ L,rtK p (k:Int) (q.c.ms.take i) 0=L:=⟨_,rfl⟩
      rw [hL] at hst hal hO
      obtain ⟨va,vn,rfl⟩:=ownv hO.out
      have HST:Hid _:=hst
      generalize p m=pm at *
      clear hm hmm hcell hL hst
      cases pm with
      | false =>
        have hst2:rtK p (k:Int) (q.c.ms.take (i+1)) 0=L:=by rw [HST.out];simp
        have HST2:Hid _:=hst2
        clear HST hst2
        go_wp2_with (go_at_fn g;refine (HC.out _).mono ?_;rintro e w3 ⟨rfl,hb⟩;have B3:Hid (Below U.heap.size U w3):=bstep (hB.out.alloc hB.out.size _) hb;have O3:Hid (w3.ownsRow U.heap.size 24 2 (.slice va L.length vn) L.length (flatD L)):=rowBelow (hO.out.alloc _) hb;clear hb HC)
        refine ⟨⟨i+1,by simp,by omega,?_,B3⟩,by simp [intOf];omega⟩
        rw [HST2.out];exact O3
      | true =>
        have hst2:rtK p (k:Int) (q.c.ms.take (i+1)) 0=L++[((k:Int),(i:Int))]:=by rw [HST.out,if_pos rfl]
        have HST2:Hid _:=hst2
        clear HST hst2
        go_wp2_with (first
          | (go_at_fn g;refine (HC.out _).mono ?_;rintro e w3 ⟨rfl,hb⟩;have B3:Hid (Below U.heap.size U w3):=bstep (hB.out.alloc hB.out.size _) hb;have O3:Hid (w3.ownsRow U.heap.size 24 2 (.slice va L.length vn) L.length (flatD L)):=rowBelow (hO.out.alloc _) hb;clear hb HC)
          | (at_builtin;refine wpList_append_own _ rfl _ _ 34 rfl U.heap.size 24 i0 (.agg #[.int .i64 0,.int .i64 0]) 2 16 Tryz.underlying34 hi0 hz0 hz1 hz2 rfl (by decide) (.slice va L.length vn) L.length (flatD L) rfl (O3.out.alloc _) ⟨w3.heap.size,0,none⟩ 1 1 [.int .i64 (k:Int),.int .i64 (i:Int)] rfl rfl ?c1 ?c2 ?c3 ?c4 ?c5 ?_))
        case c1=>intro jj u hj;rw [addr_add];match jj,hj with
          | 0,hj=>simp at hj;subst hj;simp [go_sem]
          | 1,hj=>simp at hj;subst hj;simp [go_sem]
          | (jj+2),hj=>simp at hj
        case c2=>intro u hu;simp at hu;rcases hu with rfl|rfl <;> rfl
        case c3=>unfold maxLen;omega
        case c4=>omega
        case c5=>have:=B3.out.size;simp;omega
        intro v' w4 hown hgrow _
        obtain ⟨va2,vn2,rfl⟩:=ownv hown
        have B4:Hid (Below U.heap.size U w4):=by
          have hb1:Below U.heap.size U (w3.alloc (.cells #[.int .i64 (k:Int),.int .i64 (i:Int)] 24)):=B3.out.alloc B3.out.size _
          refine hb1.grown hgrow hb1.size (fun x hx=>?_)
          have:=(O3.out.lt x hx).1
          omega
        have O4:Hid (w4.ownsRow U.heap.size 24 2 (.slice va2 (L.length+1) vn2) (L++[((k:Int),(i:Int))]).length (flatD (L++[((k:Int),(i:Int))]))):=by
          rw [Hid,List.length_append,flatD_app];exact hown
        go_wp2
        refine ⟨⟨i+1,by simp,by omega,?_,B4⟩,by simp [intOf];omega⟩
        rw [HST2.out];exact O4
    · have e:i=K:=by omega
      subst e
      have HE:Hid (rtK p (k:Int) (q.c.ms.take i) 0=rtK p (k:Int) q.c.ms 0):=by rw [Hid,List.take_of_length_le (by rw [HKm.out];exact Nat.le_refl _)]
      rw [HE.out] at hO
      obtain ⟨va,vn,rfl⟩:=ownv hO.out
      go_wp2
      exact bodyPost_ret (results_tmp rfl _ _ _) rfl ⟨⟨_,rfl,Go.Joins.ownsRow_le hO.out BU.out.size⟩,BU.out.trans (hB.out.mono BU.out.size)⟩
theorem rootsTop_c {b:Nat} {ps:List Plc} {W:World} (h:WAt b ps W) (hW:WI ps) (k:Nat) (hk:k<ps.length):Calls Tryz.prog 126 #[.pointer (some ⟨b,0,none⟩),.int .i64 (k:Int),.func (.func 127) #[] #[]] W fun e w'=>(∃ v,e=.returned v∧w'.ownsRow W.heap.size 24 2 v (rtK topB (k:Int) (mtK ps k) 0).length (flatD (rtK topB (k:Int) (mtK ps k) 0)))∧Below W.heap.size W w':=by
  have hq:ps[k]?=some ps[k]:=List.getElem?_eq_getElem hk
  have e:mtK ps k=ps[k].c.ms:=by rw [mtK,hq]
  rw [e]
  refine rootsIn_w 127 callTop topB isTop_c W b k ps[k] (hW.pb _ (List.mem_of_getElem? hq)).ms ?_
  have:=class_c h hW.pb (k:Int)
  rw [plcI_nat,hq] at this
  exact this
theorem rootsIro_c {b:Nat} {ps:List Plc} {W:World} (h:WAt b ps W) (hW:WI ps) (k:Nat) (hk:k<ps.length):Calls Tryz.prog 126 #[.pointer (some ⟨b,0,none⟩),.int .i64 (k:Int),.func (.func 128) #[] #[]] W fun e w'=>(∃ v,e=.returned v∧w'.ownsRow W.heap.size 24 2 v (rtK iroB (k:Int) (mtK ps k) 0).length (flatD (rtK iroB (k:Int) (mtK ps k) 0)))∧Below W.heap.size W w':=by
  have hq:ps[k]?=some ps[k]:=List.getElem?_eq_getElem hk
  have e:mtK ps k=ps[k].c.ms:=by rw [mtK,hq]
  rw [e]
  refine rootsIn_w 128 callIro iroB isIro_c W b k ps[k] (hW.pb _ (List.mem_of_getElem? hq)).ms ?_
  have:=class_c h hW.pb (k:Int)
  rw [plcI_nat,hq] at this
  exact this
end Go.Proofs.YthfifobokpfpkaaGreat
