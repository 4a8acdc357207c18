import Derived.Test.YtfoldbhlmmmpeaaGreatOvB
import Derived.Test.YtfoldbhlmmmpeaaGreatOvH
import Derived.Test.YtfoldbhlmmmpeaaGreatChA
import Derived.Test.YtfoldbhlmmmpeaaGreatHrR
import Derived.Test.YtfoldbhlmmmpeaaGreatRsC
import Derived.Deep.RegionHeld3
import Derived.IntWalk
set_option maxRecDepth 100000
namespace Go.Proofs.YtfoldbhlmmmpeaaGreat
open Go.RowKit Go.Maps
def onI (ps:List Plc) (c:Int) (nm ds:ByteArray):(Int×Int)×Int:=match plcI ps c with
  | some q=>oneV ps (candL ps nm ds q.cl)
  | none=>((0,0),3)
theorem one_c {b:Nat} {ps:List Plc} {W:World} (h:WAt b ps W) (hi:WI ps) (c:Int) (nm ds:ByteArray):Calls Tryz.prog 93 #[.pointer (some ⟨b,0,none⟩),.int .i64 c,.string nm,.string ds] W fun e w'=>e=.returned (idE (onI ps c nm ds))∧Below W.heap.size W w':=by
  rcases plcI_cases ps c with ⟨h1,_⟩|⟨k,q,rfl,h2,h1⟩
  · have e:onI ps c nm ds=((0,0),3):=by rw [onI,h1]
    rw [e];exact one_no h c h1 nm ds
  · have e:onI ps (k:Int) nm ds=oneV ps (candL ps nm ds q.cl):=by rw [onI,h1]
    rw [e];exact one_yes h hi k q h2 nm ds
theorem rfr_err {ps:List Plc} {r:Int} {m:Int×Int} {x:Int} (h:rfrI ps r m=.error x):x=2∨x=3:=by
  rw [rfrI] at h
  split at h
  · split at h
    · cases h;exact .inl rfl
    · cases h
  · rename_i e he
    cases h
    rw [crdI] at he
    split at he
    · cases he
    · cases he;exact .inr rfl
def virI (ps:List Plc) (r:Int) (m:Int×Int):(Int×Int)×Int:=match rfrI ps r m with
  | .error e=>((0,0),e)
  | .ok x=>if stB x.fl then ((0,0),23) else if (firI ps r m).2=0 then unaI ps (firI ps r m).1 else onI ps r x.nm x.ds
def itfI (ps:List Plc) (r:Int) (m:Int×Int):(Int×Int)×Int:=match rfrI ps r m with
  | .error e=>((0,0),e)
  | .ok x=>if hasI x.fl 10 then ((0,0),23) else if (uchI ps x.nm x.ds r).2 then (if hasS ps (uchI ps x.nm x.ds r).1.1 (uchI ps x.nm x.ds r).1.2 1 then unaI ps (uchI ps x.nm x.ds r).1 else ((0,0),22)) else onI ps r x.nm x.ds
set_option maxHeartbeats 2000000 in
theorem vir_c {b:Nat} {ps:List Plc} {W:World} (h:WAt b ps W) (hi:WI ps) (r c i:Int):Calls Tryz.prog 38 #[.pointer (some ⟨b,0,none⟩),.int .i64 r,.agg #[.int .i64 c,.int .i64 i]] W fun e w'=>e=.returned (idE (virI ps r (c,i)))∧Below W.heap.size W w':=by
  have HI:∀ w,Below W.heap.size W w→WAt b ps w:=fun w hb=>h.below hb
  have HR:Hid (∀ w,Below W.heap.size W w→Calls Tryz.prog 92 #[.pointer (some ⟨b,0,none⟩),.int .i64 r,.agg #[.int .i64 c,.int .i64 i]] w fun e w'=>mthE (rfrI ps r (c,i)) e∧Below w.heap.size w w'):=fun w hb=>rfr_c (HI w hb) hi.pb r c i
  have HO:Hid (∀ nm ds w,Below W.heap.size W w→Calls Tryz.prog 93 #[.pointer (some ⟨b,0,none⟩),.int .i64 r,.string nm,.string ds] w fun e w'=>e=.returned (.tuple #[.agg #[.int .i64 (onI ps r nm ds).1.1,.int .i64 (onI ps r nm ds).1.2],.int .i64 (onI ps r nm ds).2])∧Below w.heap.size w w'):=fun nm ds w hb=>one_c (HI w hb) hi r nm ds
  have HU:Hid (∀ c i w,Below W.heap.size W w→Calls Tryz.prog 94 #[.pointer (some ⟨b,0,none⟩),.agg #[.int .i64 c,.int .i64 i]] w fun e w'=>e=.returned (.tuple #[.agg #[.int .i64 (unaI ps (c,i)).1.1,.int .i64 (unaI ps (c,i)).1.2],.int .i64 (unaI ps (c,i)).2])∧Below w.heap.size w w'):=fun c i w hb=>una_c (HI w hb) hi.pb c i
  have HF:Hid (∀ w,Below W.heap.size W w→Calls Tryz.prog 22 #[.pointer (some ⟨b,0,none⟩),.int .i64 r,.agg #[.int .i64 c,.int .i64 i]] w fun e w'=>e=.returned (idE (firI ps r (c,i)))∧Below w.heap.size w w'):=fun w hb=>first_c (HI w hb) hi r c i
  unfold virI
  cases hD:rfrI ps r (c,i) with
  | error x =>
    have hx:x≠0:=by rcases rfr_err hD with rfl|rfl <;> decide
    rw [hD] at HR
    simp only [mthE] at HR
    clear h hi HI hD HO HU HF
    go_enter Tryz.func38,Tryz.ntmps38
    go_wp2_with (first
      | (go_at_call 92;refine (HR.out _ (by repeat (first|exact Below.refl _ _|refine Below.setCell ?_ (by simp;try omega) _|refine Below.alloc ?_ (by simp;try omega) _|refine Below.drew ?_))).mono ?_;rintro e w1 ⟨rfl,hb⟩;have ad:w1.heap[W.heap.size]?=some (.cells #[.int .i64 c,.int .i64 i] 24 (0,0)):=(hb.block (W.heap.size) (by first|omega|(simp;try omega))).trans (hkeep (halloc1 _ _));(try clear aB a0 a1 af aL aN);have aB:Hid _:=ad;obtain ⟨a0,a1,af,aL⟩:=rw2 ad;have aN:¬ W.heap.size=w1.heap.size:=(by omega);clear ad;have zd:w1.heap[W.heap.size+1]?=some (.cells #[.int .i64 0,.int .i64 0] 24 (0,0)):=(hb.block (W.heap.size+1) (by first|omega|(simp;try omega))).trans (halloc2 _ _ (by simp));(try clear zB z0 z1 zf zL zN);have zB:Hid _:=zd;obtain ⟨z0,z1,zf,zL⟩:=rw2 zd;have zN:¬ W.heap.size+1=w1.heap.size:=(by omega);clear zd;have Bw1:Hid (Below W.heap.size W w1):=bstep (by repeat (first|exact Below.refl _ _|refine Below.setCell ?_ (by simp;try omega) _|refine Below.alloc ?_ (by simp;try omega) _|refine Below.drew ?_)) hb;clear hb HR))
    exact bodyPost_ret (v:=idE ((0,0),x)) (by simp [results,Tryz.results38,go_sem,idE, *]) rfl ⟨rfl,(by repeat (first|refine Below.setCell ?_ (by simp;try omega) _|refine Below.alloc ?_ (by have:=Bw1.out.size;simp;try omega) _|refine Below.drew ?_|exact Bw1.out))⟩
  | ok x =>
    rw [hD] at HR
    simp only [mthE] at HR
    simp only
    generalize firI ps r (c,i)=G at *
    obtain ⟨⟨g1,g2⟩,g3⟩:=G
    simp only [idE] at HF
    have HO2:Hid _:=HO.out x.nm x.ds
    have HU2:Hid _:=HU.out g1 g2
    generalize onI ps r x.nm x.ds=O at *
    simp only
    generalize unaI ps (g1,g2)=U at *
    obtain ⟨⟨o1,o2⟩,o3⟩:=O
    obtain ⟨⟨u1,u2⟩,u3⟩:=U
    simp only at HO2 HU2
    clear h hi HI hD HO HU
    cases hS:stB x.fl
    case true =>
      rw [stB] at hS
      clear HF HO2 HU2
      go_enter Tryz.func38,Tryz.ntmps38
      go_wp2_with (first
        | (go_at_call 92;refine (HR.out _ (by repeat (first|exact Below.refl _ _|refine Below.setCell ?_ (by simp;try omega) _|refine Below.alloc ?_ (by simp;try omega) _|refine Below.drew ?_))).mono ?_;rintro e w1 ⟨⟨sa,sk,so,rfl⟩,hb⟩;have ad:w1.heap[W.heap.size]?=some (.cells #[.int .i64 c,.int .i64 i] 24 (0,0)):=(hb.block (W.heap.size) (by first|omega|(simp;try omega))).trans (hkeep (halloc1 _ _));(try clear aB a0 a1 af aL aN);have aB:Hid _:=ad;obtain ⟨a0,a1,af,aL⟩:=rw2 ad;have aN:¬ W.heap.size=w1.heap.size:=(by omega);clear ad;have zd:w1.heap[W.heap.size+1]?=some (.cells #[.int .i64 0,.int .i64 0] 24 (0,0)):=(hb.block (W.heap.size+1) (by first|omega|(simp;try omega))).trans (halloc2 _ _ (by simp));(try clear zB z0 z1 zf zL zN);have zB:Hid _:=zd;obtain ⟨z0,z1,zf,zL⟩:=rw2 zd;have zN:¬ W.heap.size+1=w1.heap.size:=(by omega);clear zd;have Bw1:Hid (Below W.heap.size W w1):=bstep (by repeat (first|exact Below.refl _ _|refine Below.setCell ?_ (by simp;try omega) _|refine Below.alloc ?_ (by simp;try omega) _|refine Below.drew ?_)) hb;clear hb HR))
      exact bodyPost_ret (v:=idE ((0,0),23)) (by simp [results,Tryz.results38,go_sem,idE, *]) rfl ⟨rfl,(by repeat (first|refine Below.setCell ?_ (by simp;try omega) _|refine Below.alloc ?_ (by have:=Bw1.out.size;simp;try omega) _|refine Below.drew ?_|exact Bw1.out))⟩
    case false =>
      rw [stB] at hS
      by_cases hg:g3=0
      · subst hg
        clear HO2
        go_enter Tryz.func38,Tryz.ntmps38
        go_wp2_with (first
          | (go_at_call 92;refine (HR.out _ (by repeat (first|exact Below.refl _ _|refine Below.setCell ?_ (by simp;try omega) _|refine Below.alloc ?_ (by simp;try omega) _|refine Below.drew ?_))).mono ?_;rintro e w1 ⟨⟨sa,sk,so,rfl⟩,hb⟩;have ad:w1.heap[W.heap.size]?=some (.cells #[.int .i64 c,.int .i64 i] 24 (0,0)):=(hb.block (W.heap.size) (by first|omega|(simp;try omega))).trans (hkeep (halloc1 _ _));(try clear aB a0 a1 af aL aN);have aB:Hid _:=ad;obtain ⟨a0,a1,af,aL⟩:=rw2 ad;have aN:¬ W.heap.size=w1.heap.size:=(by omega);clear ad;have zd:w1.heap[W.heap.size+1]?=some (.cells #[.int .i64 0,.int .i64 0] 24 (0,0)):=(hb.block (W.heap.size+1) (by first|omega|(simp;try omega))).trans (halloc2 _ _ (by simp));(try clear zB z0 z1 zf zL zN);have zB:Hid _:=zd;obtain ⟨z0,z1,zf,zL⟩:=rw2 zd;have zN:¬ W.heap.size+1=w1.heap.size:=(by omega);clear zd;have Bw1:Hid (Below W.heap.size W w1):=bstep (by repeat (first|exact Below.refl _ _|refine Below.setCell ?_ (by simp;try omega) _|refine Below.alloc ?_ (by simp;try omega) _|refine Below.drew ?_)) hb;clear hb HR)
          | (go_at_call 22;refine (HF.out _ (by repeat (first|refine Below.setCell ?_ (by simp;try omega) _|refine Below.alloc ?_ (by have:=Bw1.out.size;simp;try omega) _|refine Below.drew ?_|exact Bw1.out))).mono ?_;rintro e w2 ⟨rfl,hb⟩;have ad:w2.heap[W.heap.size]?=some (.cells #[.int .i64 c,.int .i64 i] 24 (0,0)):=(hb.block (W.heap.size) (by first|omega|(simp;try omega))).trans (hkeep aB.out);(try clear aB a0 a1 af aL aN);have aB:Hid _:=ad;obtain ⟨a0,a1,af,aL⟩:=rw2 ad;have aN:¬ W.heap.size=w2.heap.size:=(by omega);clear ad;have zd:w2.heap[W.heap.size+1]?=some (.cells #[.int .i64 0,.int .i64 0] 24 (0,0)):=(hb.block (W.heap.size+1) (by first|omega|(simp;try omega))).trans (hkeep zB.out);(try clear zB z0 z1 zf zL zN);have zB:Hid _:=zd;obtain ⟨z0,z1,zf,zL⟩:=rw2 zd;have zN:¬ W.heap.size+1=w2.heap.size:=(by omega);clear zd;have vd:w2.heap[w1.heap.size]?=some (.cells #[.string x.nm,.string x.ds,.int .i64 x.fl,.int .i64 x.lo,.int .i64 x.st,.slice sa sk so] 47 (0,0)):=(hb.block (w1.heap.size) (by first|omega|(simp;try omega))).trans (halloc1 _ _);(try clear vB v0 v1 v2 v3 v4 v5 vf vL vN);have vB:Hid _:=vd;obtain ⟨v0,v1,v2,v3,v4,v5,vf,vL⟩:=rw6 vd;have vN:¬ w1.heap.size=w2.heap.size:=(by omega);clear vd;have Bw2:Hid (Below W.heap.size W w2):=bstep (by repeat (first|refine Below.setCell ?_ (by simp;try omega) _|refine Below.alloc ?_ (by have:=Bw1.out.size;simp;try omega) _|refine Below.drew ?_|exact Bw1.out)) hb;clear hb HF)
          | (go_at_call 94;refine (HU2.out _ (by repeat (first|refine Below.setCell ?_ (by simp;try omega) _|refine Below.alloc ?_ (by have:=Bw2.out.size;simp;try omega) _|refine Below.drew ?_|exact Bw2.out))).mono ?_;rintro e w3 ⟨rfl,hb⟩;have zd:w3.heap[W.heap.size+1]?=some (.cells #[.int .i64 0,.int .i64 0] 24 (0,0)):=(hb.block (W.heap.size+1) (by first|omega|(simp;try omega))).trans (hkeep zB.out);(try clear zB z0 z1 zf zL zN);have zB:Hid _:=zd;obtain ⟨z0,z1,zf,zL⟩:=rw2 zd;have zN:¬ W.heap.size+1=w3.heap.size:=(by omega);clear zd;have Bw3:Hid (Below W.heap.size W w3):=bstep (by repeat (first|refine Below.setCell ?_ (by simp;try omega) _|refine Below.alloc ?_ (by have:=Bw2.out.size;simp;try omega) _|refine Below.drew ?_|exact Bw2.out)) hb;clear hb HU2))
        exact bodyPost_ret (v:=idE ((u1,u2),u3)) (by simp [results,Tryz.results38,go_sem,idE, *]) rfl ⟨rfl,(by repeat (first|refine Below.setCell ?_ (by simp;try omega) _|refine Below.alloc ?_ (by have:=Bw3.out.size;simp;try omega) _|refine Below.drew ?_|exact Bw3.out))⟩
      · rw [if_neg hg]
        clear HU2
        go_enter Tryz.func38,Tryz.ntmps38
        go_wp2_with (first
          | (go_at_call 92;refine (HR.out _ (by repeat (first|exact Below.refl _ _|refine Below.setCell ?_ (by simp;try omega) _|refine Below.alloc ?_ (by simp;try omega) _|refine Below.drew ?_))).mono ?_;rintro e w1 ⟨⟨sa,sk,so,rfl⟩,hb⟩;have ad:w1.heap[W.heap.size]?=some (.cells #[.int .i64 c,.int .i64 i] 24 (0,0)):=(hb.block (W.heap.size) (by first|omega|(simp;try omega))).trans (hkeep (halloc1 _ _));(try clear aB a0 a1 af aL aN);have aB:Hid _:=ad;obtain ⟨a0,a1,af,aL⟩:=rw2 ad;have aN:¬ W.heap.size=w1.heap.size:=(by omega);clear ad;have zd:w1.heap[W.heap.size+1]?=some (.cells #[.int .i64 0,.int .i64 0] 24 (0,0)):=(hb.block (W.heap.size+1) (by first|omega|(simp;try omega))).trans (halloc2 _ _ (by simp));(try clear zB z0 z1 zf zL zN);have zB:Hid _:=zd;obtain ⟨z0,z1,zf,zL⟩:=rw2 zd;have zN:¬ W.heap.size+1=w1.heap.size:=(by omega);clear zd;have Bw1:Hid (Below W.heap.size W w1):=bstep (by repeat (first|exact Below.refl _ _|refine Below.setCell ?_ (by simp;try omega) _|refine Below.alloc ?_ (by simp;try omega) _|refine Below.drew ?_)) hb;clear hb HR)
          | (go_at_call 22;refine (HF.out _ (by repeat (first|refine Below.setCell ?_ (by simp;try omega) _|refine Below.alloc ?_ (by have:=Bw1.out.size;simp;try omega) _|refine Below.drew ?_|exact Bw1.out))).mono ?_;rintro e w2 ⟨rfl,hb⟩;have ad:w2.heap[W.heap.size]?=some (.cells #[.int .i64 c,.int .i64 i] 24 (0,0)):=(hb.block (W.heap.size) (by first|omega|(simp;try omega))).trans (hkeep aB.out);(try clear aB a0 a1 af aL aN);have aB:Hid _:=ad;obtain ⟨a0,a1,af,aL⟩:=rw2 ad;have aN:¬ W.heap.size=w2.heap.size:=(by omega);clear ad;have zd:w2.heap[W.heap.size+1]?=some (.cells #[.int .i64 0,.int .i64 0] 24 (0,0)):=(hb.block (W.heap.size+1) (by first|omega|(simp;try omega))).trans (hkeep zB.out);(try clear zB z0 z1 zf zL zN);have zB:Hid _:=zd;obtain ⟨z0,z1,zf,zL⟩:=rw2 zd;have zN:¬ W.heap.size+1=w2.heap.size:=(by omega);clear zd;have vd:w2.heap[w1.heap.size]?=some (.cells #[.string x.nm,.string x.ds,.int .i64 x.fl,.int .i64 x.lo,.int .i64 x.st,.slice sa sk so] 47 (0,0)):=(hb.block (w1.heap.size) (by first|omega|(simp;try omega))).trans (halloc1 _ _);(try clear vB v0 v1 v2 v3 v4 v5 vf vL vN);have vB:Hid _:=vd;obtain ⟨v0,v1,v2,v3,v4,v5,vf,vL⟩:=rw6 vd;have vN:¬ w1.heap.size=w2.heap.size:=(by omega);clear vd;have Bw2:Hid (Below W.heap.size W w2):=bstep (by repeat (first|refine Below.setCell ?_ (by simp;try omega) _|refine Below.alloc ?_ (by have:=Bw1.out.size;simp;try omega) _|refine Below.drew ?_|exact Bw1.out)) hb;clear hb HF)
          | (go_at_call 93;refine (HO2.out _ (by repeat (first|refine Below.setCell ?_ (by simp;try omega) _|refine Below.alloc ?_ (by have:=Bw2.out.size;simp;try omega) _|refine Below.drew ?_|exact Bw2.out))).mono ?_;rintro e w3 ⟨rfl,hb⟩;have zd:w3.heap[W.heap.size+1]?=some (.cells #[.int .i64 0,.int .i64 0] 24 (0,0)):=(hb.block (W.heap.size+1) (by first|omega|(simp;try omega))).trans (hkeep zB.out);(try clear zB z0 z1 zf zL zN);have zB:Hid _:=zd;obtain ⟨z0,z1,zf,zL⟩:=rw2 zd;have zN:¬ W.heap.size+1=w3.heap.size:=(by omega);clear zd;have Bw3:Hid (Below W.heap.size W w3):=bstep (by repeat (first|refine Below.setCell ?_ (by simp;try omega) _|refine Below.alloc ?_ (by have:=Bw2.out.size;simp;try omega) _|refine Below.drew ?_|exact Bw2.out)) hb;clear hb HO2))
        exact bodyPost_ret (v:=idE ((o1,o2),o3)) (by simp [results,Tryz.results38,go_sem,idE, *]) rfl ⟨rfl,(by repeat (first|refine Below.setCell ?_ (by simp;try omega) _|refine Below.alloc ?_ (by have:=Bw3.out.size;simp;try omega) _|refine Below.drew ?_|exact Bw3.out))⟩
set_option maxHeartbeats 2000000 in
theorem itf_c {b:Nat} {ps:List Plc} {W:World} (h:WAt b ps W) (hi:WI ps) (r c i:Int):Calls Tryz.prog 40 #[.pointer (some ⟨b,0,none⟩),.int .i64 r,.agg #[.int .i64 c,.int .i64 i]] W fun e w'=>e=.returned (idE (itfI ps r (c,i)))∧Below W.heap.size W w':=by
  have HI:∀ w,Below W.heap.size W w→WAt b ps w:=fun w hb=>h.below hb
  have HR:Hid (∀ w,Below W.heap.size W w→Calls Tryz.prog 92 #[.pointer (some ⟨b,0,none⟩),.int .i64 r,.agg #[.int .i64 c,.int .i64 i]] w fun e w'=>mthE (rfrI ps r (c,i)) e∧Below w.heap.size w w'):=fun w hb=>rfr_c (HI w hb) hi.pb r c i
  have HO:Hid (∀ nm ds w,Below W.heap.size W w→Calls Tryz.prog 93 #[.pointer (some ⟨b,0,none⟩),.int .i64 r,.string nm,.string ds] w fun e w'=>e=.returned (.tuple #[.agg #[.int .i64 (onI ps r nm ds).1.1,.int .i64 (onI ps r nm ds).1.2],.int .i64 (onI ps r nm ds).2])∧Below w.heap.size w w'):=fun nm ds w hb=>one_c (HI w hb) hi r nm ds
  have HU:Hid (∀ c i w,Below W.heap.size W w→Calls Tryz.prog 94 #[.pointer (some ⟨b,0,none⟩),.agg #[.int .i64 c,.int .i64 i]] w fun e w'=>e=.returned (.tuple #[.agg #[.int .i64 (unaI ps (c,i)).1.1,.int .i64 (unaI ps (c,i)).1.2],.int .i64 (unaI ps (c,i)).2])∧Below w.heap.size w w'):=fun c i w hb=>una_c (HI w hb) hi.pb c i
  have HF:Hid (∀ nm ds fl lo st sa sk so w,Below W.heap.size W w→Calls Tryz.prog 97 #[.pointer (some ⟨b,0,none⟩),.int .i64 r,.agg #[.string nm,.string ds,.int .i64 fl,.int .i64 lo,.int .i64 st,.slice sa sk so]] w fun e w'=>e=.returned (idB (uchI ps nm ds r))∧Below w.heap.size w w'):=fun nm ds fl lo st sa sk so w hb=>uch_c (HI w hb) hi r nm ds fl lo st sa sk so
  have HS:Hid (∀ c i w,Below W.heap.size W w→Calls Tryz.prog 98 #[.pointer (some ⟨b,0,none⟩),.agg #[.int .i64 c,.int .i64 i],.int .i64 1] w fun e w'=>e=.returned (.bool (hasS ps c i 1))∧Below w.heap.size w w'):=fun c i w hb=>chS_c (HI w hb) hi.pb c i 1
  unfold itfI
  cases hD:rfrI ps r (c,i) with
  | error x =>
    have hx:x≠0:=by rcases rfr_err hD with rfl|rfl <;> decide
    rw [hD] at HR
    simp only [mthE] at HR
    clear h hi HI hD HO HU HF HS
    go_enter Tryz.func40,Tryz.ntmps40
    go_wp2_with (first
      | (go_at_call 92;refine (HR.out _ (by repeat (first|exact Below.refl _ _|refine Below.setCell ?_ (by simp;try omega) _|refine Below.alloc ?_ (by simp;try omega) _|refine Below.drew ?_))).mono ?_;rintro e w1 ⟨rfl,hb⟩;have ad:w1.heap[W.heap.size]?=some (.cells #[.int .i64 c,.int .i64 i] 24 (0,0)):=(hb.block (W.heap.size) (by first|omega|(simp;try omega))).trans (hkeep (halloc1 _ _));(try clear aB a0 a1 af aL aN);have aB:Hid _:=ad;obtain ⟨a0,a1,af,aL⟩:=rw2 ad;have aN:¬ W.heap.size=w1.heap.size:=(by omega);clear ad;have zd:w1.heap[W.heap.size+1]?=some (.cells #[.int .i64 0,.int .i64 0] 24 (0,0)):=(hb.block (W.heap.size+1) (by first|omega|(simp;try omega))).trans (halloc2 _ _ (by simp));(try clear zB z0 z1 zf zL zN);have zB:Hid _:=zd;obtain ⟨z0,z1,zf,zL⟩:=rw2 zd;have zN:¬ W.heap.size+1=w1.heap.size:=(by omega);clear zd;have Bw1:Hid (Below W.heap.size W w1):=bstep (by repeat (first|exact Below.refl _ _|refine Below.setCell ?_ (by simp;try omega) _|refine Below.alloc ?_ (by simp;try omega) _|refine Below.drew ?_)) hb;clear hb HR))
    exact bodyPost_ret (v:=idE ((0,0),x)) (by simp [results,Tryz.results40,go_sem,idE, *]) rfl ⟨rfl,(by repeat (first|refine Below.setCell ?_ (by simp;try omega) _|refine Below.alloc ?_ (by have:=Bw1.out.size;simp;try omega) _|refine Below.drew ?_|exact Bw1.out))⟩
  | ok x =>
    rw [hD] at HR
    simp only [mthE] at HR
    simp only
    have HF2:Hid (∀ fl lo st sa sk so w,Below W.heap.size W w→Calls Tryz.prog 97 #[.pointer (some ⟨b,0,none⟩),.int .i64 r,.agg #[.string x.nm,.string x.ds,.int .i64 fl,.int .i64 lo,.int .i64 st,.slice sa sk so]] w fun e w'=>e=.returned (idB (uchI ps x.nm x.ds r))∧Below w.heap.size w w'):=HF.out x.nm x.ds
    clear HF
    generalize uchI ps x.nm x.ds r=G at *
    obtain ⟨⟨g1,g2⟩,g3⟩:=G
    simp only [idB] at HF2
    have HO2:Hid _:=HO.out x.nm x.ds
    have HU2:Hid _:=HU.out g1 g2
    have HS2:Hid _:=HS.out g1 g2
    generalize onI ps r x.nm x.ds=O at *
    simp only
    generalize unaI ps (g1,g2)=U at *
    generalize hasS ps g1 g2 1=S at *
    obtain ⟨⟨o1,o2⟩,o3⟩:=O
    obtain ⟨⟨u1,u2⟩,u3⟩:=U
    simp only at HO2 HU2 HS2
    clear h hi HI hD HO HU HS
    cases hS:hasI x.fl 10
    case true =>
      rw [hasI] at hS
      clear HF2 HO2 HU2 HS2
      go_enter Tryz.func40,Tryz.ntmps40
      go_wp2_with (first
        | (go_at_call 92;refine (HR.out _ (by repeat (first|exact Below.refl _ _|refine Below.setCell ?_ (by simp;try omega) _|refine Below.alloc ?_ (by simp;try omega) _|refine Below.drew ?_))).mono ?_;rintro e w1 ⟨⟨sa,sk,so,rfl⟩,hb⟩;have ad:w1.heap[W.heap.size]?=some (.cells #[.int .i64 c,.int .i64 i] 24 (0,0)):=(hb.block (W.heap.size) (by first|omega|(simp;try omega))).trans (hkeep (halloc1 _ _));(try clear aB a0 a1 af aL aN);have aB:Hid _:=ad;obtain ⟨a0,a1,af,aL⟩:=rw2 ad;have aN:¬ W.heap.size=w1.heap.size:=(by omega);clear ad;have zd:w1.heap[W.heap.size+1]?=some (.cells #[.int .i64 0,.int .i64 0] 24 (0,0)):=(hb.block (W.heap.size+1) (by first|omega|(simp;try omega))).trans (halloc2 _ _ (by simp));(try clear zB z0 z1 zf zL zN);have zB:Hid _:=zd;obtain ⟨z0,z1,zf,zL⟩:=rw2 zd;have zN:¬ W.heap.size+1=w1.heap.size:=(by omega);clear zd;have Bw1:Hid (Below W.heap.size W w1):=bstep (by repeat (first|exact Below.refl _ _|refine Below.setCell ?_ (by simp;try omega) _|refine Below.alloc ?_ (by simp;try omega) _|refine Below.drew ?_)) hb;clear hb HR))
      exact bodyPost_ret (v:=idE ((0,0),23)) (by simp [results,Tryz.results40,go_sem,idE, *]) rfl ⟨rfl,(by repeat (first|refine Below.setCell ?_ (by simp;try omega) _|refine Below.alloc ?_ (by have:=Bw1.out.size;simp;try omega) _|refine Below.drew ?_|exact Bw1.out))⟩
    case false =>
      rw [hasI] at hS
      cases g3
      case false =>
        clear HU2 HS2
        go_enter Tryz.func40,Tryz.ntmps40
        go_wp2_with (first
          | (go_at_call 92;refine (HR.out _ (by repeat (first|exact Below.refl _ _|refine Below.setCell ?_ (by simp;try omega) _|refine Below.alloc ?_ (by simp;try omega) _|refine Below.drew ?_))).mono ?_;rintro e w1 ⟨⟨sa,sk,so,rfl⟩,hb⟩;have ad:w1.heap[W.heap.size]?=some (.cells #[.int .i64 c,.int .i64 i] 24 (0,0)):=(hb.block (W.heap.size) (by first|omega|(simp;try omega))).trans (hkeep (halloc1 _ _));(try clear aB a0 a1 af aL aN);have aB:Hid _:=ad;obtain ⟨a0,a1,af,aL⟩:=rw2 ad;have aN:¬ W.heap.size=w1.heap.size:=(by omega);clear ad;have zd:w1.heap[W.heap.size+1]?=some (.cells #[.int .i64 0,.int .i64 0] 24 (0,0)):=(hb.block (W.heap.size+1) (by first|omega|(simp;try omega))).trans (halloc2 _ _ (by simp));(try clear zB z0 z1 zf zL zN);have zB:Hid _:=zd;obtain ⟨z0,z1,zf,zL⟩:=rw2 zd;have zN:¬ W.heap.size+1=w1.heap.size:=(by omega);clear zd;have Bw1:Hid (Below W.heap.size W w1):=bstep (by repeat (first|exact Below.refl _ _|refine Below.setCell ?_ (by simp;try omega) _|refine Below.alloc ?_ (by simp;try omega) _|refine Below.drew ?_)) hb;clear hb HR)
          | (go_at_call 97;refine (HF2.out _ _ _ _ _ _ _ (by repeat (first|refine Below.setCell ?_ (by simp;try omega) _|refine Below.alloc ?_ (by have:=Bw1.out.size;simp;try omega) _|refine Below.drew ?_|exact Bw1.out))).mono ?_;rintro e w2 ⟨rfl,hb⟩;have ad:w2.heap[W.heap.size]?=some (.cells #[.int .i64 c,.int .i64 i] 24 (0,0)):=(hb.block (W.heap.size) (by first|omega|(simp;try omega))).trans (hkeep aB.out);(try clear aB a0 a1 af aL aN);have aB:Hid _:=ad;obtain ⟨a0,a1,af,aL⟩:=rw2 ad;have aN:¬ W.heap.size=w2.heap.size:=(by omega);clear ad;have zd:w2.heap[W.heap.size+1]?=some (.cells #[.int .i64 0,.int .i64 0] 24 (0,0)):=(hb.block (W.heap.size+1) (by first|omega|(simp;try omega))).trans (hkeep zB.out);(try clear zB z0 z1 zf zL zN);have zB:Hid _:=zd;obtain ⟨z0,z1,zf,zL⟩:=rw2 zd;have zN:¬ W.heap.size+1=w2.heap.size:=(by omega);clear zd;have vd:w2.heap[w1.heap.size]?=some (.cells #[.string x.nm,.string x.ds,.int .i64 x.fl,.int .i64 x.lo,.int .i64 x.st,.slice sa sk so] 47 (0,0)):=(hb.block (w1.heap.size) (by first|omega|(simp;try omega))).trans (halloc1 _ _);(try clear vB v0 v1 v2 v3 v4 v5 vf vL vN);have vB:Hid _:=vd;obtain ⟨v0,v1,v2,v3,v4,v5,vf,vL⟩:=rw6 vd;have vN:¬ w1.heap.size=w2.heap.size:=(by omega);clear vd;have Bw2:Hid (Below W.heap.size W w2):=bstep (by repeat (first|refine Below.setCell ?_ (by simp;try omega) _|refine Below.alloc ?_ (by have:=Bw1.out.size;simp;try omega) _|refine Below.drew ?_|exact Bw1.out)) hb;clear hb HF2)
          | (go_at_call 93;refine (HO2.out _ (by repeat (first|refine Below.setCell ?_ (by simp;try omega) _|refine Below.alloc ?_ (by have:=Bw2.out.size;simp;try omega) _|refine Below.drew ?_|exact Bw2.out))).mono ?_;rintro e w3 ⟨rfl,hb⟩;have zd:w3.heap[W.heap.size+1]?=some (.cells #[.int .i64 0,.int .i64 0] 24 (0,0)):=(hb.block (W.heap.size+1) (by first|omega|(simp;try omega))).trans (hkeep zB.out);(try clear zB z0 z1 zf zL zN);have zB:Hid _:=zd;obtain ⟨z0,z1,zf,zL⟩:=rw2 zd;have zN:¬ W.heap.size+1=w3.heap.size:=(by omega);clear zd;have Bw3:Hid (Below W.heap.size W w3):=bstep (by repeat (first|refine Below.setCell ?_ (by simp;try omega) _|refine Below.alloc ?_ (by have:=Bw2.out.size;simp;try omega) _|refine Below.drew ?_|exact Bw2.out)) hb;clear hb HO2))
        exact bodyPost_ret (v:=idE ((o1,o2),o3)) (by simp [results,Tryz.results40,go_sem,idE, *]) rfl ⟨rfl,(by repeat (first|refine Below.setCell ?_ (by simp;try omega) _|refine Below.alloc ?_ (by have:=Bw3.out.size;simp;try omega) _|refine Below.drew ?_|exact Bw3.out))⟩
      case true =>
        clear HO2
        cases S
        case false =>
          clear HU2
          go_enter Tryz.func40,Tryz.ntmps40
          go_wp2_with (first
            | (go_at_call 92;refine (HR.out _ (by repeat (first|exact Below.refl _ _|refine Below.setCell ?_ (by simp;try omega) _|refine Below.alloc ?_ (by simp;try omega) _|refine Below.drew ?_))).mono ?_;rintro e w1 ⟨⟨sa,sk,so,rfl⟩,hb⟩;have ad:w1.heap[W.heap.size]?=some (.cells #[.int .i64 c,.int .i64 i] 24 (0,0)):=(hb.block (W.heap.size) (by first|omega|(simp;try omega))).trans (hkeep (halloc1 _ _));(try clear aB a0 a1 af aL aN);have aB:Hid _:=ad;obtain ⟨a0,a1,af,aL⟩:=rw2 ad;have aN:¬ W.heap.size=w1.heap.size:=(by omega);clear ad;have zd:w1.heap[W.heap.size+1]?=some (.cells #[.int .i64 0,.int .i64 0] 24 (0,0)):=(hb.block (W.heap.size+1) (by first|omega|(simp;try omega))).trans (halloc2 _ _ (by simp));(try clear zB z0 z1 zf zL zN);have zB:Hid _:=zd;obtain ⟨z0,z1,zf,zL⟩:=rw2 zd;have zN:¬ W.heap.size+1=w1.heap.size:=(by omega);clear zd;have Bw1:Hid (Below W.heap.size W w1):=bstep (by repeat (first|exact Below.refl _ _|refine Below.setCell ?_ (by simp;try omega) _|refine Below.alloc ?_ (by simp;try omega) _|refine Below.drew ?_)) hb;clear hb HR)
            | (go_at_call 97;refine (HF2.out _ _ _ _ _ _ _ (by repeat (first|refine Below.setCell ?_ (by simp;try omega) _|refine Below.alloc ?_ (by have:=Bw1.out.size;simp;try omega) _|refine Below.drew ?_|exact Bw1.out))).mono ?_;rintro e w2 ⟨rfl,hb⟩;have ad:w2.heap[W.heap.size]?=some (.cells #[.int .i64 c,.int .i64 i] 24 (0,0)):=(hb.block (W.heap.size) (by first|omega|(simp;try omega))).trans (hkeep aB.out);(try clear aB a0 a1 af aL aN);have aB:Hid _:=ad;obtain ⟨a0,a1,af,aL⟩:=rw2 ad;have aN:¬ W.heap.size=w2.heap.size:=(by omega);clear ad;have zd:w2.heap[W.heap.size+1]?=some (.cells #[.int .i64 0,.int .i64 0] 24 (0,0)):=(hb.block (W.heap.size+1) (by first|omega|(simp;try omega))).trans (hkeep zB.out);(try clear zB z0 z1 zf zL zN);have zB:Hid _:=zd;obtain ⟨z0,z1,zf,zL⟩:=rw2 zd;have zN:¬ W.heap.size+1=w2.heap.size:=(by omega);clear zd;have vd:w2.heap[w1.heap.size]?=some (.cells #[.string x.nm,.string x.ds,.int .i64 x.fl,.int .i64 x.lo,.int .i64 x.st,.slice sa sk so] 47 (0,0)):=(hb.block (w1.heap.size) (by first|omega|(simp;try omega))).trans (halloc1 _ _);(try clear vB v0 v1 v2 v3 v4 v5 vf vL vN);have vB:Hid _:=vd;obtain ⟨v0,v1,v2,v3,v4,v5,vf,vL⟩:=rw6 vd;have vN:¬ w1.heap.size=w2.heap.size:=(by omega);clear vd;have Bw2:Hid (Below W.heap.size W w2):=bstep (by repeat (first|refine Below.setCell ?_ (by simp;try omega) _|refine Below.alloc ?_ (by have:=Bw1.out.size;simp;try omega) _|refine Below.drew ?_|exact Bw1.out)) hb;clear hb HF2)
            | (go_at_call 98;refine (HS2.out _ (by repeat (first|refine Below.setCell ?_ (by simp;try omega) _|refine Below.alloc ?_ (by have:=Bw2.out.size;simp;try omega) _|refine Below.drew ?_|exact Bw2.out))).mono ?_;rintro e w3 ⟨rfl,hb⟩;have zd:w3.heap[W.heap.size+1]?=some (.cells #[.int .i64 0,.int .i64 0] 24 (0,0)):=(hb.block (W.heap.size+1) (by first|omega|(simp;try omega))).trans (hkeep zB.out);(try clear zB z0 z1 zf zL zN);have zB:Hid _:=zd;obtain ⟨z0,z1,zf,zL⟩:=rw2 zd;have zN:¬ W.heap.size+1=w3.heap.size:=(by omega);clear zd;have Bw3:Hid (Below W.heap.size W w3):=bstep (by repeat (first|refine Below.setCell ?_ (by simp;try omega) _|refine Below.alloc ?_ (by have:=Bw2.out.size;simp;try omega) _|refine Below.drew ?_|exact Bw2.out)) hb;clear hb HS2))
          exact bodyPost_ret (v:=idE ((0,0),22)) (by simp [results,Tryz.results40,go_sem,idE, *]) rfl ⟨rfl,(by repeat (first|refine Below.setCell ?_ (by simp;try omega) _|refine Below.alloc ?_ (by have:=Bw3.out.size;simp;try omega) _|refine Below.drew ?_|exact Bw3.out))⟩
        case true =>
          go_enter Tryz.func40,Tryz.ntmps40
          go_wp2_with (first
            | (go_at_call 92;refine (HR.out _ (by repeat (first|exact Below.refl _ _|refine Below.setCell ?_ (by simp;try omega) _|refine Below.alloc ?_ (by simp;try omega) _|refine Below.drew ?_))).mono ?_;rintro e w1 ⟨⟨sa,sk,so,rfl⟩,hb⟩;have ad:w1.heap[W.heap.size]?=some (.cells #[.int .i64 c,.int .i64 i] 24 (0,0)):=(hb.block (W.heap.size) (by first|omega|(simp;try omega))).trans (hkeep (halloc1 _ _));(try clear aB a0 a1 af aL aN);have aB:Hid _:=ad;obtain ⟨a0,a1,af,aL⟩:=rw2 ad;have aN:¬ W.heap.size=w1.heap.size:=(by omega);clear ad;have zd:w1.heap[W.heap.size+1]?=some (.cells #[.int .i64 0,.int .i64 0] 24 (0,0)):=(hb.block (W.heap.size+1) (by first|omega|(simp;try omega))).trans (halloc2 _ _ (by simp));(try clear zB z0 z1 zf zL zN);have zB:Hid _:=zd;obtain ⟨z0,z1,zf,zL⟩:=rw2 zd;have zN:¬ W.heap.size+1=w1.heap.size:=(by omega);clear zd;have Bw1:Hid (Below W.heap.size W w1):=bstep (by repeat (first|exact Below.refl _ _|refine Below.setCell ?_ (by simp;try omega) _|refine Below.alloc ?_ (by simp;try omega) _|refine Below.drew ?_)) hb;clear hb HR)
            | (go_at_call 97;refine (HF2.out _ _ _ _ _ _ _ (by repeat (first|refine Below.setCell ?_ (by simp;try omega) _|refine Below.alloc ?_ (by have:=Bw1.out.size;simp;try omega) _|refine Below.drew ?_|exact Bw1.out))).mono ?_;rintro e w2 ⟨rfl,hb⟩;have ad:w2.heap[W.heap.size]?=some (.cells #[.int .i64 c,.int .i64 i] 24 (0,0)):=(hb.block (W.heap.size) (by first|omega|(simp;try omega))).trans (hkeep aB.out);(try clear aB a0 a1 af aL aN);have aB:Hid _:=ad;obtain ⟨a0,a1,af,aL⟩:=rw2 ad;have aN:¬ W.heap.size=w2.heap.size:=(by omega);clear ad;have zd:w2.heap[W.heap.size+1]?=some (.cells #[.int .i64 0,.int .i64 0] 24 (0,0)):=(hb.block (W.heap.size+1) (by first|omega|(simp;try omega))).trans (hkeep zB.out);(try clear zB z0 z1 zf zL zN);have zB:Hid _:=zd;obtain ⟨z0,z1,zf,zL⟩:=rw2 zd;have zN:¬ W.heap.size+1=w2.heap.size:=(by omega);clear zd;have vd:w2.heap[w1.heap.size]?=some (.cells #[.string x.nm,.string x.ds,.int .i64 x.fl,.int .i64 x.lo,.int .i64 x.st,.slice sa sk so] 47 (0,0)):=(hb.block (w1.heap.size) (by first|omega|(simp;try omega))).trans (halloc1 _ _);(try clear vB v0 v1 v2 v3 v4 v5 vf vL vN);have vB:Hid _:=vd;obtain ⟨v0,v1,v2,v3,v4,v5,vf,vL⟩:=rw6 vd;have vN:¬ w1.heap.size=w2.heap.size:=(by omega);clear vd;have Bw2:Hid (Below W.heap.size W w2):=bstep (by repeat (first|refine Below.setCell ?_ (by simp;try omega) _|refine Below.alloc ?_ (by have:=Bw1.out.size;simp;try omega) _|refine Below.drew ?_|exact Bw1.out)) hb;clear hb HF2)
            | (go_at_call 98;refine (HS2.out _ (by repeat (first|refine Below.setCell ?_ (by simp;try omega) _|refine Below.alloc ?_ (by have:=Bw2.out.size;simp;try omega) _|refine Below.drew ?_|exact Bw2.out))).mono ?_;rintro e w3 ⟨rfl,hb⟩;have zd:w3.heap[W.heap.size+1]?=some (.cells #[.int .i64 0,.int .i64 0] 24 (0,0)):=(hb.block (W.heap.size+1) (by first|omega|(simp;try omega))).trans (hkeep zB.out);(try clear zB z0 z1 zf zL zN);have zB:Hid _:=zd;obtain ⟨z0,z1,zf,zL⟩:=rw2 zd;have zN:¬ W.heap.size+1=w3.heap.size:=(by omega);clear zd;have yd:w3.heap[w2.heap.size]?=some (.cells #[.int .i64 g1,.int .i64 g2] 24 (0,0)):=(hb.block (w2.heap.size) (by first|omega|(simp;try omega))).trans (halloc1 _ _);(try clear yB y0 y1 yf yL yN);have yB:Hid _:=yd;obtain ⟨y0,y1,yf,yL⟩:=rw2 yd;have yN:¬ w2.heap.size=w3.heap.size:=(by omega);clear yd;have Bw3:Hid (Below W.heap.size W w3):=bstep (by repeat (first|refine Below.setCell ?_ (by simp;try omega) _|refine Below.alloc ?_ (by have:=Bw2.out.size;simp;try omega) _|refine Below.drew ?_|exact Bw2.out)) hb;clear hb HS2)
            | (go_at_call 94;refine (HU2.out _ Bw3.out).mono ?_;rintro e w4 ⟨rfl,hb⟩;have zd:w4.heap[W.heap.size+1]?=some (.cells #[.int .i64 0,.int .i64 0] 24 (0,0)):=(hb.block (W.heap.size+1) (by first|omega|(simp;try omega))).trans (zB.out);(try clear zB z0 z1 zf zL zN);have zB:Hid _:=zd;obtain ⟨z0,z1,zf,zL⟩:=rw2 zd;have zN:¬ W.heap.size+1=w4.heap.size:=(by omega);clear zd;have Bw4:Hid (Below W.heap.size W w4):=bstep Bw3.out hb;clear hb HU2))
          exact bodyPost_ret (v:=idE ((u1,u2),u3)) (by simp [results,Tryz.results40,go_sem,idE, *]) rfl ⟨rfl,(by repeat (first|refine Below.setCell ?_ (by simp;try omega) _|refine Below.alloc ?_ (by have:=Bw4.out.size;simp;try omega) _|refine Below.drew ?_|exact Bw4.out))⟩
theorem kp2 {V w:World} {N n:Nat} {t:TypeId} {a0 a1:Value} (hb:Below N V w) (hn:n<N) (h:V.heap[n]?=some (.cells #[a0,a1] t (0,0))):Hid (w.heap[n]?=some (.cells #[a0,a1] t (0,0)))∧w.cell? ⟨n,0,none⟩=some a0∧w.cell? ⟨n,1,none⟩=some a1∧(∀ k,w.frozen? ⟨n,k,none⟩=false)∧n<w.heap.size∧¬ n=w.heap.size:=by
  have h2:=(hb.block n hn).trans h
  obtain ⟨c0,c1,f,l⟩:=rw2 h2
  exact ⟨h2,c0,c1,f,l,by omega⟩
theorem kp6 {V w:World} {N n:Nat} {t:TypeId} {a0 a1 a2 a3 a4 a5:Value} (hb:Below N V w) (hn:n<N) (h:V.heap[n]?=some (.cells #[a0,a1,a2,a3,a4,a5] t (0,0))):Hid (w.heap[n]?=some (.cells #[a0,a1,a2,a3,a4,a5] t (0,0)))∧w.cell? ⟨n,0,none⟩=some a0∧w.cell? ⟨n,1,none⟩=some a1∧w.cell? ⟨n,2,none⟩=some a2∧w.cell? ⟨n,3,none⟩=some a3∧w.cell? ⟨n,4,none⟩=some a4∧w.cell? ⟨n,5,none⟩=some a5∧(∀ k,w.frozen? ⟨n,k,none⟩=false)∧n<w.heap.size∧¬ n=w.heap.size:=by
  have h2:=(hb.block n hn).trans h
  obtain ⟨c0,c1,c2,c3,c4,c5,f,l⟩:=rw6 h2
  exact ⟨h2,c0,c1,c2,c3,c4,c5,f,l,by omega⟩
variable {ps:List Plc} {p:Plc}
theorem has10c (f:Int):hasI f 10=(hasI f 2||hasI f 8):=by
  have e10:bits .and .i64 f 10=IntKind.wrap .i64 (((BitVec.ofInt 64 f).toNat &&& 10:Nat):Int):=rfl
  have e2:bits .and .i64 f 2=IntKind.wrap .i64 (((BitVec.ofInt 64 f).toNat &&& 2:Nat):Int):=rfl
  have e8:bits .and .i64 f 8=IntKind.wrap .i64 (((BitVec.ofInt 64 f).toNat &&& 8:Nat):Int):=rfl
  have h:(BitVec.ofInt 64 f).toNat &&& 10=((BitVec.ofInt 64 f).toNat &&& 2) ||| ((BitVec.ofInt 64 f).toNat &&& 8):=by
    rw [← Nat.and_or_distrib_left];rfl
  unfold hasI
  rw [e10,e2,e8,h]
  have h2:(BitVec.ofInt 64 f).toNat &&& 2≤2:=Nat.and_le_right
  have h2':((BitVec.ofInt 64 f).toNat &&& 2) &&& 2=(BitVec.ofInt 64 f).toNat &&& 2:=by rw [Nat.and_assoc,Nat.and_self]
  have h8:(BitVec.ofInt 64 f).toNat &&& 8≤8:=Nat.and_le_right
  have h8':((BitVec.ofInt 64 f).toNat &&& 8) &&& 8=(BitVec.ofInt 64 f).toNat &&& 8:=by rw [Nat.and_assoc,Nat.and_self]
  generalize (BitVec.ofInt 64 f).toNat &&& 2=a at *
  generalize (BitVec.ofInt 64 f).toNat &&& 8=b at *
  have ha:a=0∨a=2:=by
    have:a=0∨a=1∨a=2:=by omega
    rcases this with rfl|rfl|rfl
    · exact .inl rfl
    · exact absurd h2' (by decide)
    · exact .inr rfl
  have hb:b=0∨b=8:=by
    have:b=0∨b=1∨b=2∨b=3∨b=4∨b=5∨b=6∨b=7∨b=8:=by omega
    rcases this with rfl|rfl|rfl|rfl|rfl|rfl|rfl|rfl|rfl
    · exact .inl rfl
    all_goals first|exact .inr rfl|exact absurd h8' (by decide)
  rcases ha with rfl|rfl <;> rcases hb with rfl|rfl <;> decide
theorem mths_eachp {iface:Bool} {all:List Mth}:∀ {l:List Mth} {k:Nat},mthsB iface all l k=true→∀ m∈l,mthB m iface=true
  | [],_,_,m,hm=>by cases hm
  | x::r,k,h,m,hm=>by
    rw [mthsB,Bool.and_eq_true,Bool.and_eq_true] at h
    rcases List.mem_cons.1 hm with rfl|hm
    · exact h.1.1
    · exact mths_eachp h.2 m hm
def UnqM (ps:List Plc):Prop:=∀ q∈ps,∀ (i:Nat) (m:HM),q.c.ms[i]?=some m→findH m.nm m.ds q.c.ms 0=(i:Int)
theorem find_map (nm ds:ByteArray):∀ (l:List Mth) (k:Nat),findH nm ds (l.map hmOf) k=findM nm ds l k
  | [],_=>rfl
  | m::r,k=>by
    rw [List.map_cons,findH,findM,find_map nm ds r (k+1)]
    rfl
theorem mths_find {iface:Bool} {all:List Mth}:∀ {l:List Mth} {k:Nat},mthsB iface all l k=true→∀ (i:Nat) (m:Mth),l[i]?=some m→findM m.nm m.ds all 0=((k+i:Nat):Int)
  | [],_,_,_,_,hm=>by simp at hm
  | x::r,k,h,i,m,hm=>by
    rw [mthsB,Bool.and_eq_true,Bool.and_eq_true,beq_iff_eq] at h
    cases i with
    | zero =>
      simp only [List.getElem?_cons_zero,Option.some.injEq] at hm
      subst hm
      exact h.1.2
    | succ i =>
      rw [List.getElem?_cons_succ] at hm
      have:=mths_find h.2 i m hm
      rw [this];congr 1;omega
theorem unqObj:(objMs.zipIdx.all fun p=>findH p.1.nm p.1.ds objMs 0 == (p.2:Int))=true:=by kernel_rfl
theorem unqM3:UnqM P3:=by
  intro q hq i m hm
  simp only [P3,List.mem_cons,List.not_mem_nil,or_false] at hq
  rcases hq with rfl|rfl|rfl
  · have:=List.all_eq_true.1 unqObj (m,i) (List.mem_zipIdx_iff_getElem?.2 hm)
    exact beq_iff_eq.1 this
  · simp [cloH] at hm
  · simp [serH] at hm
theorem unqM_wld (l:List Cls) (hl:∀ c∈l,ClsW c):UnqM (wld l):=by
  refine wld_ind unqM3 (fun ps c h _=>?_) l hl
  cases hd:defN ps c with
  | error e=>exact h
  | ok p =>
    obtain ⟨hB,_,_,s,l,_,_,rfl⟩:=def_ok hd
    intro q hq i m hm
    rcases List.mem_append.1 (show q∈ps++[_] from hq) with hq|hq
    · exact h q hq i m hm
    · rw [List.mem_singleton] at hq
      subst hq
      have hm2:(c.ms.map hmOf)[i]?=some m:=hm
      rw [List.getElem?_map] at hm2
      obtain ⟨m0,hm0,rfl⟩:=Option.map_eq_some_iff.1 hm2
      rw [clsB,Bool.and_eq_true] at hB
      have:=mths_find hB.2 i m0 hm0
      show findH m0.nm m0.ds (c.ms.map hmOf) 0=(i:Int)
      rw [find_map,this,Nat.zero_add]
theorem find_congr {nm ds nm2 ds2:ByteArray} (h1:nm.toList=nm2.toList) (h2:ds.toList=ds2.toList):∀ (l:List HM) (k:Nat),findH nm ds l k=findH nm2 ds2 l k
  | [],_=>rfl
  | m::r,k=>by rw [findH,findH,h1,h2,find_congr h1 h2 r (k+1)]
theorem UnqM.fnd {ps:List Plc} (h:UnqM ps) {c i:Int} {m:HM} (hm:methI ps c i=some m) {nm ds:ByteArray} (h1:m.nm.toList=nm.toList) (h2:m.ds.toList=ds.toList):fndI ps c nm ds=(i,0):=by
  obtain ⟨k,q,rfl,hq,hp,hm2⟩:=meth_plc hm
  rw [methP] at hm2
  split at hm2
  · rename_i hi
    have:=h q (List.mem_of_getElem? hq) i.toNat m hm2
    have e:findH nm ds q.c.ms 0=i:=by rw [← find_congr h1 h2,this];omega
    rw [fndI,hp]
    simp only [e]
    rw [if_neg (by omega)]
  · cases hm2
theorem extI_split {ps:List Plc} {a b:Int} (h:extI ps a b=true):∃ i j:Nat,a=(i:Int)∧b=(j:Int)∧i<ps.length∧j<ps.length∧extB (ps.map nd) i j=true:=by
  rw [extI,Bool.and_eq_true,Bool.and_eq_true] at h
  obtain ⟨⟨h1,h2⟩,h3⟩:=h
  rcases plcI_cases ps a with ⟨e,_⟩|⟨i,q,rfl,hq,_⟩
  · rw [e] at h1;cases h1
  · rcases plcI_cases ps b with ⟨e,_⟩|⟨j,r,rfl,hr,_⟩
    · rw [e] at h2;cases h2
    · exact ⟨i,j,rfl,rfl,(List.getElem?_eq_some_iff.1 hq).1,(List.getElem?_eq_some_iff.1 hr).1,h3⟩
theorem extI_le {ps:List Plc} (hW:WI ps) {a b:Int} (h1:extI ps a b=true):b≤a:=by
  obtain ⟨i,j,rfl,rfl,hi,hj,e1⟩:=extI_split h1
  have:=ext_le hW.wo (by simpa using hi) e1
  omega
theorem pl_facts {ps:List Plc} {x y:Int×Int} (h:plI ps x y=true):∃ mx my,methI ps x.1 x.2=some mx∧methI ps y.1 y.2=some my∧mx.nm.toList=my.nm.toList∧mx.ds.toList=my.ds.toList∧stB mx.fl=false∧stB my.fl=false∧x.1≠y.1∧ifcI ps x.1=false∧extI ps x.1 y.1=true:=by
  rw [plI] at h
  cases hx:methI ps x.1 x.2 with
  | none=>rw [hx] at h;cases h
  | some mx =>
    cases hy:methI ps y.1 y.2 with
    | none=>rw [hx,hy] at h;cases h
    | some my =>
      rw [hx,hy] at h
      simp only [plnB,freB,bloB,Bool.and_eq_true,Bool.not_eq_true',beq_iff_eq,beq_eq_false_iff_ne] at h
      obtain ⟨⟨⟨⟨⟨⟨h1,h2⟩,h3⟩,h4⟩,h5⟩,_⟩,_⟩:=h
      exact ⟨mx,my,rfl,rfl,h3,h4,h1.1,h2.1,h5.1.1,h5.1.2,h5.2⟩
theorem ch_desc {ns:List Nd} (h:WO ns) (a:Nat) (ha:a<ns.length):(chL ns a).Pairwise (· > ·):=by
  refine ch_ind h (P:=fun k=>(chL ns k).Pairwise (· > ·)) ?_ (fun k hk h0 hlt ih=>?_) a ha
  · rw [chL_zero];exact List.pairwise_singleton _ _
  · rw [chL_cons h hk h0]
    refine List.pairwise_cons.2 ⟨fun b hb=>?_,ih⟩
    have:=ch_le h _ (by omega) b hb
    omega
def SndI (ps:List Plc):Prop:=∀ q∈ps,∀ m∈q.c.ms,∃ n,chkM m.fl (ifB q.c.fl) n=0
theorem sndI3:SndI P3:=by
  intro q hq m hm
  simp only [P3,List.mem_cons,List.not_mem_nil,or_false] at hq
  rcases hq with rfl|rfl|rfl
  · simp only [objH,objMs,List.mem_cons,List.not_mem_nil,or_false] at hm
    rcases hm with rfl|rfl|rfl <;> exact ⟨false,by decide⟩
  · simp only [cloH,List.not_mem_nil] at hm
  · simp only [serH,List.not_mem_nil] at hm
theorem sndI_wld (l:List Cls) (hl:∀ c∈l,ClsW c):SndI (wld l):=by
  refine wld_ind sndI3 (fun ps c h _=>?_) l hl
  cases hd:defN ps c with
  | error e=>exact h
  | ok p =>
    obtain ⟨hB,_,_,s,l,_,_,rfl⟩:=def_ok hd
    intro q hq m hm
    rcases List.mem_append.1 (show q∈ps++[_] from hq) with hq|hq
    · exact h q hq m hm
    · rw [List.mem_singleton] at hq
      subst hq
      obtain ⟨m0,hm0,rfl⟩:=List.mem_map.1 (show m∈c.ms.map hmOf from hm)
      rw [clsB,Bool.and_eq_true] at hB
      have hmb:=mths_eachp hB.2 m0 hm0
      simp only [mthB,Bool.and_eq_true,beq_iff_eq] at hmb
      exact ⟨_,hmb.1.1.1.2⟩
theorem chain_ext {ps:List Plc} {r k:Nat} (hr:r<ps.length) (hW:WI ps) (hk:k∈chL (ps.map nd) r):extI ps (r:Int) (k:Int)=true:=by
  have h1:=ch_le hW.wo r (by simpa using hr) k hk
  rw [extI_nat hr (by omega)]
  exact (ext_iff _ _ _).2 (.inl hk)
theorem rfr_ok {ps:List Plc} {r:Int} {m:Int×Int} {x y:HM} (hx:methI ps m.1 m.2=some x) (h:rfrI ps r m=.ok y):y=x∧∃ (k:Nat) (q:Plc),r=(k:Int)∧ps[k]?=some q:=by
  rw [rfrI] at h
  split at h
  · rename_i z hz
    split at h
    · cases h
    · cases h
      rw [crdI,hx] at hz
      rcases plcI_cases ps r with ⟨e,_⟩|⟨k,q,rfl,hq,e⟩
      · rw [e] at hz;cases hz
      · rw [e] at hz;cases hz;exact ⟨rfl,k,q,rfl,hq⟩
  · cases h
theorem and9 {f:Int} (h:bits .and .i64 f 9=1):hasI f 1=true∧hasI f 8=false:=by
  have ew:∀ n:Nat,n≤1032→IntKind.wrap .i64 ((n:Nat):Int)=(n:Int):=fun n hn=>by
    rw [IntKind.wrap_i64]
    have h0:(0:Int)≤(n:Int):=Int.natCast_nonneg n
    have h1:(n:Int)≤1032:=Int.ofNat_le.2 hn
    omega
  have e0:bits .and .i64 f 9=IntKind.wrap .i64 (((BitVec.ofInt 64 f).toNat &&& 9:Nat):Int):=rfl
  have e1:bits .and .i64 f 8=IntKind.wrap .i64 (((BitVec.ofInt 64 f).toNat &&& 8:Nat):Int):=rfl
  have e2:bits .and .i64 f 1=IntKind.wrap .i64 (((BitVec.ofInt 64 f).toNat &&& 1:Nat):Int):=rfl
  rw [e0,ew _ (Nat.le_trans Nat.and_le_right (by decide))] at h
  have h9:(BitVec.ofInt 64 f).toNat &&& 9=1:=by omega
  have a1:(BitVec.ofInt 64 f).toNat &&& 1=1:=by
    have:((BitVec.ofInt 64 f).toNat &&& 9) &&& 1=(BitVec.ofInt 64 f).toNat &&& 1:=by rw [Nat.and_assoc];rfl
    rw [← this,h9];rfl
  have a8:(BitVec.ofInt 64 f).toNat &&& 8=0:=by
    have:((BitVec.ofInt 64 f).toNat &&& 9) &&& 8=(BitVec.ofInt 64 f).toNat &&& 8:=by rw [Nat.and_assoc];rfl
    rw [← this,h9];rfl
  unfold hasI
  rw [e1,e2,a1,a8]
  exact ⟨by decide,by decide⟩
theorem pub_not {f:Int} {i n:Bool} (h:chkM f i n=0) (h1:hasI f 1=true):hasI f 2=false:=by
  cases e2:hasI f 2 with
  | false=>rfl
  | true =>
    exfalso
    rw [chkM] at h
    cases e:onlyB f mthP with
    | false=>simp [e] at h
    | true =>
      have hv:1<visN f:=by
        rw [visN,h1,e2]
        cases hasI f 4 <;> decide
      simp [e,hv] at h
theorem ch_cls {ns:List Nd} (h:WO ns) (a:Nat) (ha:a<ns.length):(∀ n,ns[a]?=some n→n.i=false)→∀ k∈chL ns a,∀ p,ns[k]?=some p→p.i=false:=by
  refine ch_ind h (P:=fun a=>(∀ n,ns[a]?=some n→n.i=false)→∀ k∈chL ns a,∀ p,ns[k]?=some p→p.i=false) ?_ (fun a ha h0 hlt ih=>?_) a ha
  · intro hn k hk p hp
    rw [chL_zero,List.mem_singleton] at hk
    subst hk
    exact hn p hp
  · intro hn k hk p hp
    rw [chL_cons h ha h0] at hk
    rcases List.mem_cons.1 hk with rfl|hk
    · exact hn p hp
    · refine ih (fun n hn2=>?_) k hk p hp
      have e:ns[a]?=some ns[a]:=List.getElem?_eq_getElem ha
      rw [spO,e] at hn2
      exact ((h.sp a _ h0 e).2.1 n hn2).1
theorem ch_tail {ns:List Nd} (h:WO ns) (a:Nat) (ha:a<ns.length):∀ i∈chL ns a,∀ j∈chL ns a,j≤i→j∈chL ns i:=by
  refine ch_ind h (P:=fun a=>∀ i∈chL ns a,∀ j∈chL ns a,j≤i→j∈chL ns i) ?_ (fun a ha h0 hlt ih=>?_) a ha
  · intro i hi j hj _
    rw [chL_zero,List.mem_singleton] at hi
    subst hi
    exact hj
  · intro i hi j hj hle
    have hj0:=hj
    rw [chL_cons h ha h0] at hi hj
    rcases List.mem_cons.1 hi with rfl|hi
    · exact hj0
    · have h1:=ch_le h (spO ns a) (by omega) i hi
      rcases List.mem_cons.1 hj with rfl|hj
      · omega
      · exact ih i hi j hj hle
theorem first_or {P:Nat→Prop} [DecidablePred P]:∀ l:List Nat,(∀ i∈l,¬ P i)∨∃ pre i post,l=pre++i::post∧P i∧∀ j∈pre,¬ P j
  | []=>.inl fun i hi=>by cases hi
  | a::r=>by
    by_cases ha:P a
    · exact .inr ⟨[],a,r,rfl,ha,fun j hj=>by cases hj⟩
    · rcases first_or (P:=P) r with h|⟨pre,i,post,rfl,hi,hp⟩
      · exact .inl fun i hi=>by
          rcases List.mem_cons.1 hi with rfl|hi
          · exact ha
          · exact h i hi
      · exact .inr ⟨a::pre,i,post,rfl,hi,fun j hj=>by
          rcases List.mem_cons.1 hj with rfl|hj
          · exact ha
          · exact hp j hj⟩
theorem nsk_none {ps:List Plc} {nm ds:ByteArray} {a:Int}:∀ {l:List Nat},(∀ i∈l,¬ (fndI ps (i:Int) nm ds).2=0)→nskL ps nm ds a l=[]
  | [],_=>rfl
  | i::r,h=>by
    rw [nskL,if_neg (fun e=>h i List.mem_cons_self e.1)]
    exact nsk_none fun j hj=>h j (List.mem_cons_of_mem _ hj)
theorem upp_skip {ps:List Plc} {nm ds:ByteArray} (t:List Nat):∀ {l:List Nat},(∀ i∈l,¬ (fndI ps (i:Int) nm ds).2=0)→uppI ps nm ds (l++t)=uppI ps nm ds t
  | [],_=>rfl
  | i::r,h=>by
    rw [List.cons_append,uppI,if_neg (fun e=>h i List.mem_cons_self e.1)]
    exact upp_skip t fun j hj=>h j (List.mem_cons_of_mem _ hj)
theorem nsk_from {ps:List Plc} {nm ds:ByteArray} {a:Int}:∀ {l:List Nat},∀ z∈nskL ps nm ds a l,∃ j∈l,z.1=(j:Int)
  | [],_,h=>by cases h
  | i::r,z,h=>by
    rw [nskL] at h
    split at h
    · rcases List.mem_cons.1 h with rfl|h
      · exact ⟨i,List.mem_cons_self,rfl⟩
      · obtain ⟨j,hj,e⟩:=nsk_from z h
        exact ⟨j,List.mem_cons_of_mem _ hj,e⟩
    · obtain ⟨j,hj,e⟩:=nsk_from z h
      exact ⟨j,List.mem_cons_of_mem _ hj,e⟩
theorem gth_keep {ps:List Plc} {a x:Int×Int}:∀ (l:List (Int×Int)) {k:List (Int×Int)},x∈k→x∈l.foldl (gth1 ps a) k
  | [],_,h=>h
  | c::r,k,h=>by
    rw [List.foldl_cons]
    refine gth_keep r ?_
    rw [gth1]
    split
    · exact List.mem_append_left _ h
    · exact h
theorem gth_low {ps:List Plc} (hW:WI ps) {a:Int×Int} {ma:HM} (ha:methI ps a.1 a.2=some ma):∀ (l k:List (Int×Int)),(∀ y∈k,y=a)→(∀ z∈l,z.1<a.1)→∀ y∈l.foldl (gth1 ps a) k,y=a
  | [],_,hk,_,y,hy=>hk y hy
  | c::r,k,hk,hl,y,hy=>by
    rw [List.foldl_cons] at hy
    refine gth_low hW ha r _ ?_ (fun z hz=>hl z (List.mem_cons_of_mem _ hz)) y hy
    have hc:=hl c List.mem_cons_self
    rw [gth1,if_neg]
    · exact hk
    · rw [Bool.or_eq_true]
      rintro (h|h)
      · rw [Bool.and_eq_true,eqI_iff] at h
        rw [h.1] at hc;omega
      · obtain ⟨z,hz,hp⟩:=List.any_eq_true.1 h
        obtain ⟨_,_,_,_,_,_,_,_,_,_,hex⟩:=pl_facts hp
        have:=extI_le hW hex
        rw [hk z hz] at this
        omega
theorem agree_facts {ps:List Plc} (hW:WI ps) (hU:UnqM ps) (hS:SndI ps) {r:Nat} {q:Plc} (hr:ps[r]?=some q) {m:Int×Int} {x:HM} (hx:methI ps m.1 m.2=some x) (hp:bits .and .i64 x.fl 9=1) (he:extI ps (r:Int) m.1=true)
    (hall:∀ i∈chL (ps.map nd) r,(fndI ps (i:Int) x.nm x.ds).2=0→∀ y,methI ps (i:Int) (fndI ps (i:Int) x.nm x.ds).1=some y→bits .and .i64 y.fl 9=1∧(y.nm.toList == [60,105,110,105,116,62])=false∧(ifcI ps m.1=true→extI ps (i:Int) m.1=true)):virI ps (r:Int) m=itfI ps (r:Int) m:=by
  obtain ⟨p1,p8⟩:=and9 hp
  have hrl:=(List.getElem?_eq_some_iff.1 hr).1
  have hrl2:r<(ps.map nd).length:=by simpa using hrl
  have p2:hasI x.fl 2=false:=by
    obtain ⟨k,q2,_,hq2,hp2,h4⟩:=meth_plc hx
    have hmem:x∈q2.c.ms:=by
      rw [methP] at h4
      split at h4
      · exact List.mem_of_getElem? h4
      · cases h4
    obtain ⟨n,hc⟩:=hS q2 (List.mem_of_getElem? hq2) x hmem
    exact pub_not hc p1
  have p10:hasI x.fl 10=false:=by rw [has10c,p2,p8];rfl
  have ps8:stB x.fl=false:=p8
  rw [virI,itfI]
  cases hD:rfrI ps (r:Int) m with
  | error e=>rfl
  | ok y =>
    obtain ⟨rfl,k,q3,_,_⟩:=rfr_ok hx hD
    have hif:ifcI ps (r:Int)=false:=by
      rw [rfrI] at hD
      split at hD
      · split at hD
        · cases hD
        · rename_i hh;simpa using hh
      · cases hD
    simp only [ps8,p10]
    have eu:uchI ps y.nm y.ds (r:Int)=uppI ps y.nm y.ds (chL (ps.map nd) r):=by rw [uchI,plcI_nat,hr];rfl
    rw [eu,firI_eq hx rfl hr]
    have hcls:∀ k∈chL (ps.map nd) r,ifcI ps (k:Int)=false:=fun k hk=>by
      rw [ifcI,plcI_nat]
      have hkl:=ch_le hW.wo r hrl2 k hk
      obtain ⟨p,hp⟩:∃ p,ps[k]?=some p:=⟨_,List.getElem?_eq_getElem (by omega)⟩
      rw [hp]
      refine ch_cls hW.wo r hrl2 (fun n hn=>?_) k hk (nd p) (nd_at hp)
      rw [nd_at hr] at hn
      cases hn
      rw [ifcI,plcI_nat,hr] at hif
      exact hif
    have hm0:stI ps m=false:=by rw [stI,hx];exact p8
    have hg0:gth1 ps m [] m=[m]:=by rw [gth1,hm0,eqI_iff.2 rfl];rfl
    -- the method's own class,if it is in the chain
    have hown:∀ k:Nat,m.1=(k:Int)→(fndI ps (k:Int) y.nm y.ds)=(m.2,0):=fun k hk=>by
      have:=hU.fnd hx (nm:=y.nm) (ds:=y.ds) rfl rfl
      rwa [hk] at this
    have hclass:ifcI ps m.1=false→∃ k∈chL (ps.map nd) r,m.1=(k:Int):=fun hmi=>by
      obtain ⟨i,j,hi,hj,hil,hjl,hext⟩:=extI_split he
      obtain rfl:r=i:=by omega
      rcases (ext_iff _ _ _).1 hext with h|h
      · exact ⟨j,h,hj⟩
      · exfalso
        obtain ⟨_,_,p,hp1,hp2,_⟩:=cl_facts hW.wo h
        rw [hj,ifcI,plcI_nat] at hmi
        rw [List.getElem?_map] at hp1
        obtain ⟨q4,hq4,rfl⟩:=Option.map_eq_some_iff.1 hp1
        rw [hq4] at hmi
        have:(nd q4).i=false:=hmi
        rw [this] at hp2
        cases hp2
    rcases first_or (P:=fun i:Nat=>(fndI ps (i:Int) y.nm y.ds).2=0) (chL (ps.map nd) r) with hno|⟨pre,i,post,hl,hi,hpre⟩
    · have e1:uppI ps y.nm y.ds (chL (ps.map nd) r)=((0,0),false):=by
        have:=upp_skip (ps:=ps) (nm:=y.nm) (ds:=y.ds) [] hno
        rw [List.append_nil] at this
        rw [this];rfl
      have e2:askL ps y m (chL (ps.map nd) r).reverse=[m]:=by rw [askL,nsk_none (fun i hi=>hno i (List.mem_reverse.1 hi))]
      have e3:lstI (chL (ps.map nd) r) [m]=((0,0),6):=by
        rw [lstI_last (x:=m) rfl,if_neg]
        rw [List.contains_iff_mem,List.mem_map]
        rintro ⟨k,hk,ek⟩
        exact hno k hk (by rw [hown k ek.symm])
      rw [e1,e2,gthL,List.foldl_cons,List.foldl_nil,hg0,e3]
      simp
    · have himem:i∈chL (ps.map nd) r:=by rw [hl];exact List.mem_append_right _ List.mem_cons_self
      obtain ⟨⟨z,hz,z1,z2⟩,_⟩:=fnd_facts hi
      simp only at hz
      obtain ⟨a1,a2,a3⟩:=hall i himem hi z hz
      obtain ⟨b1,b8⟩:=and9 a1
      have e1:uppI ps y.nm y.ds (chL (ps.map nd) r)=(((i:Int),(fndI ps (i:Int) y.nm y.ds).1),true):=by
        rw [hl,upp_skip _ hpre,uppI,if_pos ⟨hi,by rw [hasS,hz];exact b8⟩]
      have hpub:hasS ps (i:Int) (fndI ps (i:Int) y.nm y.ds).1 1=true:=by rw [hasS,hz];exact b1
      have e2:(gthL ps m (askL ps y m (chL (ps.map nd) r).reverse)).getLast?=some ((i:Int),(fndI ps (i:Int) y.nm y.ds).1):=by
        have er:(chL (ps.map nd) r).reverse=post.reverse++([i]++pre.reverse):=by rw [hl];simp
        have en:nskL ps y.nm y.ds m.1 pre.reverse=[]:=nsk_none fun j hj=>hpre j (List.mem_reverse.1 hj)
        have hdesc:=ch_desc hW.wo r hrl2
        rw [hl] at hdesc
        have hpost:∀ j∈post,j<i:=(List.pairwise_cons.1 (List.pairwise_append.1 hdesc).2.1).1
        by_cases him:(i:Int)=m.1
        · have ez:((i:Int),(fndI ps (i:Int) y.nm y.ds).1)=m:=by rw [hown i him.symm];exact Prod.ext him rfl
          rw [ez]
          have e3:askL ps y m (chL (ps.map nd) r).reverse=m::nskL ps y.nm y.ds m.1 post.reverse:=by
            rw [askL,er,nskL_app,nskL_app,en,nskL,if_neg (fun h=>h.2 him)]
            simp [nskL]
          rw [e3,gthL,List.foldl_cons,hg0]
          have hin:=gth_keep (ps:=ps) (a:=m) (nskL ps y.nm y.ds m.1 post.reverse) (List.mem_singleton.2 (rfl:m=m))
          have hlow:=gth_low hW hx (nskL ps y.nm y.ds m.1 post.reverse) [m] (fun y hy=>List.mem_singleton.1 hy) (fun z hz=>by
            obtain ⟨j,hj,e⟩:=nsk_from z hz
            have:=hpost j (List.mem_reverse.1 hj)
            omega)
          generalize List.foldl (gth1 ps m) [m] (nskL ps y.nm y.ds m.1 post.reverse)=G at *
          cases hG:G.getLast? with
          | none=>rw [List.getLast?_eq_none_iff] at hG;rw [hG] at hin;cases hin
          | some g=>rw [hlow g (List.mem_of_getLast? hG)]
        · have e3:askL ps y m (chL (ps.map nd) r).reverse=(m::nskL ps y.nm y.ds m.1 post.reverse)++[((i:Int),(fndI ps (i:Int) y.nm y.ds).1)]:=by
            rw [askL,er,nskL_app,nskL_app,en,nskL,if_pos ⟨hi,him⟩]
            simp [nskL]
          rw [e3,gthL_snoc,gth1,if_pos,List.getLast?_append,List.getLast?_singleton]
          · rfl
          · rw [Bool.or_eq_true]
            refine .inr (List.any_eq_true.2 ⟨m,?_,?_⟩)
            · rw [gthL,List.foldl_cons,hg0]
              exact gth_keep _ (List.mem_singleton.2 rfl)
            · have hex:extI ps (i:Int) m.1=true:=by
                cases hmi:ifcI ps m.1 with
                | true=>exact a3 hmi
                | false =>
                  obtain ⟨k,hk,ek⟩:=hclass hmi
                  have hki:k<i:=by
                    have hk2:=hk
                    rw [hl] at hk2
                    rcases List.mem_append.1 hk2 with h|h
                    · exact absurd (by rw [hown k ek]) (hpre k h)
                    · rcases List.mem_cons.1 h with rfl|h
                      · exact absurd ek.symm him
                      · exact hpost k h
                  have hil:=ch_le hW.wo r hrl2 i himem
                  rw [ek]
                  exact chain_ext (by omega) hW (ch_tail hW.wo r hrl2 i himem k hk (by omega))
              have o1:openI y.fl=1:=by rw [openI,p1];rfl
              have o2:openI z.fl=1:=by rw [openI,b1];rfl
              have n1:(y.nm.toList == [60,105,110,105,116,62])=false:=by rw [← z1];exact a2
              have s1:stB z.fl=false:=b8
              rw [plI,hx]
              simp only [hz]
              rw [plnB,freB,freB,s1,ps8,a2,n1,z1,z2,bloB,hcls i himem,hex,o2,reaB,o1]
              simp [him]
      have e4:lstI (chL (ps.map nd) r) (gthL ps m (askL ps y m (chL (ps.map nd) r).reverse))=(((i:Int),(fndI ps (i:Int) y.nm y.ds).1),0):=by
        rw [lstI_last e2,if_pos]
        rw [List.contains_iff_mem,List.mem_map]
        exact ⟨i,himem,rfl⟩
      rw [e1,e4]
      simp [hpub]
theorem clss_keep {w w':World} {v:Value} {l:List Cls} (h:IsClss w v l) (hb:Below w.heap.size w w'):IsClss w' v l:=by
  obtain ⟨ao,cap,rfl,h1,h2,h3⟩:=h
  refine ⟨ao,cap,rfl,h1,h2,fun hne=>?_⟩
  obtain ⟨bk,o,e,hlt,hc⟩:=h3 hne
  refine ⟨bk,o,e,Nat.lt_of_lt_of_le hlt hb.size,fun k c hk=>?_⟩
  obtain ⟨vi,vm,h4,h5⟩:=hc k c hk
  exact ⟨vi,vm,fun j u hj=>(hb.cell hlt).trans (h4 j u hj),h5.keep hb⟩
set_option maxHeartbeats 4000000 in
theorem built12_c (v:Value) (l:List Cls) (W:World) (h:IsClss W v l):Calls Tryz.prog 36 #[v] W fun e w'=>(∃ b,e=.returned (.pointer (some ⟨b,0,none⟩))∧WAt b (wld l) w')∧Below W.heap.size W w':=by
  have hCW:=clss_w h
  obtain ⟨ao,cap,rfl,h1,h2,h3⟩:=h
  unfold maxLen at h2
  obtain ⟨L,hL⟩:∃ L,l.length=L:=⟨_,rfl⟩
  have HL:Hid (l.length=L):=hL
  have HI:Hid _:=h3
  have HCW:Hid (∀ c∈l,ClsW c):=hCW
  rw [hL] at h1 ⊢
  clear hL h3 hCW
  have HN:Hid (∀ w:World,Calls Tryz.prog 51 #[] w fun e w'=>e=.returned (.pointer (some ⟨w.heap.size+1,0,none⟩))∧(∃ vp pv,HW w' w.heap.size (w.heap.size+1) w.heap.size P3 vp pv)∧Below w.heap.size w w'):=new_any
  go_enter Tryz.func36,Tryz.ntmps36
  go_wp2_with (first
    | (go_at_call 51;refine (HN.out _).mono ?_;rintro e w2 ⟨rfl,hw,hb⟩;have H2:Hid (∃ vp pv,HW w2 W.heap.size (W.heap.size+1) W.heap.size P3 vp pv):=hw;have B2:Hid (Below W.heap.size W w2):=hb;clear hb hw HN))
  go_loopw [4] (fun iv wr=>∃ (i:Nat),iv=.int .i64 i∧i≤L∧Hid (∃ vp pv,HW wr W.heap.size (W.heap.size+1) W.heap.size (wld (l.take i)) vp pv)∧Hid (Below W.heap.size W wr)) (fun iv _=>L - (intOf iv).toNat)
  case atStart=>exact ⟨0,rfl,Nat.zero_le _,H2,B2⟩
  case round =>
    clear H2 B2
    obtain ⟨i,rfl,hi,hHW,hB⟩:=hrel
    by_cases hlt:i<L
    · obtain ⟨c,hc⟩:∃ c,l[i]?=some c:=⟨_,List.getElem?_eq_getElem (by rw [HL.out];exact hlt)⟩
      obtain ⟨bk,o,rfl,hbk,hcl⟩:=HI.out (fun e=>by rw [e] at hc;simp at hc)
      obtain ⟨vi,vm,hcell,hin⟩:=hcl i c hc
      have bel:Below W.heap.size W wr:=hB.out
      have p0:wr.cell? ⟨bk,o+i * 6,none⟩=some (.string c.nm):=(bel.cell (p:=⟨bk,o+i * 6,none⟩) hbk).trans (hcell 0 _ rfl)
      have p1:wr.cell? ⟨bk,o+i * 6+1,none⟩=some (.string c.su):=(bel.cell (p:=⟨bk,o+i * 6+1,none⟩) hbk).trans (hcell 1 _ rfl)
      have p2:wr.cell? ⟨bk,o+i * 6+2,none⟩=some vi:=(bel.cell (p:=⟨bk,o+i * 6+2,none⟩) hbk).trans (hcell 2 _ rfl)
      have p3:wr.cell? ⟨bk,o+i * 6+3,none⟩=some (.int .i64 c.fl):=(bel.cell (p:=⟨bk,o+i * 6+3,none⟩) hbk).trans (hcell 3 _ rfl)
      have p4:wr.cell? ⟨bk,o+i * 6+4,none⟩=some (.int .i64 c.ld):=(bel.cell (p:=⟨bk,o+i * 6+4,none⟩) hbk).trans (hcell 4 _ rfl)
      have p5:wr.cell? ⟨bk,o+i * 6+5,none⟩=some vm:=(bel.cell (p:=⟨bk,o+i * 6+5,none⟩) hbk).trans (hcell 5 _ rfl)
      have hWI:WI (wld (l.take i)):=wld_wi _ (fun c hc=>HCW.out c (List.mem_of_mem_take hc))
      have HD:Hid (Calls Tryz.prog 47 #[.pointer (some ⟨W.heap.size+1,0,none⟩),.agg #[.string c.nm,.string c.su,vi,.int .i64 c.fl,.int .i64 c.ld,vm]] wr fun e w'=>(∃ u,e=.returned u)∧Hid (∃ vp pv,HW w' W.heap.size (W.heap.size+1) W.heap.size (wld (l.take (i+1))) vp pv)∧Hid (Below W.heap.size W w')):=by
        obtain ⟨vp,pv,hw⟩:=hHW.out
        refine (define_any W.heap.size (W.heap.size+1) W.heap.size _ vp pv c vi vm wr hw hB.out.size (hin.keep bel) hWI.nm).mono ?_
        rintro e w' ⟨rfl,hw',hb',_⟩
        rw [wld_at hc]
        exact ⟨⟨_,rfl⟩,hw',hB.out.trans hb'⟩
      clear hcl hcell hin hc bel hWI hHW hB HI
      go_wp2_with (go_at_call 47;refine HD.out.mono ?_;rintro e w3 ⟨⟨u3,rfl⟩,hw3,hb3⟩;clear HD)
      go_roundw
      case rel=>exact ⟨i+1,by go_num,by omega,hw3,hb3⟩
      case measure=>simp [intOf];omega
    · have e:i=L:=by omega
      subst e
      have HF:Hid (WAt (W.heap.size+1) (wld l) wr):=by
        obtain ⟨vp,pv,hw⟩:=hHW.out
        rw [List.take_of_length_le (by rw [HL.out];exact Nat.le_refl _)] at hw
        exact hw.wat
      clear hHW HI
      go_wp2
      exact bodyPost_ret (results_tmp rfl _ _ _) rfl ⟨⟨_,rfl,HF.out⟩,hB.out⟩
theorem vir3:virI P3 0 (0,1)=((0,1),0):=by kernel_rfl
theorem awake12_c (W:World):Calls Tryz.prog 34 #[] W fun e w'=>e=.returned (.bool true)∧Below W.heap.size W w':=by
  have HN:Hid (∀ w:World,Calls Tryz.prog 51 #[] w fun e w'=>∃ b,e=.returned (.pointer (some ⟨b,0,none⟩))∧WAt b P3 w'∧Below w.heap.size w w'):=fun w=>(new_any w).mono fun e w' zz=>⟨_,zz.1,by obtain ⟨vp,pv,hw⟩:=zz.2.1;exact hw.wat,zz.2.2⟩
  have HM:Hid (∀ (w:World) (b:Nat),WAt b P3 w→Calls Tryz.prog 38 #[.pointer (some ⟨b,0,none⟩),.int .i64 0,.agg #[.int .i64 0,.int .i64 1]] w fun e w'=>e=.returned (.tuple #[.agg #[.int .i64 0,.int .i64 1],.int .i64 0])∧Below w.heap.size w w'):=fun w b h=>(vir_c h wi3 0 0 1).mono fun e w' zz=>⟨by rw [zz.1,vir3];rfl,zz.2⟩
  have BB:Hid (Below W.heap.size W W):=Below.refl _ _
  go_enter Tryz.func34,Tryz.ntmps34
  go_wp2_with (first
    | (go_at_call 51;refine (HN.out _).mono ?_;rintro e w1 ⟨b,rfl,hw,hb⟩;have BB2:Below W.heap.size W w1:=bstep (by repeat (first|exact BB.out|exact Below.refl _ _|refine Below.setCell ?_ (by simp;try omega) _|refine Below.alloc ?_ (by have:=BB.out.size;simp;try omega) _|refine Below.drew ?_)) hb;clear BB;have BB:Hid (Below W.heap.size W w1):=BB2;(try clear HH);have HH:Hid (WAt b P3 w1):=hw;clear hw hb BB2)
    | (go_at_call 38;refine (HM.out _ _ HH.out).mono ?_;rintro e w2 ⟨rfl,hb⟩;have BB2:=bstep BB.out hb;clear BB;have BB:Hid (Below W.heap.size W w2):=BB2;clear hb BB2 HM))
  exact bodyPost_ret (results_tmp rfl _ _ _) rfl ⟨rfl,(by repeat (first|exact BB.out|exact Below.refl _ _|refine Below.setCell ?_ (by simp;try omega) _|refine Below.alloc ?_ (by have:=BB.out.size;simp;try omega) _|refine Below.drew ?_))⟩
end Go.Proofs.YtfoldbhlmmmpeaaGreat
