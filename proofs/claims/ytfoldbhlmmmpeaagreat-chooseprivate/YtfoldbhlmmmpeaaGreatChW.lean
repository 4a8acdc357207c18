import Derived.Test.YtfoldbhlmmmpeaaGreatOvB
import Derived.Test.YtfoldbhlmmmpeaaGreatOvH
import Derived.Test.YtfoldbhlmmmpeaaGreatChA
import Derived.Test.YtfoldbhlmmmpeaaGreatHrR
import Derived.Deep.RegionHeld3
set_option maxRecDepth 100000
namespace Go.Proofs.YtfoldbhlmmmpeaaGreat
open Go.RowKit Go.Maps
def onI (ps:List Plc) (c:Int) (nm ds:ByteArray):(Int×Int)×Int:=match plcI ps c with
  | some q=>oneV ps (candL ps nm ds q.cl)
  | none=>((0,0),3)
theorem one_c {b:Nat} {ps:List Plc} {W:World} (h:WAt b ps W) (hi:WI ps) (c:Int) (nm ds:ByteArray):Calls Tryz.prog 93 #[.pointer (some ⟨b,0,none⟩),.int .i64 c,.string nm,.string ds] W fun e w'=>e=.returned (idE (onI ps c nm ds))∧Below W.heap.size W w':=by
  rcases plcI_cases ps c with ⟨h1,_⟩|⟨k,q,rfl,h2,h1⟩
  · have e:onI ps c nm ds=((0,0),3):=by rw [onI,h1]
    rw [e];exact one_no h c h1 nm ds
  · have e:onI ps (k:Int) nm ds=oneV ps (candL ps nm ds q.cl):=by rw [onI,h1]
    rw [e];exact one_yes h hi k q h2 nm ds
theorem rfr_err {ps:List Plc} {r:Int} {m:Int×Int} {x:Int} (h:rfrI ps r m=.error x):x=2∨x=3:=by
  rw [rfrI] at h
  split at h
  · split at h
    · cases h;exact .inl rfl
    · cases h
  · rename_i e he
    cases h
    rw [crdI] at he
    split at he
    · cases he
    · cases he;exact .inr rfl
def virI (ps:List Plc) (r:Int) (m:Int×Int):(Int×Int)×Int:=match rfrI ps r m with
  | .error e=>((0,0),e)
  | .ok x=>if stB x.fl then ((0,0),23) else if (firI ps r m).2=0 then unaI ps (firI ps r m).1 else onI ps r x.nm x.ds
def itfI (ps:List Plc) (r:Int) (m:Int×Int):(Int×Int)×Int:=match rfrI ps r m with
  | .error e=>((0,0),e)
  | .ok x=>if hasI x.fl 10 then ((0,0),23) else if (uchI ps x.nm x.ds r).2 then (if hasS ps (uchI ps x.nm x.ds r).1.1 (uchI ps x.nm x.ds r).1.2 1 then unaI ps (uchI ps x.nm x.ds r).1 else ((0,0),22)) else onI ps r x.nm x.ds
set_option maxHeartbeats 2000000 in
theorem vir_c {b:Nat} {ps:List Plc} {W:World} (h:WAt b ps W) (hi:WI ps) (r c i:Int):Calls Tryz.prog 38 #[.pointer (some ⟨b,0,none⟩),.int .i64 r,.agg #[.int .i64 c,.int .i64 i]] W fun e w'=>e=.returned (idE (virI ps r (c,i)))∧Below W.heap.size W w':=by
  have HI:∀ w,Below W.heap.size W w→WAt b ps w:=fun w hb=>h.below hb
  have HR:Hid (∀ w,Below W.heap.size W w→Calls Tryz.prog 92 #[.pointer (some ⟨b,0,none⟩),.int .i64 r,.agg #[.int .i64 c,.int .i64 i]] w fun e w'=>mthE (rfrI ps r (c,i)) e∧Below w.heap.size w w'):=fun w hb=>rfr_c (HI w hb) hi.pb r c i
  have HO:Hid (∀ nm ds w,Below W.heap.size W w→Calls Tryz.prog 93 #[.pointer (some ⟨b,0,none⟩),.int .i64 r,.string nm,.string ds] w fun e w'=>e=.returned (.tuple #[.agg #[.int .i64 (onI ps r nm ds).1.1,.int .i64 (onI ps r nm ds).1.2],.int .i64 (onI ps r nm ds).2])∧Below w.heap.size w w'):=fun nm ds w hb=>one_c (HI w hb) hi r nm ds
  have HU:Hid (∀ c i w,Below W.heap.size W w→Calls Tryz.prog 94 #[.pointer (some ⟨b,0,none⟩),.agg #[.int .i64 c,.int .i64 i]] w fun e w'=>e=.returned (.tuple #[.agg #[.int .i64 (unaI ps (c,i)).1.1,.int .i64 (unaI ps (c,i)).1.2],.int .i64 (unaI ps (c,i)).2])∧Below w.heap.size w w'):=fun c i w hb=>una_c (HI w hb) hi.pb c i
  have HF:Hid (∀ w,Below W.heap.size W w→Calls Tryz.prog 22 #[.pointer (some ⟨b,0,none⟩),.int .i64 r,.agg #[.int .i64 c,.int .i64 i]] w fun e w'=>e=.returned (idE (firI ps r (c,i)))∧Below w.heap.size w w'):=fun w hb=>first_c (HI w hb) hi r c i
  unfold virI
  cases hD:rfrI ps r (c,i) with
  | error x =>
    have hx:x≠0:=by rcases rfr_err hD with rfl|rfl <;> decide
    rw [hD] at HR
    simp only [mthE] at HR
    clear h hi HI hD HO HU HF
    go_enter Tryz.func38,Tryz.ntmps38
    go_wp2_with (first
      | (go_at_call 92;refine (HR.out _ (by repeat (first|exact Below.refl _ _|refine Below.setCell ?_ (by simp;try omega) _|refine Below.alloc ?_ (by simp;try omega) _|refine Below.drew ?_))).mono ?_;rintro e w1 ⟨rfl,hb⟩;have ad:w1.heap[W.heap.size]?=some (.cells #[.int .i64 c,.int .i64 i] 24 (0,0)):=(hb.block (W.heap.size) (by first|omega|(simp;try omega))).trans (hkeep (halloc1 _ _));(try clear aB a0 a1 af aL aN);have aB:Hid _:=ad;obtain ⟨a0,a1,af,aL⟩:=rw2 ad;have aN:¬ W.heap.size=w1.heap.size:=(by omega);clear ad;have zd:w1.heap[W.heap.size+1]?=some (.cells #[.int .i64 0,.int .i64 0] 24 (0,0)):=(hb.block (W.heap.size+1) (by first|omega|(simp;try omega))).trans (halloc2 _ _ (by simp));(try clear zB z0 z1 zf zL zN);have zB:Hid _:=zd;obtain ⟨z0,z1,zf,zL⟩:=rw2 zd;have zN:¬ W.heap.size+1=w1.heap.size:=(by omega);clear zd;have Bw1:Hid (Below W.heap.size W w1):=bstep (by repeat (first|exact Below.refl _ _|refine Below.setCell ?_ (by simp;try omega) _|refine Below.alloc ?_ (by simp;try omega) _|refine Below.drew ?_)) hb;clear hb HR))
    exact bodyPost_ret (v:=idE ((0,0),x)) (by simp [results,Tryz.results38,go_sem,idE, *]) rfl ⟨rfl,(by repeat (first|refine Below.setCell ?_ (by simp;try omega) _|refine Below.alloc ?_ (by have:=Bw1.out.size;simp;try omega) _|refine Below.drew ?_|exact Bw1.out))⟩
  | ok x =>
    rw [hD] at HR
    simp only [mthE] at HR
    simp only
    generalize firI ps r (c,i)=G at *
    obtain ⟨⟨g1,g2⟩,g3⟩:=G
    simp only [idE] at HF
    have HO2:Hid _:=HO.out x.nm x.ds
    have HU2:Hid _:=HU.out g1 g2
    generalize onI ps r x.nm x.ds=O at *
    simp only
    generalize unaI ps (g1,g2)=U at *
    obtain ⟨⟨o1,o2⟩,o3⟩:=O
    obtain ⟨⟨u1,u2⟩,u3⟩:=U
    simp only at HO2 HU2
    clear h hi HI hD HO HU
    cases hS:stB x.fl
    case true =>
      rw [stB] at hS
      clear HF HO2 HU2
      go_enter Tryz.func38,Tryz.ntmps38
      go_wp2_with (first
        | (go_at_call 92;refine (HR.out _ (by repeat (first|exact Below.refl _ _|refine Below.setCell ?_ (by simp;try omega) _|refine Below.alloc ?_ (by simp;try omega) _|refine Below.drew ?_))).mono ?_;rintro e w1 ⟨⟨sa,sk,so,rfl⟩,hb⟩;have ad:w1.heap[W.heap.size]?=some (.cells #[.int .i64 c,.int .i64 i] 24 (0,0)):=(hb.block (W.heap.size) (by first|omega|(simp;try omega))).trans (hkeep (halloc1 _ _));(try clear aB a0 a1 af aL aN);have aB:Hid _:=ad;obtain ⟨a0,a1,af,aL⟩:=rw2 ad;have aN:¬ W.heap.size=w1.heap.size:=(by omega);clear ad;have zd:w1.heap[W.heap.size+1]?=some (.cells #[.int .i64 0,.int .i64 0] 24 (0,0)):=(hb.block (W.heap.size+1) (by first|omega|(simp;try omega))).trans (halloc2 _ _ (by simp));(try clear zB z0 z1 zf zL zN);have zB:Hid _:=zd;obtain ⟨z0,z1,zf,zL⟩:=rw2 zd;have zN:¬ W.heap.size+1=w1.heap.size:=(by omega);clear zd;have Bw1:Hid (Below W.heap.size W w1):=bstep (by repeat (first|exact Below.refl _ _|refine Below.setCell ?_ (by simp;try omega) _|refine Below.alloc ?_ (by simp;try omega) _|refine Below.drew ?_)) hb;clear hb HR))
      exact bodyPost_ret (v:=idE ((0,0),23)) (by simp [results,Tryz.results38,go_sem,idE, *]) rfl ⟨rfl,(by repeat (first|refine Below.setCell ?_ (by simp;try omega) _|refine Below.alloc ?_ (by have:=Bw1.out.size;simp;try omega) _|refine Below.drew ?_|exact Bw1.out))⟩
    case false =>
      rw [stB] at hS
      by_cases hg:g3=0
      · subst hg
        clear HO2
        go_enter Tryz.func38,Tryz.ntmps38
        go_wp2_with (first
          | (go_at_call 92;refine (HR.out _ (by repeat (first|exact Below.refl _ _|refine Below.setCell ?_ (by simp;try omega) _|refine Below.alloc ?_ (by simp;try omega) _|refine Below.drew ?_))).mono ?_;rintro e w1 ⟨⟨sa,sk,so,rfl⟩,hb⟩;have ad:w1.heap[W.heap.size]?=some (.cells #[.int .i64 c,.int .i64 i] 24 (0,0)):=(hb.block (W.heap.size) (by first|omega|(simp;try omega))).trans (hkeep (halloc1 _ _));(try clear aB a0 a1 af aL aN);have aB:Hid _:=ad;obtain ⟨a0,a1,af,aL⟩:=rw2 ad;have aN:¬ W.heap.size=w1.heap.size:=(by omega);clear ad;have zd:w1.heap[W.heap.size+1]?=some (.cells #[.int .i64 0,.int .i64 0] 24 (0,0)):=(hb.block (W.heap.size+1) (by first|omega|(simp;try omega))).trans (halloc2 _ _ (by simp));(try clear zB z0 z1 zf zL zN);have zB:Hid _:=zd;obtain ⟨z0,z1,zf,zL⟩:=rw2 zd;have zN:¬ W.heap.size+1=w1.heap.size:=(by omega);clear zd;have Bw1:Hid (Below W.heap.size W w1):=bstep (by repeat (first|exact Below.refl _ _|refine Below.setCell ?_ (by simp;try omega) _|refine Below.alloc ?_ (by simp;try omega) _|refine Below.drew ?_)) hb;clear hb HR)
          | (go_at_call 22;refine (HF.out _ (by repeat (first|refine Below.setCell ?_ (by simp;try omega) _|refine Below.alloc ?_ (by have:=Bw1.out.size;simp;try omega) _|refine Below.drew ?_|exact Bw1.out))).mono ?_;rintro e w2 ⟨rfl,hb⟩;have ad:w2.heap[W.heap.size]?=some (.cells #[.int .i64 c,.int .i64 i] 24 (0,0)):=(hb.block (W.heap.size) (by first|omega|(simp;try omega))).trans (hkeep aB.out);(try clear aB a0 a1 af aL aN);have aB:Hid _:=ad;obtain ⟨a0,a1,af,aL⟩:=rw2 ad;have aN:¬ W.heap.size=w2.heap.size:=(by omega);clear ad;have zd:w2.heap[W.heap.size+1]?=some (.cells #[.int .i64 0,.int .i64 0] 24 (0,0)):=(hb.block (W.heap.size+1) (by first|omega|(simp;try omega))).trans (hkeep zB.out);(try clear zB z0 z1 zf zL zN);have zB:Hid _:=zd;obtain ⟨z0,z1,zf,zL⟩:=rw2 zd;have zN:¬ W.heap.size+1=w2.heap.size:=(by omega);clear zd;have vd:w2.heap[w1.heap.size]?=some (.cells #[.string x.nm,.string x.ds,.int .i64 x.fl,.int .i64 x.lo,.int .i64 x.st,.slice sa sk so] 47 (0,0)):=(hb.block (w1.heap.size) (by first|omega|(simp;try omega))).trans (halloc1 _ _);(try clear vB v0 v1 v2 v3 v4 v5 vf vL vN);have vB:Hid _:=vd;obtain ⟨v0,v1,v2,v3,v4,v5,vf,vL⟩:=rw6 vd;have vN:¬ w1.heap.size=w2.heap.size:=(by omega);clear vd;have Bw2:Hid (Below W.heap.size W w2):=bstep (by repeat (first|refine Below.setCell ?_ (by simp;try omega) _|refine Below.alloc ?_ (by have:=Bw1.out.size;simp;try omega) _|refine Below.drew ?_|exact Bw1.out)) hb;clear hb HF)
          | (go_at_call 94;refine (HU2.out _ (by repeat (first|refine Below.setCell ?_ (by simp;try omega) _|refine Below.alloc ?_ (by have:=Bw2.out.size;simp;try omega) _|refine Below.drew ?_|exact Bw2.out))).mono ?_;rintro e w3 ⟨rfl,hb⟩;have zd:w3.heap[W.heap.size+1]?=some (.cells #[.int .i64 0,.int .i64 0] 24 (0,0)):=(hb.block (W.heap.size+1) (by first|omega|(simp;try omega))).trans (hkeep zB.out);(try clear zB z0 z1 zf zL zN);have zB:Hid _:=zd;obtain ⟨z0,z1,zf,zL⟩:=rw2 zd;have zN:¬ W.heap.size+1=w3.heap.size:=(by omega);clear zd;have Bw3:Hid (Below W.heap.size W w3):=bstep (by repeat (first|refine Below.setCell ?_ (by simp;try omega) _|refine Below.alloc ?_ (by have:=Bw2.out.size;simp;try omega) _|refine Below.drew ?_|exact Bw2.out)) hb;clear hb HU2))
        exact bodyPost_ret (v:=idE ((u1,u2),u3)) (by simp [results,Tryz.results38,go_sem,idE, *]) rfl ⟨rfl,(by repeat (first|refine Below.setCell ?_ (by simp;try omega) _|refine Below.alloc ?_ (by have:=Bw3.out.size;simp;try omega) _|refine Below.drew ?_|exact Bw3.out))⟩
      · rw [if_neg hg]
        clear HU2
        go_enter Tryz.func38,Tryz.ntmps38
        go_wp2_with (first
          | (go_at_call 92;refine (HR.out _ (by repeat (first|exact Below.refl _ _|refine Below.setCell ?_ (by simp;try omega) _|refine Below.alloc ?_ (by simp;try omega) _|refine Below.drew ?_))).mono ?_;rintro e w1 ⟨⟨sa,sk,so,rfl⟩,hb⟩;have ad:w1.heap[W.heap.size]?=some (.cells #[.int .i64 c,.int .i64 i] 24 (0,0)):=(hb.block (W.heap.size) (by first|omega|(simp;try omega))).trans (hkeep (halloc1 _ _));(try clear aB a0 a1 af aL aN);have aB:Hid _:=ad;obtain ⟨a0,a1,af,aL⟩:=rw2 ad;have aN:¬ W.heap.size=w1.heap.size:=(by omega);clear ad;have zd:w1.heap[W.heap.size+1]?=some (.cells #[.int .i64 0,.int .i64 0] 24 (0,0)):=(hb.block (W.heap.size+1) (by first|omega|(simp;try omega))).trans (halloc2 _ _ (by simp));(try clear zB z0 z1 zf zL zN);have zB:Hid _:=zd;obtain ⟨z0,z1,zf,zL⟩:=rw2 zd;have zN:¬ W.heap.size+1=w1.heap.size:=(by omega);clear zd;have Bw1:Hid (Below W.heap.size W w1):=bstep (by repeat (first|exact Below.refl _ _|refine Below.setCell ?_ (by simp;try omega) _|refine Below.alloc ?_ (by simp;try omega) _|refine Below.drew ?_)) hb;clear hb HR)
          | (go_at_call 22;refine (HF.out _ (by repeat (first|refine Below.setCell ?_ (by simp;try omega) _|refine Below.alloc ?_ (by have:=Bw1.out.size;simp;try omega) _|refine Below.drew ?_|exact Bw1.out))).mono ?_;rintro e w2 ⟨rfl,hb⟩;have ad:w2.heap[W.heap.size]?=some (.cells #[.int .i64 c,.int .i64 i] 24 (0,0)):=(hb.block (W.heap.size) (by first|omega|(simp;try omega))).trans (hkeep aB.out);(try clear aB a0 a1 af aL aN);have aB:Hid _:=ad;obtain ⟨a0,a1,af,aL⟩:=rw2 ad;have aN:¬ W.heap.size=w2.heap.size:=(by omega);clear ad;have zd:w2.heap[W.heap.size+1]?=some (.cells #[.int .i64 0,.int .i64 0] 24 (0,0)):=(hb.block (W.heap.size+1) (by first|omega|(simp;try omega))).trans (hkeep zB.out);(try clear zB z0 z1 zf zL zN);have zB:Hid _:=zd;obtain ⟨z0,z1,zf,zL⟩:=rw2 zd;have zN:¬ W.heap.size+1=w2.heap.size:=(by omega);clear zd;have vd:w2.heap[w1.heap.size]?=some (.cells #[.string x.nm,.string x.ds,.int .i64 x.fl,.int .i64 x.lo,.int .i64 x.st,.slice sa sk so] 47 (0,0)):=(hb.block (w1.heap.size) (by first|omega|(simp;try omega))).trans (halloc1 _ _);(try clear vB v0 v1 v2 v3 v4 v5 vf vL vN);have vB:Hid _:=vd;obtain ⟨v0,v1,v2,v3,v4,v5,vf,vL⟩:=rw6 vd;have vN:¬ w1.heap.size=w2.heap.size:=(by omega);clear vd;have Bw2:Hid (Below W.heap.size W w2):=bstep (by repeat (first|refine Below.setCell ?_ (by simp;try omega) _|refine Below.alloc ?_ (by have:=Bw1.out.size;simp;try omega) _|refine Below.drew ?_|exact Bw1.out)) hb;clear hb HF)
          | (go_at_call 93;refine (HO2.out _ (by repeat (first|refine Below.setCell ?_ (by simp;try omega) _|refine Below.alloc ?_ (by have:=Bw2.out.size;simp;try omega) _|refine Below.drew ?_|exact Bw2.out))).mono ?_;rintro e w3 ⟨rfl,hb⟩;have zd:w3.heap[W.heap.size+1]?=some (.cells #[.int .i64 0,.int .i64 0] 24 (0,0)):=(hb.block (W.heap.size+1) (by first|omega|(simp;try omega))).trans (hkeep zB.out);(try clear zB z0 z1 zf zL zN);have zB:Hid _:=zd;obtain ⟨z0,z1,zf,zL⟩:=rw2 zd;have zN:¬ W.heap.size+1=w3.heap.size:=(by omega);clear zd;have Bw3:Hid (Below W.heap.size W w3):=bstep (by repeat (first|refine Below.setCell ?_ (by simp;try omega) _|refine Below.alloc ?_ (by have:=Bw2.out.size;simp;try omega) _|refine Below.drew ?_|exact Bw2.out)) hb;clear hb HO2))
        exact bodyPost_ret (v:=idE ((o1,o2),o3)) (by simp [results,Tryz.results38,go_sem,idE, *]) rfl ⟨rfl,(by repeat (first|refine Below.setCell ?_ (by simp;try omega) _|refine Below.alloc ?_ (by have:=Bw3.out.size;simp;try omega) _|refine Below.drew ?_|exact Bw3.out))⟩
set_option maxHeartbeats 2000000 in
theorem itf_c {b:Nat} {ps:List Plc} {W:World} (h:WAt b ps W) (hi:WI ps) (r c i:Int):Calls Tryz.prog 40 #[.pointer (some ⟨b,0,none⟩),.int .i64 r,.agg #[.int .i64 c,.int .i64 i]] W fun e w'=>e=.returned (idE (itfI ps r (c,i)))∧Below W.heap.size W w':=by
  have HI:∀ w,Below W.heap.size W w→WAt b ps w:=fun w hb=>h.below hb
  have HR:Hid (∀ w,Below W.heap.size W w→Calls Tryz.prog 92 #[.pointer (some ⟨b,0,none⟩),.int .i64 r,.agg #[.int .i64 c,.int .i64 i]] w fun e w'=>mthE (rfrI ps r (c,i)) e∧Below w.heap.size w w'):=fun w hb=>rfr_c (HI w hb) hi.pb r c i
  have HO:Hid (∀ nm ds w,Below W.heap.size W w→Calls Tryz.prog 93 #[.pointer (some ⟨b,0,none⟩),.int .i64 r,.string nm,.string ds] w fun e w'=>e=.returned (.tuple #[.agg #[.int .i64 (onI ps r nm ds).1.1,.int .i64 (onI ps r nm ds).1.2],.int .i64 (onI ps r nm ds).2])∧Below w.heap.size w w'):=fun nm ds w hb=>one_c (HI w hb) hi r nm ds
  have HU:Hid (∀ c i w,Below W.heap.size W w→Calls Tryz.prog 94 #[.pointer (some ⟨b,0,none⟩),.agg #[.int .i64 c,.int .i64 i]] w fun e w'=>e=.returned (.tuple #[.agg #[.int .i64 (unaI ps (c,i)).1.1,.int .i64 (unaI ps (c,i)).1.2],.int .i64 (unaI ps (c,i)).2])∧Below w.heap.size w w'):=fun c i w hb=>una_c (HI w hb) hi.pb c i
  have HF:Hid (∀ nm ds fl lo st sa sk so w,Below W.heap.size W w→Calls Tryz.prog 97 #[.pointer (some ⟨b,0,none⟩),.int .i64 r,.agg #[.string nm,.string ds,.int .i64 fl,.int .i64 lo,.int .i64 st,.slice sa sk so]] w fun e w'=>e=.returned (idB (uchI ps nm ds r))∧Below w.heap.size w w'):=fun nm ds fl lo st sa sk so w hb=>uch_c (HI w hb) hi r nm ds fl lo st sa sk so
  have HS:Hid (∀ c i w,Below W.heap.size W w→Calls Tryz.prog 98 #[.pointer (some ⟨b,0,none⟩),.agg #[.int .i64 c,.int .i64 i],.int .i64 1] w fun e w'=>e=.returned (.bool (hasS ps c i 1))∧Below w.heap.size w w'):=fun c i w hb=>chS_c (HI w hb) hi.pb c i 1
  unfold itfI
  cases hD:rfrI ps r (c,i) with
  | error x =>
    have hx:x≠0:=by rcases rfr_err hD with rfl|rfl <;> decide
    rw [hD] at HR
    simp only [mthE] at HR
    clear h hi HI hD HO HU HF HS
    go_enter Tryz.func40,Tryz.ntmps40
    go_wp2_with (first
      | (go_at_call 92;refine (HR.out _ (by repeat (first|exact Below.refl _ _|refine Below.setCell ?_ (by simp;try omega) _|refine Below.alloc ?_ (by simp;try omega) _|refine Below.drew ?_))).mono ?_;rintro e w1 ⟨rfl,hb⟩;have ad:w1.heap[W.heap.size]?=some (.cells #[.int .i64 c,.int .i64 i] 24 (0,0)):=(hb.block (W.heap.size) (by first|omega|(simp;try omega))).trans (hkeep (halloc1 _ _));(try clear aB a0 a1 af aL aN);have aB:Hid _:=ad;obtain ⟨a0,a1,af,aL⟩:=rw2 ad;have aN:¬ W.heap.size=w1.heap.size:=(by omega);clear ad;have zd:w1.heap[W.heap.size+1]?=some (.cells #[.int .i64 0,.int .i64 0] 24 (0,0)):=(hb.block (W.heap.size+1) (by first|omega|(simp;try omega))).trans (halloc2 _ _ (by simp));(try clear zB z0 z1 zf zL zN);have zB:Hid _:=zd;obtain ⟨z0,z1,zf,zL⟩:=rw2 zd;have zN:¬ W.heap.size+1=w1.heap.size:=(by omega);clear zd;have Bw1:Hid (Below W.heap.size W w1):=bstep (by repeat (first|exact Below.refl _ _|refine Below.setCell ?_ (by simp;try omega) _|refine Below.alloc ?_ (by simp;try omega) _|refine Below.drew ?_)) hb;clear hb HR))
    exact bodyPost_ret (v:=idE ((0,0),x)) (by simp [results,Tryz.results40,go_sem,idE, *]) rfl ⟨rfl,(by repeat (first|refine Below.setCell ?_ (by simp;try omega) _|refine Below.alloc ?_ (by have:=Bw1.out.size;simp;try omega) _|refine Below.drew ?_|exact Bw1.out))⟩
  | ok x =>
    rw [hD] at HR
    simp only [mthE] at HR
    simp only
    have HF2:Hid (∀ fl lo st sa sk so w,Below W.heap.size W w→Calls Tryz.prog 97 #[.pointer (some ⟨b,0,none⟩),.int .i64 r,.agg #[.string x.nm,.string x.ds,.int .i64 fl,.int .i64 lo,.int .i64 st,.slice sa sk so]] w fun e w'=>e=.returned (idB (uchI ps x.nm x.ds r))∧Below w.heap.size w w'):=HF.out x.nm x.ds
    clear HF
    generalize uchI ps x.nm x.ds r=G at *
    obtain ⟨⟨g1,g2⟩,g3⟩:=G
    simp only [idB] at HF2
    have HO2:Hid _:=HO.out x.nm x.ds
    have HU2:Hid _:=HU.out g1 g2
    have HS2:Hid _:=HS.out g1 g2
    generalize onI ps r x.nm x.ds=O at *
    simp only
    generalize unaI ps (g1,g2)=U at *
    generalize hasS ps g1 g2 1=S at *
    obtain ⟨⟨o1,o2⟩,o3⟩:=O
    obtain ⟨⟨u1,u2⟩,u3⟩:=U
    simp only at HO2 HU2 HS2
    clear h hi HI hD HO HU HS
    cases hS:hasI x.fl 10
    case true =>
      rw [hasI] at hS
      clear HF2 HO2 HU2 HS2
      go_enter Tryz.func40,Tryz.ntmps40
      go_wp2_with (first
        | (go_at_call 92;refine (HR.out _ (by repeat (first|exact Below.refl _ _|refine Below.setCell ?_ (by simp;try omega) _|refine Below.alloc ?_ (by simp;try omega) _|refine Below.drew ?_))).mono ?_;rintro e w1 ⟨⟨sa,sk,so,rfl⟩,hb⟩;have ad:w1.heap[W.heap.size]?=some (.cells #[.int .i64 c,.int .i64 i] 24 (0,0)):=(hb.block (W.heap.size) (by first|omega|(simp;try omega))).trans (hkeep (halloc1 _ _));(try clear aB a0 a1 af aL aN);have aB:Hid _:=ad;obtain ⟨a0,a1,af,aL⟩:=rw2 ad;have aN:¬ W.heap.size=w1.heap.size:=(by omega);clear ad;have zd:w1.heap[W.heap.size+1]?=some (.cells #[.int .i64 0,.int .i64 0] 24 (0,0)):=(hb.block (W.heap.size+1) (by first|omega|(simp;try omega))).trans (halloc2 _ _ (by simp));(try clear zB z0 z1 zf zL zN);have zB:Hid _:=zd;obtain ⟨z0,z1,zf,zL⟩:=rw2 zd;have zN:¬ W.heap.size+1=w1.heap.size:=(by omega);clear zd;have Bw1:Hid (Below W.heap.size W w1):=bstep (by repeat (first|exact Below.refl _ _|refine Below.setCell ?_ (by simp;try omega) _|refine Below.alloc ?_ (by simp;try omega) _|refine Below.drew ?_)) hb;clear hb HR))
      exact bodyPost_ret (v:=idE ((0,0),23)) (by simp [results,Tryz.results40,go_sem,idE, *]) rfl ⟨rfl,(by repeat (first|refine Below.setCell ?_ (by simp;try omega) _|refine Below.alloc ?_ (by have:=Bw1.out.size;simp;try omega) _|refine Below.drew ?_|exact Bw1.out))⟩
    case false =>
      rw [hasI] at hS
      cases g3
      case false =>
        clear HU2 HS2
        go_enter Tryz.func40,Tryz.ntmps40
        go_wp2_with (first
          | (go_at_call 92;refine (HR.out _ (by repeat (first|exact Below.refl _ _|refine Below.setCell ?_ (by simp;try omega) _|refine Below.alloc ?_ (by simp;try omega) _|refine Below.drew ?_))).mono ?_;rintro e w1 ⟨⟨sa,sk,so,rfl⟩,hb⟩;have ad:w1.heap[W.heap.size]?=some (.cells #[.int .i64 c,.int .i64 i] 24 (0,0)):=(hb.block (W.heap.size) (by first|omega|(simp;try omega))).trans (hkeep (halloc1 _ _));(try clear aB a0 a1 af aL aN);have aB:Hid _:=ad;obtain ⟨a0,a1,af,aL⟩:=rw2 ad;have aN:¬ W.heap.size=w1.heap.size:=(by omega);clear ad;have zd:w1.heap[W.heap.size+1]?=some (.cells #[.int .i64 0,.int .i64 0] 24 (0,0)):=(hb.block (W.heap.size+1) (by first|omega|(simp;try omega))).trans (halloc2 _ _ (by simp));(try clear zB z0 z1 zf zL zN);have zB:Hid _:=zd;obtain ⟨z0,z1,zf,zL⟩:=rw2 zd;have zN:¬ W.heap.size+1=w1.heap.size:=(by omega);clear zd;have Bw1:Hid (Below W.heap.size W w1):=bstep (by repeat (first|exact Below.refl _ _|refine Below.setCell ?_ (by simp;try omega) _|refine Below.alloc ?_ (by simp;try omega) _|refine Below.drew ?_)) hb;clear hb HR)
          | (go_at_call 97;refine (HF2.out _ _ _ _ _ _ _ (by repeat (first|refine Below.setCell ?_ (by simp;try omega) _|refine Below.alloc ?_ (by have:=Bw1.out.size;simp;try omega) _|refine Below.drew ?_|exact Bw1.out))).mono ?_;rintro e w2 ⟨rfl,hb⟩;have ad:w2.heap[W.heap.size]?=some (.cells #[.int .i64 c,.int .i64 i] 24 (0,0)):=(hb.block (W.heap.size) (by first|omega|(simp;try omega))).trans (hkeep aB.out);(try clear aB a0 a1 af aL aN);have aB:Hid _:=ad;obtain ⟨a0,a1,af,aL⟩:=rw2 ad;have aN:¬ W.heap.size=w2.heap.size:=(by omega);clear ad;have zd:w2.heap[W.heap.size+1]?=some (.cells #[.int .i64 0,.int .i64 0] 24 (0,0)):=(hb.block (W.heap.size+1) (by first|omega|(simp;try omega))).trans (hkeep zB.out);(try clear zB z0 z1 zf zL zN);have zB:Hid _:=zd;obtain ⟨z0,z1,zf,zL⟩:=rw2 zd;have zN:¬ W.heap.size+1=w2.heap.size:=(by omega);clear zd;have vd:w2.heap[w1.heap.size]?=some (.cells #[.string x.nm,.string x.ds,.int .i64 x.fl,.int .i64 x.lo,.int .i64 x.st,.slice sa sk so] 47 (0,0)):=(hb.block (w1.heap.size) (by first|omega|(simp;try omega))).trans (halloc1 _ _);(try clear vB v0 v1 v2 v3 v4 v5 vf vL vN);have vB:Hid _:=vd;obtain ⟨v0,v1,v2,v3,v4,v5,vf,vL⟩:=rw6 vd;have vN:¬ w1.heap.size=w2.heap.size:=(by omega);clear vd;have Bw2:Hid (Below W.heap.size W w2):=bstep (by repeat (first|refine Below.setCell ?_ (by simp;try omega) _|refine Below.alloc ?_ (by have:=Bw1.out.size;simp;try omega) _|refine Below.drew ?_|exact Bw1.out)) hb;clear hb HF2)
          | (go_at_call 93;refine (HO2.out _ (by repeat (first|refine Below.setCell ?_ (by simp;try omega) _|refine Below.alloc ?_ (by have:=Bw2.out.size;simp;try omega) _|refine Below.drew ?_|exact Bw2.out))).mono ?_;rintro e w3 ⟨rfl,hb⟩;have zd:w3.heap[W.heap.size+1]?=some (.cells #[.int .i64 0,.int .i64 0] 24 (0,0)):=(hb.block (W.heap.size+1) (by first|omega|(simp;try omega))).trans (hkeep zB.out);(try clear zB z0 z1 zf zL zN);have zB:Hid _:=zd;obtain ⟨z0,z1,zf,zL⟩:=rw2 zd;have zN:¬ W.heap.size+1=w3.heap.size:=(by omega);clear zd;have Bw3:Hid (Below W.heap.size W w3):=bstep (by repeat (first|refine Below.setCell ?_ (by simp;try omega) _|refine Below.alloc ?_ (by have:=Bw2.out.size;simp;try omega) _|refine Below.drew ?_|exact Bw2.out)) hb;clear hb HO2))
        exact bodyPost_ret (v:=idE ((o1,o2),o3)) (by simp [results,Tryz.results40,go_sem,idE, *]) rfl ⟨rfl,(by repeat (first|refine Below.setCell ?_ (by simp;try omega) _|refine Below.alloc ?_ (by have:=Bw3.out.size;simp;try omega) _|refine Below.drew ?_|exact Bw3.out))⟩
      case true =>
        clear HO2
        cases S
        case false =>
          clear HU2
          go_enter Tryz.func40,Tryz.ntmps40
          go_wp2_with (first
            | (go_at_call 92;refine (HR.out _ (by repeat (first|exact Below.refl _ _|refine Below.setCell ?_ (by simp;try omega) _|refine Below.alloc ?_ (by simp;try omega) _|refine Below.drew ?_))).mono ?_;rintro e w1 ⟨⟨sa,sk,so,rfl⟩,hb⟩;have ad:w1.heap[W.heap.size]?=some (.cells #[.int .i64 c,.int .i64 i] 24 (0,0)):=(hb.block (W.heap.size) (by first|omega|(simp;try omega))).trans (hkeep (halloc1 _ _));(try clear aB a0 a1 af aL aN);have aB:Hid _:=ad;obtain ⟨a0,a1,af,aL⟩:=rw2 ad;have aN:¬ W.heap.size=w1.heap.size:=(by omega);clear ad;have zd:w1.heap[W.heap.size+1]?=some (.cells #[.int .i64 0,.int .i64 0] 24 (0,0)):=(hb.block (W.heap.size+1) (by first|omega|(simp;try omega))).trans (halloc2 _ _ (by simp));(try clear zB z0 z1 zf zL zN);have zB:Hid _:=zd;obtain ⟨z0,z1,zf,zL⟩:=rw2 zd;have zN:¬ W.heap.size+1=w1.heap.size:=(by omega);clear zd;have Bw1:Hid (Below W.heap.size W w1):=bstep (by repeat (first|exact Below.refl _ _|refine Below.setCell ?_ (by simp;try omega) _|refine Below.alloc ?_ (by simp;try omega) _|refine Below.drew ?_)) hb;clear hb HR)
            | (go_at_call 97;refine (HF2.out _ _ _ _ _ _ _ (by repeat (first|refine Below.setCell ?_ (by simp;try omega) _|refine Below.alloc ?_ (by have:=Bw1.out.size;simp;try omega) _|refine Below.drew ?_|exact Bw1.out))).mono ?_;rintro e w2 ⟨rfl,hb⟩;have ad:w2.heap[W.heap.size]?=some (.cells #[.int .i64 c,.int .i64 i] 24 (0,0)):=(hb.block (W.heap.size) (by first|omega|(simp;try omega))).trans (hkeep aB.out);(try clear aB a0 a1 af aL aN);have aB:Hid _:=ad;obtain ⟨a0,a1,af,aL⟩:=rw2 ad;have aN:¬ W.heap.size=w2.heap.size:=(by omega);clear ad;have zd:w2.heap[W.heap.size+1]?=some (.cells #[.int .i64 0,.int .i64 0] 24 (0,0)):=(hb.block (W.heap.size+1) (by first|omega|(simp;try omega))).trans (hkeep zB.out);(try clear zB z0 z1 zf zL zN);have zB:Hid _:=zd;obtain ⟨z0,z1,zf,zL⟩:=rw2 zd;have zN:¬ W.heap.size+1=w2.heap.size:=(by omega);clear zd;have vd:w2.heap[w1.heap.size]?=some (.cells #[.string x.nm,.string x.ds,.int .i64 x.fl,.int .i64 x.lo,.int .i64 x.st,.slice sa sk so] 47 (0,0)):=(hb.block (w1.heap.size) (by first|omega|(simp;try omega))).trans (halloc1 _ _);(try clear vB v0 v1 v2 v3 v4 v5 vf vL vN);have vB:Hid _:=vd;obtain ⟨v0,v1,v2,v3,v4,v5,vf,vL⟩:=rw6 vd;have vN:¬ w1.heap.size=w2.heap.size:=(by omega);clear vd;have Bw2:Hid (Below W.heap.size W w2):=bstep (by repeat (first|refine Below.setCell ?_ (by simp;try omega) _|refine Below.alloc ?_ (by have:=Bw1.out.size;simp;try omega) _|refine Below.drew ?_|exact Bw1.out)) hb;clear hb HF2)
            | (go_at_call 98;refine (HS2.out _ (by repeat (first|refine Below.setCell ?_ (by simp;try omega) _|refine Below.alloc ?_ (by have:=Bw2.out.size;simp;try omega) _|refine Below.drew ?_|exact Bw2.out))).mono ?_;rintro e w3 ⟨rfl,hb⟩;have zd:w3.heap[W.heap.size+1]?=some (.cells #[.int .i64 0,.int .i64 0] 24 (0,0)):=(hb.block (W.heap.size+1) (by first|omega|(simp;try omega))).trans (hkeep zB.out);(try clear zB z0 z1 zf zL zN);have zB:Hid _:=zd;obtain ⟨z0,z1,zf,zL⟩:=rw2 zd;have zN:¬ W.heap.size+1=w3.heap.size:=(by omega);clear zd;have Bw3:Hid (Below W.heap.size W w3):=bstep (by repeat (first|refine Below.setCell ?_ (by simp;try omega) _|refine Below.alloc ?_ (by have:=Bw2.out.size;simp;try omega) _|refine Below.drew ?_|exact Bw2.out)) hb;clear hb HS2))
          exact bodyPost_ret (v:=idE ((0,0),22)) (by simp [results,Tryz.results40,go_sem,idE, *]) rfl ⟨rfl,(by repeat (first|refine Below.setCell ?_ (by simp;try omega) _|refine Below.alloc ?_ (by have:=Bw3.out.size;simp;try omega) _|refine Below.drew ?_|exact Bw3.out))⟩
        case true =>
          go_enter Tryz.func40,Tryz.ntmps40
          go_wp2_with (first
            | (go_at_call 92;refine (HR.out _ (by repeat (first|exact Below.refl _ _|refine Below.setCell ?_ (by simp;try omega) _|refine Below.alloc ?_ (by simp;try omega) _|refine Below.drew ?_))).mono ?_;rintro e w1 ⟨⟨sa,sk,so,rfl⟩,hb⟩;have ad:w1.heap[W.heap.size]?=some (.cells #[.int .i64 c,.int .i64 i] 24 (0,0)):=(hb.block (W.heap.size) (by first|omega|(simp;try omega))).trans (hkeep (halloc1 _ _));(try clear aB a0 a1 af aL aN);have aB:Hid _:=ad;obtain ⟨a0,a1,af,aL⟩:=rw2 ad;have aN:¬ W.heap.size=w1.heap.size:=(by omega);clear ad;have zd:w1.heap[W.heap.size+1]?=some (.cells #[.int .i64 0,.int .i64 0] 24 (0,0)):=(hb.block (W.heap.size+1) (by first|omega|(simp;try omega))).trans (halloc2 _ _ (by simp));(try clear zB z0 z1 zf zL zN);have zB:Hid _:=zd;obtain ⟨z0,z1,zf,zL⟩:=rw2 zd;have zN:¬ W.heap.size+1=w1.heap.size:=(by omega);clear zd;have Bw1:Hid (Below W.heap.size W w1):=bstep (by repeat (first|exact Below.refl _ _|refine Below.setCell ?_ (by simp;try omega) _|refine Below.alloc ?_ (by simp;try omega) _|refine Below.drew ?_)) hb;clear hb HR)
            | (go_at_call 97;refine (HF2.out _ _ _ _ _ _ _ (by repeat (first|refine Below.setCell ?_ (by simp;try omega) _|refine Below.alloc ?_ (by have:=Bw1.out.size;simp;try omega) _|refine Below.drew ?_|exact Bw1.out))).mono ?_;rintro e w2 ⟨rfl,hb⟩;have ad:w2.heap[W.heap.size]?=some (.cells #[.int .i64 c,.int .i64 i] 24 (0,0)):=(hb.block (W.heap.size) (by first|omega|(simp;try omega))).trans (hkeep aB.out);(try clear aB a0 a1 af aL aN);have aB:Hid _:=ad;obtain ⟨a0,a1,af,aL⟩:=rw2 ad;have aN:¬ W.heap.size=w2.heap.size:=(by omega);clear ad;have zd:w2.heap[W.heap.size+1]?=some (.cells #[.int .i64 0,.int .i64 0] 24 (0,0)):=(hb.block (W.heap.size+1) (by first|omega|(simp;try omega))).trans (hkeep zB.out);(try clear zB z0 z1 zf zL zN);have zB:Hid _:=zd;obtain ⟨z0,z1,zf,zL⟩:=rw2 zd;have zN:¬ W.heap.size+1=w2.heap.size:=(by omega);clear zd;have vd:w2.heap[w1.heap.size]?=some (.cells #[.string x.nm,.string x.ds,.int .i64 x.fl,.int .i64 x.lo,.int .i64 x.st,.slice sa sk so] 47 (0,0)):=(hb.block (w1.heap.size) (by first|omega|(simp;try omega))).trans (halloc1 _ _);(try clear vB v0 v1 v2 v3 v4 v5 vf vL vN);have vB:Hid _:=vd;obtain ⟨v0,v1,v2,v3,v4,v5,vf,vL⟩:=rw6 vd;have vN:¬ w1.heap.size=w2.heap.size:=(by omega);clear vd;have Bw2:Hid (Below W.heap.size W w2):=bstep (by repeat (first|refine Below.setCell ?_ (by simp;try omega) _|refine Below.alloc ?_ (by have:=Bw1.out.size;simp;try omega) _|refine Below.drew ?_|exact Bw1.out)) hb;clear hb HF2)
            | (go_at_call 98;refine (HS2.out _ (by repeat (first|refine Below.setCell ?_ (by simp;try omega) _|refine Below.alloc ?_ (by have:=Bw2.out.size;simp;try omega) _|refine Below.drew ?_|exact Bw2.out))).mono ?_;rintro e w3 ⟨rfl,hb⟩;have zd:w3.heap[W.heap.size+1]?=some (.cells #[.int .i64 0,.int .i64 0] 24 (0,0)):=(hb.block (W.heap.size+1) (by first|omega|(simp;try omega))).trans (hkeep zB.out);(try clear zB z0 z1 zf zL zN);have zB:Hid _:=zd;obtain ⟨z0,z1,zf,zL⟩:=rw2 zd;have zN:¬ W.heap.size+1=w3.heap.size:=(by omega);clear zd;have yd:w3.heap[w2.heap.size]?=some (.cells #[.int .i64 g1,.int .i64 g2] 24 (0,0)):=(hb.block (w2.heap.size) (by first|omega|(simp;try omega))).trans (halloc1 _ _);(try clear yB y0 y1 yf yL yN);have yB:Hid _:=yd;obtain ⟨y0,y1,yf,yL⟩:=rw2 yd;have yN:¬ w2.heap.size=w3.heap.size:=(by omega);clear yd;have Bw3:Hid (Below W.heap.size W w3):=bstep (by repeat (first|refine Below.setCell ?_ (by simp;try omega) _|refine Below.alloc ?_ (by have:=Bw2.out.size;simp;try omega) _|refine Below.drew ?_|exact Bw2.out)) hb;clear hb HS2)
            | (go_at_call 94;refine (HU2.out _ Bw3.out).mono ?_;rintro e w4 ⟨rfl,hb⟩;have zd:w4.heap[W.heap.size+1]?=some (.cells #[.int .i64 0,.int .i64 0] 24 (0,0)):=(hb.block (W.heap.size+1) (by first|omega|(simp;try omega))).trans (zB.out);(try clear zB z0 z1 zf zL zN);have zB:Hid _:=zd;obtain ⟨z0,z1,zf,zL⟩:=rw2 zd;have zN:¬ W.heap.size+1=w4.heap.size:=(by omega);clear zd;have Bw4:Hid (Below W.heap.size W w4):=bstep Bw3.out hb;clear hb HU2))
          exact bodyPost_ret (v:=idE ((u1,u2),u3)) (by simp [results,Tryz.results40,go_sem,idE, *]) rfl ⟨rfl,(by repeat (first|refine Below.setCell ?_ (by simp;try omega) _|refine Below.alloc ?_ (by have:=Bw4.out.size;simp;try omega) _|refine Below.drew ?_|exact Bw4.out))⟩
theorem kp2 {V w:World} {N n:Nat} {t:TypeId} {a0 a1:Value} (hb:Below N V w) (hn:n<N) (h:V.heap[n]?=some (.cells #[a0,a1] t (0,0))):Hid (w.heap[n]?=some (.cells #[a0,a1] t (0,0)))∧w.cell? ⟨n,0,none⟩=some a0∧w.cell? ⟨n,1,none⟩=some a1∧(∀ k,w.frozen? ⟨n,k,none⟩=false)∧n<w.heap.size∧¬ n=w.heap.size:=by
  have h2:=(hb.block n hn).trans h
  obtain ⟨c0,c1,f,l⟩:=rw2 h2
  exact ⟨h2,c0,c1,f,l,by omega⟩
theorem kp6 {V w:World} {N n:Nat} {t:TypeId} {a0 a1 a2 a3 a4 a5:Value} (hb:Below N V w) (hn:n<N) (h:V.heap[n]?=some (.cells #[a0,a1,a2,a3,a4,a5] t (0,0))):Hid (w.heap[n]?=some (.cells #[a0,a1,a2,a3,a4,a5] t (0,0)))∧w.cell? ⟨n,0,none⟩=some a0∧w.cell? ⟨n,1,none⟩=some a1∧w.cell? ⟨n,2,none⟩=some a2∧w.cell? ⟨n,3,none⟩=some a3∧w.cell? ⟨n,4,none⟩=some a4∧w.cell? ⟨n,5,none⟩=some a5∧(∀ k,w.frozen? ⟨n,k,none⟩=false)∧n<w.heap.size∧¬ n=w.heap.size:=by
  have h2:=(hb.block n hn).trans h
  obtain ⟨c0,c1,c2,c3,c4,c5,f,l⟩:=rw6 h2
  exact ⟨h2,c0,c1,c2,c3,c4,c5,f,l,by omega⟩
variable {ps:List Plc} {p:Plc}
theorem has10c (f:Int):hasI f 10=(hasI f 2||hasI f 8):=by
  have e10:bits .and .i64 f 10=IntKind.wrap .i64 (((BitVec.ofInt 64 f).toNat &&& 10:Nat):Int):=rfl
  have e2:bits .and .i64 f 2=IntKind.wrap .i64 (((BitVec.ofInt 64 f).toNat &&& 2:Nat):Int):=rfl
  have e8:bits .and .i64 f 8=IntKind.wrap .i64 (((BitVec.ofInt 64 f).toNat &&& 8:Nat):Int):=rfl
  have h:(BitVec.ofInt 64 f).toNat &&& 10=((BitVec.ofInt 64 f).toNat &&& 2) ||| ((BitVec.ofInt 64 f).toNat &&& 8):=by
    rw [← Nat.and_or_distrib_left];rfl
  unfold hasI
  rw [e10,e2,e8,h]
  have h2:(BitVec.ofInt 64 f).toNat &&& 2≤2:=Nat.and_le_right
  have h2':((BitVec.ofInt 64 f).toNat &&& 2) &&& 2=(BitVec.ofInt 64 f).toNat &&& 2:=by rw [Nat.and_assoc,Nat.and_self]
  have h8:(BitVec.ofInt 64 f).toNat &&& 8≤8:=Nat.and_le_right
  have h8':((BitVec.ofInt 64 f).toNat &&& 8) &&& 8=(BitVec.ofInt 64 f).toNat &&& 8:=by rw [Nat.and_assoc,Nat.and_self]
  generalize (BitVec.ofInt 64 f).toNat &&& 2=a at *
  generalize (BitVec.ofInt 64 f).toNat &&& 8=b at *
  have ha:a=0∨a=2:=by
    have:a=0∨a=1∨a=2:=by omega
    rcases this with rfl|rfl|rfl
    · exact .inl rfl
    · exact absurd h2' (by decide)
    · exact .inr rfl
  have hb:b=0∨b=8:=by
    have:b=0∨b=1∨b=2∨b=3∨b=4∨b=5∨b=6∨b=7∨b=8:=by omega
    rcases this with rfl|rfl|rfl|rfl|rfl|rfl|rfl|rfl|rfl
    · exact .inl rfl
    all_goals first|exact .inr rfl|exact absurd h8' (by decide)
  rcases ha with rfl|rfl <;> rcases hb with rfl|rfl <;> decide
def SndM (ps:List Plc):Prop:=∀ q∈ps,∀ m∈q.c.ms,∃ i n,chkM m.fl i n=0
theorem mths_eachp {iface:Bool} {all:List Mth}:∀ {l:List Mth} {k:Nat},mthsB iface all l k=true→∀ m∈l,mthB m iface=true
  | [],_,_,m,hm=>by cases hm
  | x::r,k,h,m,hm=>by
    rw [mthsB,Bool.and_eq_true,Bool.and_eq_true] at h
    rcases List.mem_cons.1 hm with rfl|hm
    · exact h.1.1
    · exact mths_eachp h.2 m hm
theorem sndM3:SndM P3:=by
  intro q hq m hm
  simp only [P3,List.mem_cons,List.not_mem_nil,or_false] at hq
  rcases hq with rfl|rfl|rfl
  · simp only [objH,objMs,List.mem_cons,List.not_mem_nil,or_false] at hm
    rcases hm with rfl|rfl|rfl <;> exact ⟨false,false,by decide⟩
  · simp only [cloH,List.not_mem_nil] at hm
  · simp only [serH,List.not_mem_nil] at hm
theorem sndM_wld (l:List Cls) (hl:∀ c∈l,ClsW c):SndM (wld l):=by
  refine wld_ind sndM3 (fun ps c h _=>?_) l hl
  cases hd:defN ps c with
  | error e=>exact h
  | ok p =>
    obtain ⟨hB,_,_,s,l,_,_,rfl⟩:=def_ok hd
    intro q hq m hm
    rcases List.mem_append.1 (show q∈ps++[_] from hq) with hq|hq
    · exact h q hq m hm
    · rw [List.mem_singleton] at hq
      subst hq
      obtain ⟨m0,hm0,rfl⟩:=List.mem_map.1 (show m∈c.ms.map hmOf from hm)
      rw [clsB,Bool.and_eq_true] at hB
      have hmb:=mths_eachp hB.2 m0 hm0
      simp only [mthB,Bool.and_eq_true,beq_iff_eq] at hmb
      exact ⟨_,_,hmb.1.1.1.2⟩
theorem SndM.meth {ps:List Plc} (h:SndM ps) {c i:Int} {m:HM} (hm:methI ps c i=some m):∃ a n,chkM m.fl a n=0:=by
  obtain ⟨k,q,_,h2,_,h4⟩:=meth_plc hm
  refine h q (List.mem_of_getElem? h2) m ?_
  rw [methP] at h4
  split at h4
  · exact List.mem_of_getElem? h4
  · cases h4
theorem priv_open {f:Int} {i n:Bool} (h:chkM f i n=0) (h2:hasI f 2=true):openI f=2∧hasI f 1024=false:=by
  have hv:¬ 1<visN f:=by
    intro hv
    rw [chkM] at h
    simp [hv] at h
  have ha:hasI f 1024=false:=by
    cases e:hasI f 1024 with
    | false=>rfl
    | true =>
      rw [chkM] at h
      simp [e,h2] at h
  refine ⟨?_,ha⟩
  unfold visN at hv
  unfold openI
  cases e1:hasI f 1 <;> cases e4:hasI f 4 <;> simp [e1,e4,h2] at hv ⊢
theorem nsk_ne (ps:List Plc) (nm ds:ByteArray) (a:Int):∀ l:List Nat,∀ m∈nskL ps nm ds a l,m.1≠a
  | [],m,hm=>by cases hm
  | c::r,m,hm=>by
    rw [nskL] at hm
    split at hm
    · rename_i hh
      rcases List.mem_cons.1 hm with rfl|hm
      · exact hh.2
      · exact nsk_ne ps nm ds a r m hm
    · exact nsk_ne ps nm ds a r m hm
theorem gth_priv {ps:List Plc} {a:Int×Int} {x:HM} (hx:methI ps a.1 a.2=some x) (hs:stB x.fl=false) (ho:openI x.fl=2):∀ l:List (Int×Int),(∀ m∈l,m.1≠a.1)→l.foldl (gth1 ps a) [a]=[a]
  | [],_=>rfl
  | c::r,h=>by
    have hc:gth1 ps a [a] c=[a]:=by
      have e1:eqI c a=false:=by
        cases e:eqI c a with
        | false=>rfl
        | true=>exact absurd (congrArg Prod.fst (eqI_iff.1 e)) (h c List.mem_cons_self)
      have e2:plI ps c a=false:=by
        rw [plI,hx]
        cases methI ps c.1 c.2 with
        | none=>rfl
        | some y=>simp only [plnB,reaB,ho,if_true,Bool.and_false]
      rw [gth1,e1,List.any_cons,e2]
      rfl
    rw [List.foldl_cons,hc]
    exact gth_priv hx hs ho r (fun m hm=>h m (List.mem_cons_of_mem _ hm))
theorem fir_priv {ps:List Plc} {r:Nat} {q:Plc} {a:Int×Int} {x:HM} (hr:ps[r]?=some q) (hx:methI ps a.1 a.2=some x) (hs:stB x.fl=false) (ho:openI x.fl=2):firI ps (r:Int) a=if ((chL (ps.map nd) r).map (fun k:Nat=>(k:Int))).contains a.1 then (a,0) else ((0,0),6):=by
  rw [firI_eq hx rfl hr]
  have hg:gthL ps a (askL ps x a (chL (ps.map nd) r).reverse)=[a]:=by
    rw [gthL,askL,List.foldl_cons]
    have h1:gth1 ps a [] a=[a]:=by
      rw [gth1,stI,hx]
      simp only [hs,eqI_iff.2 rfl]
      rfl
    rw [h1]
    exact gth_priv hx hs ho _ (nsk_ne ps _ _ _ _)
  rw [lstI_last (x:=a) (by rw [hg];rfl)]
theorem priv_facts {ps:List Plc} (hW:WI ps) (hS:SndM ps) {r:Nat} {q:Plc} {a:Int×Int} {x:HM} (hr:ps[r]?=some q) (hx:methI ps a.1 a.2=some x) (hi:ifcI ps (r:Int)=false) (hp:hasI x.fl 2=true) (hs:hasI x.fl 8=false) :
    itfI ps (r:Int) a=((0,0),23)∧(((chL (ps.map nd) r).map (fun k:Nat=>(k:Int))).contains a.1=true→virI ps (r:Int) a=(a,0)) ∧
    (((chL (ps.map nd) r).map (fun k:Nat=>(k:Int))).contains a.1=false→(virI ps (r:Int) a).2=24∨(virI ps (r:Int) a).2=23∨((virI ps (r:Int) a).2=0∧ifcI ps (virI ps (r:Int) a).1.1=true)):=by
  obtain ⟨_,_,hc⟩:=hS.meth hx
  obtain ⟨ho,ha⟩:=priv_open hc hp
  have hcr:crdI ps (r:Int) a=.ok x:=by rw [crdI,plcI_nat,hr,hx]
  have hrf:rfrI ps (r:Int) a=.ok x:=by rw [rfrI,hcr,hi];rfl
  have hst:stB x.fl=false:=hs
  have hfir:=fir_priv hr hx hst ho
  have hun:unaI ps a=(a,0):=by rw [unaI,hasS,hx];simp only [ha];rfl
  refine ⟨?_,fun hk=>?_,fun hk=>?_⟩
  · rw [itfI,hrf]
    simp only [has10c,hp,Bool.true_or,if_true]
  · rw [virI,hrf]
    simp only [hst,Bool.false_eq_true,if_false]
    rw [hfir,if_pos hk]
    simp only [if_true]
    exact hun
  · have hv:virI ps (r:Int) a=onI ps (r:Int) x.nm x.ds:=by
      rw [virI,hrf]
      simp only [hst,Bool.false_eq_true,if_false]
      rw [hfir,hk]
      simp
    rw [hv,onI,plcI_nat,hr]
    simp only
    have hone:∀ L:List (Int×Int),(oneV ps L).2=24∨(oneV ps L).2=23∨((oneV ps L).2=0∧(oneV ps L).1∈L):=by
      intro L
      by_cases h0:(oneV ps L).2=0
      · exact .inr (.inr ⟨h0,one_mem (Prod.ext rfl h0)⟩)
      · rw [oneV] at h0 ⊢
        split
        · exact .inl rfl
        · rename_i m hm;rw [hm] at h0;exact absurd rfl h0
        · exact .inr (.inl rfl)
    rcases hone (candL ps x.nm x.ds q.cl) with h|h|⟨h,h2⟩
    · exact .inl h
    · exact .inr (.inl h)
    · exact .inr (.inr ⟨h,(cand_facts hW hr h2).2.1⟩)
theorem clss_keep {w w':World} {v:Value} {l:List Cls} (h:IsClss w v l) (hb:Below w.heap.size w w'):IsClss w' v l:=by
  obtain ⟨ao,cap,rfl,h1,h2,h3⟩:=h
  refine ⟨ao,cap,rfl,h1,h2,fun hne=>?_⟩
  obtain ⟨bk,o,e,hlt,hc⟩:=h3 hne
  refine ⟨bk,o,e,Nat.lt_of_lt_of_le hlt hb.size,fun k c hk=>?_⟩
  obtain ⟨vi,vm,h4,h5⟩:=hc k c hk
  exact ⟨vi,vm,fun j u hj=>(hb.cell hlt).trans (h4 j u hj),h5.keep hb⟩
set_option maxHeartbeats 4000000 in
theorem built12_c (v:Value) (l:List Cls) (W:World) (h:IsClss W v l):Calls Tryz.prog 36 #[v] W fun e w'=>(∃ b,e=.returned (.pointer (some ⟨b,0,none⟩))∧WAt b (wld l) w')∧Below W.heap.size W w':=by
  have hCW:=clss_w h
  obtain ⟨ao,cap,rfl,h1,h2,h3⟩:=h
  unfold maxLen at h2
  obtain ⟨L,hL⟩:∃ L,l.length=L:=⟨_,rfl⟩
  have HL:Hid (l.length=L):=hL
  have HI:Hid _:=h3
  have HCW:Hid (∀ c∈l,ClsW c):=hCW
  rw [hL] at h1 ⊢
  clear hL h3 hCW
  have HN:Hid (∀ w:World,Calls Tryz.prog 51 #[] w fun e w'=>e=.returned (.pointer (some ⟨w.heap.size+1,0,none⟩))∧(∃ vp pv,HW w' w.heap.size (w.heap.size+1) w.heap.size P3 vp pv)∧Below w.heap.size w w'):=new_any
  go_enter Tryz.func36,Tryz.ntmps36
  go_wp2_with (first
    | (go_at_call 51;refine (HN.out _).mono ?_;rintro e w2 ⟨rfl,hw,hb⟩;have H2:Hid (∃ vp pv,HW w2 W.heap.size (W.heap.size+1) W.heap.size P3 vp pv):=hw;have B2:Hid (Below W.heap.size W w2):=hb;clear hb hw HN))
  go_loopw [4] (fun iv wr=>∃ (i:Nat),iv=.int .i64 i∧i≤L∧Hid (∃ vp pv,HW wr W.heap.size (W.heap.size+1) W.heap.size (wld (l.take i)) vp pv)∧Hid (Below W.heap.size W wr)) (fun iv _=>L - (intOf iv).toNat)
  case atStart=>exact ⟨0,rfl,Nat.zero_le _,H2,B2⟩
  case round =>
    clear H2 B2
    obtain ⟨i,rfl,hi,hHW,hB⟩:=hrel
    by_cases hlt:i<L
    · obtain ⟨c,hc⟩:∃ c,l[i]?=some c:=⟨_,List.getElem?_eq_getElem (by rw [HL.out];exact hlt)⟩
      obtain ⟨bk,o,rfl,hbk,hcl⟩:=HI.out (fun e=>by rw [e] at hc;simp at hc)
      obtain ⟨vi,vm,hcell,hin⟩:=hcl i c hc
      have bel:Below W.heap.size W wr:=hB.out
      have p0:wr.cell? ⟨bk,o+i * 6,none⟩=some (.string c.nm):=(bel.cell (p:=⟨bk,o+i * 6,none⟩) hbk).trans (hcell 0 _ rfl)
      have p1:wr.cell? ⟨bk,o+i * 6+1,none⟩=some (.string c.su):=(bel.cell (p:=⟨bk,o+i * 6+1,none⟩) hbk).trans (hcell 1 _ rfl)
      have p2:wr.cell? ⟨bk,o+i * 6+2,none⟩=some vi:=(bel.cell (p:=⟨bk,o+i * 6+2,none⟩) hbk).trans (hcell 2 _ rfl)
      have p3:wr.cell? ⟨bk,o+i * 6+3,none⟩=some (.int .i64 c.fl):=(bel.cell (p:=⟨bk,o+i * 6+3,none⟩) hbk).trans (hcell 3 _ rfl)
      have p4:wr.cell? ⟨bk,o+i * 6+4,none⟩=some (.int .i64 c.ld):=(bel.cell (p:=⟨bk,o+i * 6+4,none⟩) hbk).trans (hcell 4 _ rfl)
      have p5:wr.cell? ⟨bk,o+i * 6+5,none⟩=some vm:=(bel.cell (p:=⟨bk,o+i * 6+5,none⟩) hbk).trans (hcell 5 _ rfl)
      have hWI:WI (wld (l.take i)):=wld_wi _ (fun c hc=>HCW.out c (List.mem_of_mem_take hc))
      have HD:Hid (Calls Tryz.prog 47 #[.pointer (some ⟨W.heap.size+1,0,none⟩),.agg #[.string c.nm,.string c.su,vi,.int .i64 c.fl,.int .i64 c.ld,vm]] wr fun e w'=>(∃ u,e=.returned u)∧Hid (∃ vp pv,HW w' W.heap.size (W.heap.size+1) W.heap.size (wld (l.take (i+1))) vp pv)∧Hid (Below W.heap.size W w')):=by
        obtain ⟨vp,pv,hw⟩:=hHW.out
        refine (define_any W.heap.size (W.heap.size+1) W.heap.size _ vp pv c vi vm wr hw hB.out.size (hin.keep bel) hWI.nm).mono ?_
        rintro e w' ⟨rfl,hw',hb',_⟩
        rw [wld_at hc]
        exact ⟨⟨_,rfl⟩,hw',hB.out.trans hb'⟩
      clear hcl hcell hin hc bel hWI hHW hB HI
      go_wp2_with (go_at_call 47;refine HD.out.mono ?_;rintro e w3 ⟨⟨u3,rfl⟩,hw3,hb3⟩;clear HD)
      go_roundw
      case rel=>exact ⟨i+1,by go_num,by omega,hw3,hb3⟩
      case measure=>simp [intOf];omega
    · have e:i=L:=by omega
      subst e
      have HF:Hid (WAt (W.heap.size+1) (wld l) wr):=by
        obtain ⟨vp,pv,hw⟩:=hHW.out
        rw [List.take_of_length_le (by rw [HL.out];exact Nat.le_refl _)] at hw
        exact hw.wat
      clear hHW HI
      go_wp2
      exact bodyPost_ret (results_tmp rfl _ _ _) rfl ⟨⟨_,rfl,HF.out⟩,hB.out⟩
theorem vir3:virI P3 0 (0,1)=((0,1),0):=by kernel_rfl
theorem awake12_c (W:World):Calls Tryz.prog 34 #[] W fun e w'=>e=.returned (.bool true)∧Below W.heap.size W w':=by
  have HN:Hid (∀ w:World,Calls Tryz.prog 51 #[] w fun e w'=>∃ b,e=.returned (.pointer (some ⟨b,0,none⟩))∧WAt b P3 w'∧Below w.heap.size w w'):=fun w=>(new_any w).mono fun e w' zz=>⟨_,zz.1,by obtain ⟨vp,pv,hw⟩:=zz.2.1;exact hw.wat,zz.2.2⟩
  have HM:Hid (∀ (w:World) (b:Nat),WAt b P3 w→Calls Tryz.prog 38 #[.pointer (some ⟨b,0,none⟩),.int .i64 0,.agg #[.int .i64 0,.int .i64 1]] w fun e w'=>e=.returned (.tuple #[.agg #[.int .i64 0,.int .i64 1],.int .i64 0])∧Below w.heap.size w w'):=fun w b h=>(vir_c h wi3 0 0 1).mono fun e w' zz=>⟨by rw [zz.1,vir3];rfl,zz.2⟩
  have BB:Hid (Below W.heap.size W W):=Below.refl _ _
  go_enter Tryz.func34,Tryz.ntmps34
  go_wp2_with (first
    | (go_at_call 51;refine (HN.out _).mono ?_;rintro e w1 ⟨b,rfl,hw,hb⟩;have BB2:Below W.heap.size W w1:=bstep (by repeat (first|exact BB.out|exact Below.refl _ _|refine Below.setCell ?_ (by simp;try omega) _|refine Below.alloc ?_ (by have:=BB.out.size;simp;try omega) _|refine Below.drew ?_)) hb;clear BB;have BB:Hid (Below W.heap.size W w1):=BB2;(try clear HH);have HH:Hid (WAt b P3 w1):=hw;clear hw hb BB2)
    | (go_at_call 38;refine (HM.out _ _ HH.out).mono ?_;rintro e w2 ⟨rfl,hb⟩;have BB2:=bstep BB.out hb;clear BB;have BB:Hid (Below W.heap.size W w2):=BB2;clear hb BB2 HM))
  exact bodyPost_ret (results_tmp rfl _ _ _) rfl ⟨rfl,(by repeat (first|exact BB.out|exact Below.refl _ _|refine Below.setCell ?_ (by simp;try omega) _|refine Below.alloc ?_ (by have:=BB.out.size;simp;try omega) _|refine Below.drew ?_))⟩
end Go.Proofs.YtfoldbhlmmmpeaaGreat
