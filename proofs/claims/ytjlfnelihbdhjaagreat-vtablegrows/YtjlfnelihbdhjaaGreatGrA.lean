import Derived.Test.YtjlfnelihbdhjaaGreatHrQ
import Derived.Test.YtjlfnelihbdhjaaGreatHrY
import Derived.Test.YtjlfnelihbdhjaaGreatMxC
import Derived.Test.YtjlfnelihbdhjaaGreatHrS
import Derived.Test.YtjlfnelihbdhjaaGreatHrX
import Derived.Test.YtjlfnelihbdhjaaGreatFOwnA
import Derived.Test.YtjlfnelihbdhjaaGreatTypesParse
import Derived.Test.YtjlfnelihbdhjaaGreatCurB
import Derived.Test.YtjlfnelihbdhjaaGreatSoD
import Derived.Test.YtjlfnelihbdhjaaGreatOwnRefs
import Derived.Test.YtjlfnelihbdhjaaGreatOwnL
import Derived.Lib.SliceRun
import Derived.Deep.RegionHeld3
import Derived.Laws.IdiomStrings
import Derived.Deep.LoopGhost
set_option maxRecDepth 100000
namespace Go.Proofs.YtjlfnelihbdhjaaGreat
open Go.RowKit Go.Maps
def wld (l:List Cls):List Plc:=l.foldl (fun ps c=>dfP ps (defN ps c)) P3
theorem wld_snoc (l:List Cls) (c:Cls):wld (l++[c])=dfP (wld l) (defN (wld l) c):=by
  rw [wld,List.foldl_append];rfl
theorem wld_at {l:List Cls} {i:Nat} {c:Cls} (h:l[i]?=some c):wld (l.take (i+1))=dfP (wld (l.take i)) (defN (wld (l.take i)) c):=by
  rw [List.take_add_one,h];exact wld_snoc _ _
theorem wld_ind {P:List Plc→Prop} (h3:P P3) (hd:∀ ps c,P ps→ClsW c→P (dfP ps (defN ps c))):∀ l:List Cls,(∀ c∈l,ClsW c)→P (wld l):=by
  have key:∀ (l:List Cls) (ps:List Plc),(∀ c∈l,ClsW c)→P ps→P (l.foldl (fun ps c=>dfP ps (defN ps c)) ps):=by
    intro l
    induction l with
    | nil=>exact fun ps _ h=>h
    | cons c l ih=>exact fun ps hl h=>ih _ (fun x hx=>hl x (List.mem_cons_of_mem _ hx)) (hd ps c h (hl c (by simp)))
  exact fun l hl=>key l P3 hl h3
theorem wld_wi (l:List Cls) (hl:∀ c∈l,ClsW c):WI (wld l):=wld_ind wi3 (fun _ c h hc=>h.define c hc) l hl
theorem clss_w {w:World} {v:Value} {l:List Cls} (h:IsClss w v l):∀ c∈l,ClsW c:=by
  obtain ⟨ao,cap,e,h1,h2,h3⟩:=h
  intro c hc
  obtain ⟨bk,o,_,_,h4⟩:=h3 (fun e=>by rw [e] at hc;simp at hc)
  obtain ⟨i,hi⟩:=List.mem_iff_getElem?.1 hc
  obtain ⟨vi,vm,_,hin⟩:=h4 i c hi
  exact hin.ok
def extI (ps:List Plc) (a b:Int):Bool:=(plcI ps a).isSome&&(plcI ps b).isSome&&extB (ps.map nd) a.toNat b.toNat
theorem extends_no {b:Nat} {ps:List Plc} {W:World} (h:WAt b ps W) (x y:Int) (hxy:plcI ps x=none∨plcI ps y=none):Calls Tryz.prog 57 #[.pointer (some ⟨b,0,none⟩),.int .i64 x,.int .i64 y] W fun e w'=>e=.returned (.bool false)∧Below W.heap.size W w':=by
  have HX:Hid (∀ i z w,Below W.heap.size W w→plcI ps i=z→Calls Tryz.prog 128 #[.pointer (some ⟨b,0,none⟩),.int .i64 i] w fun e w'=>e=.returned (.bool z.isSome)∧w'=w):=fun i z w hb hi=>by
    have:=has_c (h.below hb) i
    rw [hi] at this;exact this
  clear h
  generalize hpx:plcI ps x=px at *
  generalize hpy:plcI ps y=py at *
  have HPX:Hid _:=hpx
  have HPY:Hid _:=hpy
  clear hpx hpy
  cases px with
  | none =>
    go_enter Tryz.func57,Tryz.ntmps57
    go_wp2_with (go_at_call 128;refine (HX.out _ _ _ (by repeat (first|exact Below.refl _ _|refine Below.setCell ?_ (by simp;try omega) _|refine Below.alloc ?_ (by simp;try omega) _|refine Below.drew ?_)) HPX.out).mono ?_;rintro e w9 ⟨rfl,hw9⟩;rw [hw9];clear hw9 w9)
    refine bodyPost_ret (v:=.bool false) (by simp [results,Tryz.results57,go_sem]) rfl ⟨rfl,(by repeat (first|exact Below.refl _ _|refine Below.setCell ?_ (by simp;try omega) _|refine Below.alloc ?_ (by simp;try omega) _|refine Below.drew ?_))⟩
  | some p =>
    obtain rfl:py=none:=hxy.resolve_left (by simp)
    clear hxy
    have HX1:Hid (∀ i w,Below W.heap.size W w→i=x→Calls Tryz.prog 128 #[.pointer (some ⟨b,0,none⟩),.int .i64 i] w fun e w'=>e=.returned (.bool true)∧w'=w):=fun i w hb hi=>by rw [hi];exact HX.out x _ w hb HPX.out
    have HY1:Hid (∀ i w,Below W.heap.size W w→i=y→Calls Tryz.prog 128 #[.pointer (some ⟨b,0,none⟩),.int .i64 i] w fun e w'=>e=.returned (.bool false)∧w'=w):=fun i w hb hi=>by rw [hi];exact HX.out y _ w hb HPY.out
    go_enter Tryz.func57,Tryz.ntmps57
    go_wp2_with (first
      | (go_at_call 128;refine (HX1.out _ _ (by repeat (first|exact Below.refl _ _|refine Below.setCell ?_ (by simp;try omega) _|refine Below.alloc ?_ (by simp;try omega) _|refine Below.drew ?_)) (by rfl)).mono ?_;rintro e w9 ⟨rfl,hw9⟩;rw [hw9];clear hw9 w9)
      | (go_at_call 128;refine (HY1.out _ _ (by repeat (first|exact Below.refl _ _|refine Below.setCell ?_ (by simp;try omega) _|refine Below.alloc ?_ (by simp;try omega) _|refine Below.drew ?_)) (by rfl)).mono ?_;rintro e w9 ⟨rfl,hw9⟩;rw [hw9];clear hw9 w9))
    refine bodyPost_ret (v:=.bool false) (by simp [results,Tryz.results57,go_sem]) rfl ⟨rfl,(by repeat (first|exact Below.refl _ _|refine Below.setCell ?_ (by simp;try omega) _|refine Below.alloc ?_ (by simp;try omega) _|refine Below.drew ?_))⟩
theorem extends_c {b:Nat} {ps:List Plc} {W:World} (h:WAt b ps W) (hi:WI ps) (x y:Int):Calls Tryz.prog 57 #[.pointer (some ⟨b,0,none⟩),.int .i64 x,.int .i64 y] W fun e w'=>e=.returned (.bool (extI ps x y))∧Below W.heap.size W w':=by
  rcases plcI_cases ps x with ⟨h1,_⟩|⟨k,p,rfl,h2,h1⟩
  · have e:extI ps x y=false:=by rw [extI,h1];rfl
    rw [e];exact extends_no h x y (.inl h1)
  · rcases plcI_cases ps y with ⟨g1,_⟩|⟨j,q,rfl,g2,g1⟩
    · have e:extI ps k y=false:=by rw [extI,h1,g1];rfl
      rw [e];exact extends_no h k y (.inr g1)
    · have e:extI ps k j=extB (ps.map nd) k j:=by rw [extI,h1,g1];rfl
      obtain ⟨N,mb,vp,pv,h⟩:=h
      rw [e];exact extends_yes N b mb ps vp pv k j (List.getElem?_eq_some_iff.1 h2).1 (List.getElem?_eq_some_iff.1 g2).1 hi.wo hi.hi W h
def ifcI (ps:List Plc) (i:Int):Bool:=match plcI ps i with
  | some q=>ifB q.c.fl
  | none=>false
theorem isIface_c {b:Nat} {ps:List Plc} {W:World} (h:WAt b ps W) (x:Int):Calls Tryz.prog 56 #[.pointer (some ⟨b,0,none⟩),.int .i64 x] W fun e w'=>e=.returned (.bool (ifcI ps x))∧Below W.heap.size W w':=by
  obtain ⟨N,mb,vp,pv,h⟩:=h
  rcases plcI_cases ps x with ⟨h1,h2⟩|⟨k,p,rfl,h2,h1⟩
  · have e:ifcI ps x=false:=by rw [ifcI,h1]
    rw [e];exact isIfaceW_no N b mb ps vp pv x W h h2
  · have e:ifcI ps k=ifB p.c.fl:=by rw [ifcI,h1]
    rw [e];exact isIfaceW_yes N b mb ps vp pv k p W h h2
theorem len_c {b:Nat} {ps:List Plc} {W:World} (h:WAt b ps W):Calls Tryz.prog 28 #[.pointer (some ⟨b,0,none⟩)] W fun e w'=>e=.returned (.int .i64 (ps.length:Int))∧w'=W:=by
  obtain ⟨N,mb,vp,pv,h⟩:=h
  exact len_any N b mb ps vp pv W h
def ClsR (n:Nat):Option Plc→Ending→World→Prop
  | none,e,_=>e=.returned (.tuple #[.agg #[.string ⟨#[]⟩,.string ⟨#[]⟩,.slice none 0 0,.int .i64 0,.int .i64 0,.slice none 0 0],.int .i64 3])
  | some q,e,w'=>∃ vi vm qm,e=.returned (.tuple #[.agg #[.string q.c.nm,.string q.c.su,vi,.int .i64 q.c.fl,.int .i64 q.c.ld,vm],.int .i64 0])∧OwnC w' n vi q.c.ni q.c.xi vm qm∧qm.map Prod.fst=q.c.ms
theorem class_c {b:Nat} {ps:List Plc} {W:World} (h:WAt b ps W) (hB:∀ q∈ps,PlcB q) (x:Int):Calls Tryz.prog 55 #[.pointer (some ⟨b,0,none⟩),.int .i64 x] W fun e w'=>ClsR W.heap.size (plcI ps x) e w'∧Below W.heap.size W w':=by
  obtain ⟨N,mb,vp,pv,h⟩:=h
  rcases plcI_cases ps x with ⟨h1,h2⟩|⟨k,p,rfl,h2,h1⟩
  · rw [h1];exact class_no N b mb ps vp pv x W h h2
  · rw [h1]
    refine (class_yes N b mb ps vp pv k p W h h2 (hB p (List.mem_of_getElem? h2))).mono ?_
    rintro e w' ⟨vi,vm,qm,h1,h2,h3,h4⟩
    exact ⟨⟨vi,vm,qm,h1,h2,h3⟩,h4⟩
theorem extI_nat {ps:List Plc} {a b:Nat} (ha:a<ps.length) (hb:b<ps.length):extI ps (a:Int) (b:Int)=extB (ps.map nd) a b:=by
  rw [extI,plcI_nat,plcI_nat,List.getElem?_eq_getElem ha,List.getElem?_eq_getElem hb];rfl
theorem halloc2 (w:World) {n:Nat} (o:Obj) (hn:w.heap.size=n):(w.alloc o).heap[n]?=some o:=by subst hn;exact halloc1 w o
theorem sameID_c (a b:Int×Int) (w:World):Calls Tryz.prog 24 #[.agg #[.int .i64 a.1,.int .i64 a.2],.agg #[.int .i64 b.1,.int .i64 b.2]] w fun e w'=>e=.returned (.bool ((a.1 == b.1)&&(a.2 == b.2)))∧Below w.heap.size w w':=by
  obtain ⟨a1,a2⟩:=a
  obtain ⟨b1,b2⟩:=b
  by_cases h1:a1=b1
  · by_cases h2:a2=b2
    · subst h1 h2
      go_enter Tryz.func24,Tryz.ntmps24
      go_wp2
      exact bodyPost_ret (results_tmp rfl _ _ _) rfl ⟨by simp,(by repeat (first|exact Below.refl _ _|refine Below.setCell ?_ (by simp;try omega) _|refine Below.alloc ?_ (by simp;try omega) _|refine Below.drew ?_))⟩
    · subst h1
      go_enter Tryz.func24,Tryz.ntmps24
      go_wp2
      exact bodyPost_ret (results_tmp rfl _ _ _) rfl ⟨by simp,(by repeat (first|exact Below.refl _ _|refine Below.setCell ?_ (by simp;try omega) _|refine Below.alloc ?_ (by simp;try omega) _|refine Below.drew ?_))⟩
  · go_enter Tryz.func24,Tryz.ntmps24
    go_wp2
    exact bodyPost_ret (results_tmp rfl _ _ _) rfl ⟨by simp [h1],(by repeat (first|exact Below.refl _ _|refine Below.setCell ?_ (by simp;try omega) _|refine Below.alloc ?_ (by simp;try omega) _|refine Below.drew ?_))⟩
theorem hkeep {w:World} {n:Nat} {x o:Obj} (h:w.heap[n]?=some x):(w.alloc o).heap[n]?=some x:=by
  have hb:Below w.heap.size w (w.alloc o):=(Below.refl _ w).alloc (Nat.le_refl _) _
  exact (hb.block n (Array.getElem?_eq_some_iff.1 h).1).trans h
theorem rw2 {w:World} {n:Nat} {t:TypeId} {a0 a1:Value} (h:w.heap[n]?=some (.cells #[a0,a1] t (0,0))):w.cell? ⟨n,0,none⟩=some a0∧w.cell? ⟨n,1,none⟩=some a1∧(∀ k,w.frozen? ⟨n,k,none⟩=false)∧n<w.heap.size :=
  ⟨(cell_of_row w n 0 _ _ _ h).trans rfl,(cell_of_row w n 1 _ _ _ h).trans rfl,fun k=>frozen_of_row w n k _ _ h,(Array.getElem?_eq_some_iff.1 h).1⟩
theorem rw6 {w:World} {n:Nat} {t:TypeId} {a0 a1 a2 a3 a4 a5:Value} (h:w.heap[n]?=some (.cells #[a0,a1,a2,a3,a4,a5] t (0,0))):w.cell? ⟨n,0,none⟩=some a0∧w.cell? ⟨n,1,none⟩=some a1∧w.cell? ⟨n,2,none⟩=some a2∧w.cell? ⟨n,3,none⟩=some a3∧w.cell? ⟨n,4,none⟩=some a4∧w.cell? ⟨n,5,none⟩=some a5∧(∀ k,w.frozen? ⟨n,k,none⟩=false)∧n<w.heap.size :=
  ⟨(cell_of_row w n 0 _ _ _ h).trans rfl,(cell_of_row w n 1 _ _ _ h).trans rfl,(cell_of_row w n 2 _ _ _ h).trans rfl,(cell_of_row w n 3 _ _ _ h).trans rfl,(cell_of_row w n 4 _ _ _ h).trans rfl,(cell_of_row w n 5 _ _ _ h).trans rfl,fun k=>frozen_of_row w n k _ _ h,(Array.getElem?_eq_some_iff.1 h).1⟩
theorem kp2 {V w:World} {N n:Nat} {t:TypeId} {a0 a1:Value} (hb:Below N V w) (hn:n<N:=by first|omega|(simp;try omega)) (h:V.heap[n]?=some (.cells #[a0,a1] t (0,0)):=by first|exact Hid.out (by assumption)|exact hkeep (Hid.out (by assumption))|exact hkeep (hkeep (Hid.out (by assumption)))|exact halloc2 _ _ rfl|exact hkeep (halloc2 _ _ rfl)|exact hkeep (hkeep (halloc2 _ _ rfl))|exact halloc2 _ _ (by simp;done)):Hid (w.heap[n]?=some (.cells #[a0,a1] t (0,0)))∧w.cell? ⟨n,0,none⟩=some a0∧w.cell? ⟨n,1,none⟩=some a1∧(∀ k,w.frozen? ⟨n,k,none⟩=false)∧n<w.heap.size∧¬ n=w.heap.size:=by
  have h2:=(hb.block n hn).trans h
  obtain ⟨c0,c1,f,l⟩:=rw2 h2
  exact ⟨h2,c0,c1,f,l,by omega⟩
theorem kp6 {V w:World} {N n:Nat} {t:TypeId} {a0 a1 a2 a3 a4 a5:Value} (hb:Below N V w) (hn:n<N:=by first|omega|(simp;try omega)) (h:V.heap[n]?=some (.cells #[a0,a1,a2,a3,a4,a5] t (0,0)):=by first|exact Hid.out (by assumption)|exact hkeep (Hid.out (by assumption))|exact hkeep (hkeep (Hid.out (by assumption)))|exact halloc2 _ _ rfl|exact hkeep (halloc2 _ _ rfl)|exact hkeep (hkeep (halloc2 _ _ rfl))|exact halloc2 _ _ (by simp;done)):Hid (w.heap[n]?=some (.cells #[a0,a1,a2,a3,a4,a5] t (0,0)))∧w.cell? ⟨n,0,none⟩=some a0∧w.cell? ⟨n,1,none⟩=some a1∧w.cell? ⟨n,2,none⟩=some a2∧w.cell? ⟨n,3,none⟩=some a3∧w.cell? ⟨n,4,none⟩=some a4∧w.cell? ⟨n,5,none⟩=some a5∧(∀ k,w.frozen? ⟨n,k,none⟩=false)∧n<w.heap.size∧¬ n=w.heap.size:=by
  have h2:=(hb.block n hn).trans h
  obtain ⟨c0,c1,c2,c3,c4,c5,f,l⟩:=rw6 h2
  exact ⟨h2,c0,c1,c2,c3,c4,c5,f,l,by omega⟩
theorem rw5 {w:World} {n:Nat} {t:TypeId} {a0 a1 a2 a3 a4:Value} (h:w.heap[n]?=some (.cells #[a0,a1,a2,a3,a4] t (0,0))):w.cell? ⟨n,0,none⟩=some a0∧w.cell? ⟨n,1,none⟩=some a1∧w.cell? ⟨n,2,none⟩=some a2∧w.cell? ⟨n,3,none⟩=some a3∧w.cell? ⟨n,4,none⟩=some a4∧(∀ k,w.frozen? ⟨n,k,none⟩=false)∧n<w.heap.size :=
  ⟨(cell_of_row w n 0 _ _ _ h).trans rfl,(cell_of_row w n 1 _ _ _ h).trans rfl,(cell_of_row w n 2 _ _ _ h).trans rfl,(cell_of_row w n 3 _ _ _ h).trans rfl,(cell_of_row w n 4 _ _ _ h).trans rfl,fun k=>frozen_of_row w n k _ _ h,(Array.getElem?_eq_some_iff.1 h).1⟩
theorem kp5 {V w:World} {N n:Nat} {t:TypeId} {a0 a1 a2 a3 a4:Value} (hb:Below N V w) (hn:n<N) (h:V.heap[n]?=some (.cells #[a0,a1,a2,a3,a4] t (0,0))):Hid (w.heap[n]?=some (.cells #[a0,a1,a2,a3,a4] t (0,0)))∧w.cell? ⟨n,0,none⟩=some a0∧w.cell? ⟨n,1,none⟩=some a1∧w.cell? ⟨n,2,none⟩=some a2∧w.cell? ⟨n,3,none⟩=some a3∧w.cell? ⟨n,4,none⟩=some a4∧(∀ k,w.frozen? ⟨n,k,none⟩=false)∧n<w.heap.size∧¬ n=w.heap.size:=by
  have h2:=(hb.block n hn).trans h
  obtain ⟨h0,h1,h3,h4,h5,h6,h7⟩:=rw5 h2
  exact ⟨h2,h0,h1,h3,h4,h5,h6,h7,by omega⟩
def SlW (A:Int×Int→List (Int×Int)) (w:World) (l:List S5):Prop:=∀ x∈l,w.ownsRow 0 24 2 (.slice x.oa x.on x.oc) (A x.r).length (flatD (A x.r))
theorem SlW.keep {A:Int×Int→List (Int×Int)} {w w':World} {l:List S5} (h:SlW A w l) (hb:Below w.heap.size w w'):SlW A w' l:=fun x hx=>rowBelow (h x hx) hb
def SlA (A:Int×Int→List (Int×Int)):Prop:=∀ r,(A r).length≤1000000∧(A r).Pairwise (fun x y=>x.1<y.1)
def inhS (A:Int×Int→List (Int×Int)) (id:Int) (x:S5):S5:=match (A x.r).find? (fun y=>y.1 == id) with
  | some y=>{ x with m:=y }
  | none=>x
theorem inhS_r (A:Int×Int→List (Int×Int)) (id:Int) (x:S5):(inhS A id x).r=x.r∧(inhS A id x).oa=x.oa∧(inhS A id x).on=x.on∧(inhS A id x).oc=x.oc:=by
  rw [inhS];split <;> exact ⟨rfl,rfl,rfl,rfl⟩
theorem inhS_hit {A:Int×Int→List (Int×Int)} (hA:SlA A) {id:Int} {x:S5} {i:Nat} {y:Int×Int} (hy:(A x.r)[i]?=some y) (hi:y.1=id):inhS A id x={ x with m:=y }:=by
  have:(A x.r).find? (fun y=>y.1 == id)=some y:=by
    rw [List.find?_eq_some_iff_getElem]
    obtain ⟨h1,h2⟩:=List.getElem?_eq_some_iff.1 hy
    refine ⟨by simp [hi],i,h1,h2,fun j hj=>?_⟩
    have:=List.pairwise_iff_getElem.1 (hA x.r).2 j i (by omega) h1 hj
    rw [h2,hi] at this
    simp
    omega
  rw [inhS,this]
theorem inhS_no {A:Int×Int→List (Int×Int)} {id:Int} {x:S5} (h:∀ y∈A x.r,y.1≠id):inhS A id x=x:=by
  have:(A x.r).find? (fun y=>y.1 == id)=none:=by
    rw [List.find?_eq_none]
    intro y hy
    simpa using h y hy
  rw [inhS,this]
theorem take_drop_set {f:S5→S5} {l:List S5} {j:Nat} {x:S5} (h:l[j]?=some x):((l.take j).map f++l.drop j).set j (f x)=(l.take (j+1)).map f++l.drop (j+1):=by
  obtain ⟨h1,h2⟩:=List.getElem?_eq_some_iff.1 h
  have hl:((l.take j).map f).length=j:=by rw [List.length_map,List.length_take];omega
  rw [List.set_append_right _ _ (by omega),hl,Nat.sub_self,List.drop_eq_getElem_cons h1,List.set_cons_zero,List.take_add_one,h,Option.toList_some,List.map_append,List.append_assoc]
  rfl
theorem List.set_getElem?_self {α:Type} {l:List α} {j:Nat} {x:α} (h:l[j]?=some x):l.set j x=l:=by
  obtain ⟨h1,rfl⟩:=List.getElem?_eq_some_iff.1 h
  exact List.set_getElem_self h1
theorem td_at {f:S5→S5} {l:List S5} {j:Nat} {x:S5} (h:l[j]?=some x):((l.take j).map f++l.drop j)[j]?=some x:=by
  obtain ⟨h1,h2⟩:=List.getElem?_eq_some_iff.1 h
  have hl:((l.take j).map f).length=j:=by rw [List.length_map,List.length_take];omega
  rw [List.getElem?_append_right (by omega),hl,Nat.sub_self,List.getElem?_drop,Nat.add_zero,h]
set_option maxHeartbeats 4000000 in
theorem inh_any (A:Int×Int→List (Int×Int)) (hA:SlA A) (id:Int) (l:List S5) (v:Value) (W:World) (h:Rds W v l.length 5 (flat5 l)) (hn:l.length≤1000000000) (hS:SlW A W l):Calls Tryz.prog 252 #[v,.int .i64 id] W fun e w'=>(∃ v',e=.returned v'∧w'.ownsRow W.heap.size 213 5 v' l.length (flat5 (l.map (inhS A id))))∧Below W.heap.size W w':=by
  have HCl:Hid (Calls Tryz.prog 285 #[v] W fun e w'=>∃ v',e=.returned v'∧w'.ownsRow W.heap.size 213 5 v' l.length (flat5 l)∧Below W.heap.size W w'):=clo5_any l v W h hn
  have HA:Hid (SlA A):=hA
  have HS:Hid (SlW A W l):=hS
  obtain ⟨va0,vc0,rfl⟩:=h.slice
  obtain ⟨K,hK⟩:∃ K,l.length=K:=⟨_,rfl⟩
  have HK:Hid (l.length=K):=hK
  rw [hK] at hn HCl ⊢
  clear h hA hS hK
  go_enter Tryz.func252,Tryz.ntmps252
  go_wp2_with (go_at_call 285;refine HCl.out.mono ?_;rintro e w1 ⟨v',rfl,ho,hb⟩;obtain ⟨va,vc,rfl⟩:=ownv ho;have O1:Hid (w1.ownsRow W.heap.size 213 5 (.slice va K vc) K (flat5 l)):=ho;have B1:Hid (Below W.heap.size W w1):=hb;clear ho hb HCl)
  go_loopw [14] (fun kv wr=>∃ j:Nat,kv=.int .i64 j∧j≤K∧Hid (wr.ownsRow W.heap.size 213 5 (.slice va K vc) K (flat5 ((l.take j).map (inhS A id)++l.drop j)))∧Hid (Below W.heap.size W wr)) (fun kv _=>K - (intOf kv).toNat)
  case atStart=>exact ⟨0,rfl,Nat.zero_le _,O1,B1⟩
  case round =>
    obtain ⟨j,rfl,hj,hO,hB⟩:=hrel
    by_cases hlt:j<K
    · have hjI:(j:Int)<(K:Int):=by omega
      obtain ⟨x,hx⟩:∃ x,l[j]?=some x:=⟨_,List.getElem?_eq_getElem (by rw [HK.out];exact hlt)⟩
      have hx2:=td_at (f:=inhS A id) hx
      have hset:=take_drop_set (f:=inhS A id) hx
      obtain ⟨ga,c2,hform⟩:=Go.Joins.ownsRow_form hO.out (by omega)
      injection hform with hca _ hcc
      subst hca hcc
      obtain ⟨e0,e1,e2,e3,e4,gL⟩:=row5_cells hO.out hx2
      have hSx:=HS.out x (List.mem_of_getElem? hx)
      have HSX:Hid (∀ w,Below W.heap.size W w→w.ownsRow 0 24 2 (.slice x.oa x.on x.oc) (A x.r).length (flatD (A x.r))):=fun w hb=>rowBelow hSx hb
      have HSE:Hid (∀ w,Below W.heap.size W w→Calls Tryz.prog 286 #[.slice x.oa x.on x.oc,.int .i64 id,.func (.func 287) #[] #[]] w fun e w'=>SeaR (A x.r) id e∧Below w.heap.size w w'):=fun w hb=>sea_any 0 (A x.r) _ id w (HSX.out w hb) (HA.out x.r).1 (HA.out x.r).2
      have HHIT:Hid (∀ (i:Nat) (y:Int×Int),(A x.r)[i]?=some y→y.1=id→inhS A id x={ x with m:=y }):=fun i y h1 h2=>inhS_hit HA.out h1 h2
      have HNO:Hid ((∀ y∈A x.r,y.1≠id)→inhS A id x=x):=fun h=>inhS_no h
      have HX2:Hid _:=hx2
      have HSET:Hid _:=hset
      clear hx hx2 hset hSx HS HA
      obtain ⟨⟨r1,r2⟩,⟨m1,m2⟩,oa,on,oc⟩:=x
      simp only at e0 e1 e2 e3 e4 HSX HSE HHIT HNO HX2 HSET
      generalize A (r1,r2)=AA at *
      by_cases hcase:∃ y∈AA,y.1=id
      · have HSE2:Hid (∀ w,Below W.heap.size W w→Calls Tryz.prog 286 #[.slice oa on oc,.int .i64 id,.func (.func 287) #[] #[]] w fun e w'=>(∃ (i:Nat) (y:Int×Int),e=.returned (.tuple #[.int .i64 (i:Int),.bool true])∧AA[i]?=some y∧y.1=id)∧Below w.heap.size w w'):=fun w hb=>(HSE.out w hb).mono fun e w' zz=>by
          obtain ⟨⟨i,f,e1,h1,h2⟩,h3⟩:=zz
          cases f with
          | true=>obtain ⟨y,hy,hy1⟩:=h1 rfl;exact ⟨⟨i,y,e1,hy,hy1⟩,h3⟩
          | false=>obtain ⟨y,hy,hy1⟩:=hcase;exact absurd hy1 (h2 rfl y hy)
        have hpos:0<AA.length:=by
          obtain ⟨y,hy,_⟩:=hcase
          exact List.length_pos_of_mem hy
        obtain ⟨gb,cb,hform2⟩:=Go.Joins.ownsRow_form (HSX.out W (Below.refl _ _)) hpos
        injection hform2 with q1 q2 q3
        subst q1 q2 q3
        obtain ⟨ll,hll⟩:∃ ll,AA.length=ll:=⟨_,rfl⟩
        have HLL:Hid (AA.length=ll):=hll
        have HG:Hid (W.heap.size≤ga):=(hO.out.lt ga rfl).1
        clear HSE HNO hpos
        have HSE:=HSE2
        clear HSE2 hcase
        rw [hll] at e4 HSE HSX
        rw [hll] at HHIT HX2 HSET
        clear hll
        have BWj:Hid (Below W.heap.size W (wr.alloc (.cells #[.int .i64 r1,.int .i64 r2,.int .i64 m1,.int .i64 m2,.slice (some ⟨gb,0,none⟩) ll oc] 213))):=hB.out.alloc hB.out.size _
        go_wp2_with (go_at_call 286;refine (HSE.out _ BWj.out).mono ?_;rintro e w2 ⟨⟨i,y,rfl,hy,hy1⟩,hb⟩;have ssd:=kp5 (n:=wr.heap.size) hb (by simp) (halloc1 _ _);obtain ⟨ssB,ss0,ss1,ss2,ss3,ss4,ssf,ssL,ssN⟩:=ssd;have B2:Hid (Below W.heap.size W w2):=bstep BWj.out hb;have O2:Hid (w2.ownsRow W.heap.size 213 5 (.slice (some ⟨ga,0,none⟩) K vc) K (flat5 ((l.take j).map (inhS A id)++l.drop j))):=rowBelow (hO.out.alloc _) hb;have hrow:=HSX.out w2 B2.out;obtain ⟨d0,d1,dL⟩:=rowD_cells (by rw [HLL.out];exact hrow) hy;have hiI:(i:Int)<(ll:Int):=(by have:=(List.getElem?_eq_some_iff.1 hy).1;have:=HLL.out;omega);have HU:Hid (inhS A id ⟨(r1,r2),(m1,m2),some ⟨gb,0,none⟩,ll,oc⟩=⟨(r1,r2),y,some ⟨gb,0,none⟩,ll,oc⟩):=HHIT.out i y hy hy1;obtain ⟨y1,y2⟩:=y;simp only at d0 d1;obtain ⟨k0,k1,k2,k3,k4,kL⟩:=row5_cells O2.out HX2.out;have kf2:=O2.out.frozenAt (j * 5+2);have kf3:=O2.out.frozenAt (j * 5+3);clear hy hy1 hrow HHIT;clear hb HSE)
        refine ⟨⟨j+1,by simp,by omega,?_,?_⟩,by simp [intOf];omega⟩
        · obtain ⟨s0,_⟩:=O2.out.stored (j * 5+2) (.int .i64 y1)
          obtain ⟨s1,_⟩:=s0.stored (j * 5+3) (.int .i64 y2)
          rw [flat5_set _ j _ (y1,y2) HX2.out] at s1
          rw [Hid,← HSET.out,HU.out]
          exact s1
        · exact (B2.out.setCell (by exact HG.out) _).setCell (by exact HG.out) _
      · have HSE2:Hid (∀ w,Below W.heap.size W w→Calls Tryz.prog 286 #[.slice oa on oc,.int .i64 id,.func (.func 287) #[] #[]] w fun e w'=>(∃ (i:Nat),e=.returned (.tuple #[.int .i64 (i:Int),.bool false]))∧Below w.heap.size w w'):=fun w hb=>(HSE.out w hb).mono fun e w' zz=>by
          obtain ⟨⟨i,f,e1,h1,h2⟩,h3⟩:=zz
          cases f with
          | true=>obtain ⟨y,hy,hy1⟩:=h1 rfl;exact absurd ⟨y,List.mem_of_getElem? hy,hy1⟩ hcase
          | false=>exact ⟨⟨i,e1⟩,h3⟩
        have HU:=HNO.out (fun y hy h1=>hcase ⟨y,hy,h1⟩)
        have HUH:Hid _:=HU
        clear HSE HHIT HNO HU hcase
        have HSE:=HSE2
        clear HSE2
        have BWj:Hid (Below W.heap.size W (wr.alloc (.cells #[.int .i64 r1,.int .i64 r2,.int .i64 m1,.int .i64 m2,.slice oa on oc] 213))):=hB.out.alloc hB.out.size _
        go_wp2_with (go_at_call 286;refine (HSE.out _ BWj.out).mono ?_;rintro e w2 ⟨⟨i,rfl⟩,hb⟩;have ssd:=kp5 (n:=wr.heap.size) hb (by simp) (halloc1 _ _);obtain ⟨ssB,ss0,ss1,ss2,ss3,ss4,ssf,ssL,ssN⟩:=ssd;have B2:Hid (Below W.heap.size W w2):=bstep BWj.out hb;have O2:Hid (w2.ownsRow W.heap.size 213 5 (.slice (some ⟨ga,0,none⟩) K vc) K (flat5 ((l.take j).map (inhS A id)++l.drop j))):=rowBelow (hO.out.alloc _) hb;clear hb HSE)
        refine ⟨⟨j+1,by simp,by omega,?_,B2⟩,by simp [intOf];omega⟩
        have hs:=HSET.out
        rw [HUH.out] at hs
        rw [Hid,← hs,List.set_getElem?_self HX2.out]
        exact O2.out
    · have e:j=K:=by omega
      subst e
      have O9:Hid (wr.ownsRow W.heap.size 213 5 (.slice va j vc) j (flat5 (l.map (inhS A id)))):=by
        have:=hO.out
        rw [List.take_of_length_le (by rw [HK.out];exact Nat.le_refl _),List.drop_of_length_le (by rw [HK.out];exact Nat.le_refl _),List.append_nil] at this
        exact this
      go_wp2
      exact bodyPost_ret (v:=.slice va j vc) (by simp [results,Tryz.results252,go_sem]) rfl ⟨⟨_,rfl,O9.out⟩,hB.out⟩
theorem open_c (f:Int) (W:World):Calls Tryz.prog 141 #[.int .i64 f] W fun e w'=>e=.returned (.int .i64 (openI f))∧w'=W:=by
  have HR:Hid (openI f=if hasI f 1 then 1 else if hasI f 4 then 4 else bits .and .i64 f 2):=Fl.own_open f
  have HH:Hid (∀ (x:Int) (y:Bool) (w:World),hasI f x=y→Calls Tryz.prog 206 #[.int .i64 f,.int .i64 x] w fun e w'=>e=.returned (.bool y)∧w'=w):=fun x y w hy=>by rw [← hy];exact Fl.hasAny_any f x w
  generalize openI f=r at *
  generalize hasI f=hz at *
  obtain ⟨b1,h1⟩:∃ b,hz 1=b:=⟨_,rfl⟩
  obtain ⟨b4,h4⟩:∃ b,hz 4=b:=⟨_,rfl⟩
  rw [h1,h4] at HR
  have H1:Hid _:=h1
  have H4:Hid _:=h4
  clear h1 h4
  cases b1 <;> cases b4
  all_goals
    go_enter Tryz.func141,Tryz.ntmps141
    go_wp2_with (go_at_call 206;refine (HH.out _ _ _ (by first|exact H1.out|exact H4.out)).mono ?_;rintro e w9 ⟨rfl,hw9⟩;rw [hw9];clear hw9 w9)
    exact bodyPost_ret (results_tmp rfl _ _ _) rfl ⟨by rw [HR.out];rfl,rfl⟩
theorem retB {a b:Bool} (h:a=b):Ending.returned (.bool a)=Ending.returned (.bool b):=by rw [h]
theorem open_cases (f:Int):openI f=1∨openI f=2∨openI f=4∨openI f=0:=by
  unfold openI
  split
  · exact .inl rfl
  · split
    · exact .inr (.inr (.inl rfl))
    · split
      · exact .inr (.inl rfl)
      · exact .inr (.inr (.inr rfl))
theorem meth_plc {ps:List Plc} {c i:Int} {m:HM} (h:methI ps c i=some m):∃ (k:Nat) (q:Plc),c=(k:Int)∧ps[k]?=some q∧plcI ps c=some q∧methP q i=some m:=by
  rcases plcI_cases ps c with ⟨h1,_⟩|⟨k,q,rfl,h2,h1⟩
  · rw [methI,h1] at h;cases h
  · rw [methI,h1] at h
    exact ⟨k,q,rfl,h2,h1,h⟩
theorem chL_len {ps:List Plc} (hi:WI ps) {k:Nat} (hk:k<ps.length):(chL (ps.map nd) k).length≤1000000:=by
  have:=ch_len hi.wo k (by simpa using hk)
  have:=hi.hi
  omega
def FndF (ps:List Plc) (nm ds:ByteArray) (m:Int×Int):Prop:=∃ x,methI ps m.1 m.2=some x∧x.nm.toList=nm.toList∧x.ds.toList=ds.toList
theorem fnd_facts {ps:List Plc} {c:Int} {nm ds:ByteArray} (h:(fndI ps c nm ds).2=0):FndF ps nm ds (c,(fndI ps c nm ds).1)∧∃ (k:Nat) (q:Plc),c=(k:Int)∧ps[k]?=some q:=by
  rcases plcI_cases ps c with ⟨h1,h2⟩|⟨k,q,rfl,h2,h1⟩
  · rw [fndI,h1] at h;exact absurd h (by show ¬ (3:Int)=0;decide)
  · have e:fndI ps k nm ds=if findH nm ds q.c.ms 0<0 then (0,6) else (findH nm ds q.c.ms 0,0):=by rw [fndI,h1]
    refine ⟨?_,k,q,rfl,h2⟩
    rw [e] at h ⊢
    rcases findH_range nm ds q.c.ms 0 with e2|⟨j,x,e2,hj,hn,hd⟩
    · rw [e2,if_pos (by decide)] at h;exact absurd h (by decide)
    · rw [e2,if_neg (by omega)]
      refine ⟨x,?_,hn,hd⟩
      rw [methI,h1]
      show methP q ((0+j:Nat):Int)=some x
      rw [methP,if_pos (Int.natCast_nonneg _)]
      simpa using hj
structure Gr (ps:List Plc) (p:Plc):Prop where
  wi:WI ps
  wi2:WI (ps++[p])
  nn:lookL ps (nameL p)=none
theorem clO_snoc (ns:List Nd) (p:Nd) {k:Nat} (hk:k<ns.length):clO (ns++[p]) k=clO ns k:=by rw [clO,clO,List.getElem?_append_left hk]
theorem spO_snoc (ns:List Nd) (p:Nd) {k:Nat} (hk:k<ns.length):spO (ns++[p]) k=spO ns k:=by rw [spO,spO,List.getElem?_append_left hk]
theorem chL_snoc {ns:List Nd} {p:Nd} (h:WO ns) (h2:WO (ns++[p])):∀ k,k<ns.length→chL (ns++[p]) k=chL ns k:=by
  refine ch_ind h (P:=fun k=>chL (ns++[p]) k=chL ns k) rfl ?_
  intro k hk h0 _ ih
  rw [chL_cons h hk h0,chL_cons h2 (by simp;omega) h0,spO_snoc ns p hk,ih]
theorem extB_snoc {ns:List Nd} {p:Nd} (h:WO ns) (h2:WO (ns++[p])) {k:Nat} (hk:k<ns.length) (m:Nat):extB (ns++[p]) k m=extB ns k m:=by
  rw [extB,extB,chL_snoc h h2 k hk,clO_snoc ns p hk]
theorem ch_in {ns:List Nd} (h:WO ns):∀ k,k<ns.length→∀ i∈chL ns k,i<ns.length:=by
  refine ch_ind h (P:=fun k=>∀ i∈chL ns k,i<ns.length) ?_ ?_
  · intro i hi
    have h0:chL ns 0=[0]:=by rfl
    rw [h0] at hi
    obtain ⟨n,hn,_⟩:=h.top
    have:=(List.getElem?_eq_some_iff.1 hn).1
    simp at hi;omega
  · intro k hk h0 _ ih i hi
    rw [chL_cons h hk h0] at hi
    rcases List.mem_cons.1 hi with rfl|hi
    · exact hk
    · exact ih i hi
section
variable {ps:List Plc} {p:Plc}
theorem Gr.plc {i:Int} {q:Plc} (hi:plcI ps i=some q):plcI (ps++[p]) i=some q:=by
  obtain ⟨h1,h2⟩:=plcI_lt hi
  rw [plcI,if_pos h1] at hi ⊢
  rw [List.getElem?_append_left (by omega)];exact hi
theorem plc_nat {k:Nat} (hk:k<ps.length):∃ q,plcI ps (k:Int)=some q:=⟨ps[k],by rw [plcI_nat];exact List.getElem?_eq_getElem hk⟩
theorem Gr.fnd {i:Int} {q:Plc} (hi:plcI ps i=some q) (nm ds:ByteArray):fndI (ps++[p]) i nm ds=fndI ps i nm ds:=by
  rw [fndI,fndI,hi,Gr.plc hi]
theorem Gr.met {i:Int} {q:Plc} (hi:plcI ps i=some q) (j:Int):methI (ps++[p]) i j=methI ps i j:=by
  rw [methI,methI,hi,Gr.plc hi]
theorem Gr.ifc {i:Int} {q:Plc} (hi:plcI ps i=some q):ifcI (ps++[p]) i=ifcI ps i:=by
  rw [ifcI,ifcI,hi,Gr.plc hi]
theorem Gr.ext (h:Gr ps p) {i j:Int} {q r:Plc} (hi:plcI ps i=some q) (hj:plcI ps j=some r):extI (ps++[p]) i j=extI ps i j:=by
  have h1:=plcI_lt hi
  rw [extI,extI,hi,hj,Gr.plc hi,Gr.plc hj,List.map_append]
  show (_&&extB (ps.map nd++[nd p]) _ _)=_
  have hw:=h.wi2.wo
  rw [List.map_append] at hw
  rw [extB_snoc h.wi.wo hw (by simp;omega)]
end
end Go.Proofs.YtjlfnelihbdhjaaGreat
