import Derived.Test.YtjbmmmcjegjelaaGreatHrQ
import Derived.Test.YtjbmmmcjegjelaaGreatOrdB
import Derived.Test.YtjbmmmcjegjelaaGreatMxC
import Derived.Test.YtjbmmmcjegjelaaGreatRfA
import Derived.Test.YtjbmmmcjegjelaaGreatHrX
import Derived.Test.YtjbmmmcjegjelaaGreatFOwnA
import Derived.Lib.SliceRun
import Derived.Deep.RegionHeld3
import Derived.Test.YtjbmmmcjegjelaaGreatSq
set_option maxHeartbeats 4000000
set_option maxRecDepth 100000
namespace Go.Proofs.YtjbmmmcjegjelaaGreat
open Go.RowKit Go.Maps
def wld (l:List Cls):List Plc:=l.foldl (fun ps c=>dfP ps (defN ps c)) P3
theorem wld_snoc (l:List Cls) (c:Cls):wld (l++[c])=dfP (wld l) (defN (wld l) c):=by
  rw [wld,List.foldl_append];rfl
theorem wld_at {l:List Cls} {i:Nat} {c:Cls} (h:l[i]?=some c):wld (l.take (i+1))=dfP (wld (l.take i)) (defN (wld (l.take i)) c):=by
  rw [List.take_add_one,h];exact wld_snoc _ _
theorem J1 {P:List Plc→Prop} (h3:P P3) (hd:∀ ps c,P ps→ClsW c→P (dfP ps (defN ps c))):∀ l:List Cls,(∀ c∈l,ClsW c)→P (wld l):=by
  have key:∀ (l:List Cls) (ps:List Plc),(∀ c∈l,ClsW c)→P ps→P (l.foldl (fun ps c=>dfP ps (defN ps c)) ps):=by
    intro l
    induction l with
    | nil=>exact fun ps _ h=>h
    | cons c l ih=>exact fun ps hl h=>ih _ (fun x hx=>hl x (List.mem_cons_of_mem _ hx)) (hd ps c h (hl c (by simp)))
  exact fun l hl=>key l P3 hl h3
theorem Zjn (l:List Cls) (hl:∀ c∈l,ClsW c):WI (wld l):=J1 wi3 (fun _ c h hc=>h.define c hc) l hl
theorem Zlt {w:World} {v:Value} {l:List Cls} (h:Zao w v l):∀ c∈l,ClsW c:=by
  obtain ⟨ao,cap,e,h1,h2,h3⟩:=h
  intro c hc
  obtain ⟨bk,o,_,_,h4⟩:=h3 (fun e=>by rw [e] at hc;simp at hc)
  obtain ⟨i,hi⟩:=List.mem_iff_getElem?.1 hc
  obtain ⟨vi,vm,_,hin⟩:=h4 i c hi
  exact hin.ok
theorem wld_wj (l:List Cls) (hl:∀ c∈l,ClsW c):WI (wld l)∧WJ (wld l):=J1 (P:=fun ps=>WI ps∧WJ ps) ⟨wi3,wj3⟩ (fun _ c h hc=>⟨h.1.define c hc,WJ.define h.1 h.2 c hc⟩) l hl
def extI (ps:List Plc) (a b:Int):Bool:=(plcI ps a).isSome&&(plcI ps b).isSome&&extB (ps.map nd) a.toNat b.toNat
theorem Zcz {b:Nat} {ps:List Plc} {W:World} (h:WAt b ps W) (x y:Int) (hxy:plcI ps x=none∨plcI ps y=none):Calls Tryz.prog 37 #[.pointer (some ⟨b,0,none⟩),.int .i64 x,.int .i64 y] W fun e w'=>e=.returned (.bool false)∧Below W.heap.size W w':=by
  have HX:Hid (∀ i z w,Below W.heap.size W w→plcI ps i=z→Calls Tryz.prog 58 #[.pointer (some ⟨b,0,none⟩),.int .i64 i] w fun e w'=>e=.returned (.bool z.isSome)∧w'=w):=fun i z w hb hi=>by
    have:=Zbl (h.below hb) i
    rw [hi] at this;exact this
  clear h
  generalize hpx:plcI ps x=px at *
  generalize hpy:plcI ps y=py at *
  have HPX:Hid _:=hpx
  have HPY:Hid _:=hpy
  clear hpx hpy
  cases px with
  | none =>
    go_enter Tryz.func37,Tryz.ntmps37
    go_wp2_with (go_at_call 58;refine (HX.out _ _ _ sqR HPX.out).mono ?_;rintro e w9 ⟨rfl,hw9⟩;rw [hw9];clear hw9 w9)
    refine bodyPost_ret (v:=.bool false) (by simp [results,Tryz.results37,go_sem]) rfl ⟨rfl,sqR⟩
  | some p =>
    obtain rfl:py=none:=hxy.resolve_left (by simp)
    clear hxy
    have HX1:Hid (∀ i w,Below W.heap.size W w→i=x→Calls Tryz.prog 58 #[.pointer (some ⟨b,0,none⟩),.int .i64 i] w fun e w'=>e=.returned (.bool true)∧w'=w):=fun i w hb hi=>by rw [hi];exact HX.out x _ w hb HPX.out
    have HY1:Hid (∀ i w,Below W.heap.size W w→i=y→Calls Tryz.prog 58 #[.pointer (some ⟨b,0,none⟩),.int .i64 i] w fun e w'=>e=.returned (.bool false)∧w'=w):=fun i w hb hi=>by rw [hi];exact HX.out y _ w hb HPY.out
    go_enter Tryz.func37,Tryz.ntmps37
    go_wp2_with (first
      | (go_at_call 58;refine (HX1.out _ _ sqR (by rfl)).mono ?_;rintro e w9 ⟨rfl,hw9⟩;rw [hw9];clear hw9 w9)
      | (go_at_call 58;refine (HY1.out _ _ sqR (by rfl)).mono ?_;rintro e w9 ⟨rfl,hw9⟩;rw [hw9];clear hw9 w9))
    refine bodyPost_ret (v:=.bool false) (by simp [results,Tryz.results37,go_sem]) rfl ⟨rfl,sqR⟩
theorem Zlm {b:Nat} {ps:List Plc} {W:World} (h:WAt b ps W) (hi:WI ps) (x y:Int):Calls Tryz.prog 37 #[.pointer (some ⟨b,0,none⟩),.int .i64 x,.int .i64 y] W fun e w'=>e=.returned (.bool (extI ps x y))∧Below W.heap.size W w':=by
  rcases Zn ps x with ⟨h1,_⟩|⟨k,p,rfl,h2,h1⟩
  · have e:extI ps x y=false:=by rw [extI,h1];rfl
    rw [e];exact Zcz h x y (.inl h1)
  · rcases Zn ps y with ⟨g1,_⟩|⟨j,q,rfl,g2,g1⟩
    · have e:extI ps k y=false:=by rw [extI,h1,g1];rfl
      rw [e];exact Zcz h k y (.inr g1)
    · have e:extI ps k j=extB (ps.map nd) k j:=by rw [extI,h1,g1];rfl
      obtain ⟨N,mb,vp,pv,h⟩:=h
      rw [e];exact Zg6 N b mb ps vp pv k j (List.getElem?_eq_some_iff.1 h2).1 (List.getElem?_eq_some_iff.1 g2).1 hi.wo hi.hi W h
def ifcI (ps:List Plc) (i:Int):Bool:=match plcI ps i with
  | some q=>ifB q.c.fl
  | none=>false
theorem Zbi {b:Nat} {ps:List Plc} {W:World} (h:WAt b ps W) (x:Int):Calls Tryz.prog 30 #[.pointer (some ⟨b,0,none⟩),.int .i64 x] W fun e w'=>e=.returned (.bool (ifcI ps x))∧Below W.heap.size W w':=by
  obtain ⟨N,mb,vp,pv,h⟩:=h
  rcases Zn ps x with ⟨h1,h2⟩|⟨k,p,rfl,h2,h1⟩
  · have e:ifcI ps x=false:=by rw [ifcI,h1]
    rw [e];exact Zg0 N b mb ps vp pv x W h h2
  · have e:ifcI ps k=ifB p.c.fl:=by rw [ifcI,h1]
    rw [e];exact Qf N b mb ps vp pv k p W h h2
theorem len_c {b:Nat} {ps:List Plc} {W:World} (h:WAt b ps W):Calls Tryz.prog 49 #[.pointer (some ⟨b,0,none⟩)] W fun e w'=>e=.returned (.int .i64 (ps.length:Int))∧w'=W:=by
  obtain ⟨N,mb,vp,pv,h⟩:=h
  exact len_any N b mb ps vp pv W h
def ClsR (n:Nat):Option Plc→Ending→World→Prop
  | none,e,_=>e=.returned (.tuple #[.agg #[.string ⟨#[]⟩,.string ⟨#[]⟩,.slice none 0 0,.int .i64 0,.int .i64 0,.slice none 0 0],.int .i64 3])
  | some q,e,w'=>∃ vi vm qm,e=.returned (.tuple #[.agg #[.string q.c.nm,.string q.c.su,vi,.int .i64 q.c.fl,.int .i64 q.c.ld,vm],.int .i64 0])∧OwnC w' n vi q.c.ni q.c.xi vm qm∧qm.map Prod.fst=q.c.ms
theorem class_c {b:Nat} {ps:List Plc} {W:World} (h:WAt b ps W) (hB:∀ q∈ps,PlcB q) (x:Int):Calls Tryz.prog 82 #[.pointer (some ⟨b,0,none⟩),.int .i64 x] W fun e w'=>ClsR W.heap.size (plcI ps x) e w'∧Below W.heap.size W w':=by
  obtain ⟨N,mb,vp,pv,h⟩:=h
  rcases Zn ps x with ⟨h1,h2⟩|⟨k,p,rfl,h2,h1⟩
  · rw [h1];exact class_no N b mb ps vp pv x W h h2
  · rw [h1]
    refine (Zlv N b mb ps vp pv k p W h h2 (hB p (List.mem_of_getElem? h2))).mono ?_
    rintro e w' ⟨vi,vm,qm,h1,h2,h3,h4⟩
    exact ⟨⟨vi,vm,qm,h1,h2,h3⟩,h4⟩
theorem Zh8 {ps:List Plc} {a b:Nat} (ha:a<ps.length) (hb:b<ps.length):extI ps (a:Int) (b:Int)=extB (ps.map nd) a b:=by
  rw [extI,Z8,Z8,List.getElem?_eq_getElem ha,List.getElem?_eq_getElem hb];rfl
theorem Ze (w:World) {n:Nat} (o:Obj) (hn:w.heap.size=n):(w.alloc o).heap[n]?=some o:=by subst hn;exact Zl w o
def idE (x:(Int×Int)×Int):Value:=.tuple #[.agg #[.int .i64 x.1.1,.int .i64 x.1.2],.int .i64 x.2]
theorem Zhg (a b:Int×Int) (w:World):Calls Tryz.prog 18 #[.agg #[.int .i64 a.1,.int .i64 a.2],.agg #[.int .i64 b.1,.int .i64 b.2]] w fun e w'=>e=.returned (.bool ((a.1 == b.1)&&(a.2 == b.2)))∧Below w.heap.size w w':=by
  obtain ⟨a1,a2⟩:=a
  obtain ⟨b1,b2⟩:=b
  by_cases h1:a1=b1
  · by_cases h2:a2=b2
    · subst h1 h2
      go_enter Tryz.func18,Tryz.ntmps18
      go_wp2
      exact bodyPost_ret (results_tmp rfl _ _ _) rfl ⟨by simp,sqR⟩
    · subst h1
      go_enter Tryz.func18,Tryz.ntmps18
      go_wp2
      exact bodyPost_ret (results_tmp rfl _ _ _) rfl ⟨by simp,sqR⟩
  · go_enter Tryz.func18,Tryz.ntmps18
    go_wp2
    exact bodyPost_ret (results_tmp rfl _ _ _) rfl ⟨by simp [h1],sqR⟩
theorem Zj {w:World} {n:Nat} {x o:Obj} (h:w.heap[n]?=some x):(w.alloc o).heap[n]?=some x:=by
  have hb:Below w.heap.size w (w.alloc o):=(Below.refl _ w).alloc (Nat.le_refl _) _
  exact (hb.block n (Array.getElem?_eq_some_iff.1 h).1).trans h
theorem rw2 {w:World} {n:Nat} {t:TypeId} {a0 a1:Value} (h:w.heap[n]?=some (.cells #[a0,a1] t (0,0))):w.cell? ⟨n,0,none⟩=some a0∧w.cell? ⟨n,1,none⟩=some a1∧(∀ k,w.frozen? ⟨n,k,none⟩=false)∧n<w.heap.size :=
  ⟨(cell_of_row w n 0 _ _ _ h).trans rfl,(cell_of_row w n 1 _ _ _ h).trans rfl,fun k=>frozen_of_row w n k _ _ h,(Array.getElem?_eq_some_iff.1 h).1⟩
theorem rw6 {w:World} {n:Nat} {t:TypeId} {a0 a1 a2 a3 a4 a5:Value} (h:w.heap[n]?=some (.cells #[a0,a1,a2,a3,a4,a5] t (0,0))):w.cell? ⟨n,0,none⟩=some a0∧w.cell? ⟨n,1,none⟩=some a1∧w.cell? ⟨n,2,none⟩=some a2∧w.cell? ⟨n,3,none⟩=some a3∧w.cell? ⟨n,4,none⟩=some a4∧w.cell? ⟨n,5,none⟩=some a5∧(∀ k,w.frozen? ⟨n,k,none⟩=false)∧n<w.heap.size :=
  ⟨(cell_of_row w n 0 _ _ _ h).trans rfl,(cell_of_row w n 1 _ _ _ h).trans rfl,(cell_of_row w n 2 _ _ _ h).trans rfl,(cell_of_row w n 3 _ _ _ h).trans rfl,(cell_of_row w n 4 _ _ _ h).trans rfl,(cell_of_row w n 5 _ _ _ h).trans rfl,fun k=>frozen_of_row w n k _ _ h,(Array.getElem?_eq_some_iff.1 h).1⟩
theorem kp2 {V w:World} {N n:Nat} {t:TypeId} {a0 a1:Value} (hb:Below N V w) (hn:n<N:=by first|omega|(simp;try omega)) (h:V.heap[n]?=some (.cells #[a0,a1] t (0,0)):=by first|exact Hid.out (by assumption)|exact Zj (Hid.out (by assumption))|exact Zj (Zj (Hid.out (by assumption)))|exact Ze _ _ rfl|exact Zj (Ze _ _ rfl)|exact Zj (Zj (Ze _ _ rfl))|exact Ze _ _ (by simp;done)):Hid (w.heap[n]?=some (.cells #[a0,a1] t (0,0)))∧w.cell? ⟨n,0,none⟩=some a0∧w.cell? ⟨n,1,none⟩=some a1∧(∀ k,w.frozen? ⟨n,k,none⟩=false)∧n<w.heap.size∧¬ n=w.heap.size:=by
  have h2:=(hb.block n hn).trans h
  obtain ⟨c0,c1,f,l⟩:=rw2 h2
  exact ⟨h2,c0,c1,f,l,by omega⟩
theorem kp6 {V w:World} {N n:Nat} {t:TypeId} {a0 a1 a2 a3 a4 a5:Value} (hb:Below N V w) (hn:n<N:=by first|omega|(simp;try omega)) (h:V.heap[n]?=some (.cells #[a0,a1,a2,a3,a4,a5] t (0,0)):=by first|exact Hid.out (by assumption)|exact Zj (Hid.out (by assumption))|exact Zj (Zj (Hid.out (by assumption)))|exact Ze _ _ rfl|exact Zj (Ze _ _ rfl)|exact Zj (Zj (Ze _ _ rfl))|exact Ze _ _ (by simp;done)):Hid (w.heap[n]?=some (.cells #[a0,a1,a2,a3,a4,a5] t (0,0)))∧w.cell? ⟨n,0,none⟩=some a0∧w.cell? ⟨n,1,none⟩=some a1∧w.cell? ⟨n,2,none⟩=some a2∧w.cell? ⟨n,3,none⟩=some a3∧w.cell? ⟨n,4,none⟩=some a4∧w.cell? ⟨n,5,none⟩=some a5∧(∀ k,w.frozen? ⟨n,k,none⟩=false)∧n<w.heap.size∧¬ n=w.heap.size:=by
  have h2:=(hb.block n hn).trans h
  obtain ⟨c0,c1,c2,c3,c4,c5,f,l⟩:=rw6 h2
  exact ⟨h2,c0,c1,c2,c3,c4,c5,f,l,by omega⟩
theorem rw5 {w:World} {n:Nat} {t:TypeId} {a0 a1 a2 a3 a4:Value} (h:w.heap[n]?=some (.cells #[a0,a1,a2,a3,a4] t (0,0))):w.cell? ⟨n,0,none⟩=some a0∧w.cell? ⟨n,1,none⟩=some a1∧w.cell? ⟨n,2,none⟩=some a2∧w.cell? ⟨n,3,none⟩=some a3∧w.cell? ⟨n,4,none⟩=some a4∧(∀ k,w.frozen? ⟨n,k,none⟩=false)∧n<w.heap.size :=
  ⟨(cell_of_row w n 0 _ _ _ h).trans rfl,(cell_of_row w n 1 _ _ _ h).trans rfl,(cell_of_row w n 2 _ _ _ h).trans rfl,(cell_of_row w n 3 _ _ _ h).trans rfl,(cell_of_row w n 4 _ _ _ h).trans rfl,fun k=>frozen_of_row w n k _ _ h,(Array.getElem?_eq_some_iff.1 h).1⟩
theorem kp5 {V w:World} {N n:Nat} {t:TypeId} {a0 a1 a2 a3 a4:Value} (hb:Below N V w) (hn:n<N) (h:V.heap[n]?=some (.cells #[a0,a1,a2,a3,a4] t (0,0))):Hid (w.heap[n]?=some (.cells #[a0,a1,a2,a3,a4] t (0,0)))∧w.cell? ⟨n,0,none⟩=some a0∧w.cell? ⟨n,1,none⟩=some a1∧w.cell? ⟨n,2,none⟩=some a2∧w.cell? ⟨n,3,none⟩=some a3∧w.cell? ⟨n,4,none⟩=some a4∧(∀ k,w.frozen? ⟨n,k,none⟩=false)∧n<w.heap.size∧¬ n=w.heap.size:=by
  have h2:=(hb.block n hn).trans h
  obtain ⟨h0,h1,h3,h4,h5,h6,h7⟩:=rw5 h2
  exact ⟨h2,h0,h1,h3,h4,h5,h6,h7,by omega⟩
def SlW (A:Int×Int→List (Int×Int)) (w:World) (l:List S5):Prop:=∀ x∈l,w.ownsRow 0 39 2 (.slice x.oa x.on x.oc) (A x.r).length (Zm (A x.r))
theorem SlW.keep {A:Int×Int→List (Int×Int)} {w w':World} {l:List S5} (h:SlW A w l) (hb:Below w.heap.size w w'):SlW A w' l:=fun x hx=>Za (h x hx) hb
def SlA (A:Int×Int→List (Int×Int)):Prop:=∀ r,(A r).length≤1000000∧(A r).Pairwise (fun x y=>x.1<y.1)
def inhS (A:Int×Int→List (Int×Int)) (id:Int) (x:S5):S5:=match (A x.r).find? (fun y=>y.1 == id) with
  | some y=>{ x with m:=y }
  | none=>x
theorem inhS_r (A:Int×Int→List (Int×Int)) (id:Int) (x:S5):(inhS A id x).r=x.r∧(inhS A id x).oa=x.oa∧(inhS A id x).on=x.on∧(inhS A id x).oc=x.oc:=by
  rw [inhS];split <;> exact ⟨rfl,rfl,rfl,rfl⟩
theorem inhS_hit {A:Int×Int→List (Int×Int)} (hA:SlA A) {id:Int} {x:S5} {i:Nat} {y:Int×Int} (hy:(A x.r)[i]?=some y) (hi:y.1=id):inhS A id x={ x with m:=y }:=by
  have:(A x.r).find? (fun y=>y.1 == id)=some y:=by
    rw [List.find?_eq_some_iff_getElem]
    obtain ⟨h1,h2⟩:=List.getElem?_eq_some_iff.1 hy
    refine ⟨by simp [hi],i,h1,h2,fun j hj=>?_⟩
    have:=List.pairwise_iff_getElem.1 (hA x.r).2 j i (by omega) h1 hj
    rw [h2,hi] at this
    simp
    omega
  rw [inhS,this]
theorem inhS_no {A:Int×Int→List (Int×Int)} {id:Int} {x:S5} (h:∀ y∈A x.r,y.1≠id):inhS A id x=x:=by
  have:(A x.r).find? (fun y=>y.1 == id)=none:=by
    rw [List.find?_eq_none]
    intro y hy
    simpa using h y hy
  rw [inhS,this]
theorem Zc8 {f:S5→S5} {l:List S5} {j:Nat} {x:S5} (h:l[j]?=some x):((l.take j).map f++l.drop j).set j (f x)=(l.take (j+1)).map f++l.drop (j+1):=by
  obtain ⟨h1,h2⟩:=List.getElem?_eq_some_iff.1 h
  have hl:((l.take j).map f).length=j:=by rw [List.length_map,List.length_take];omega
  rw [List.set_append_right _ _ (by omega),hl,Nat.sub_self,List.drop_eq_getElem_cons h1,List.set_cons_zero,List.take_add_one,h,Option.toList_some,List.map_append,List.append_assoc]
  rfl
theorem List.set_getElem?_self {α:Type} {l:List α} {j:Nat} {x:α} (h:l[j]?=some x):l.set j x=l:=by
  obtain ⟨h1,rfl⟩:=List.getElem?_eq_some_iff.1 h
  exact List.set_getElem_self h1
theorem td_at {f:S5→S5} {l:List S5} {j:Nat} {x:S5} (h:l[j]?=some x):((l.take j).map f++l.drop j)[j]?=some x:=by
  obtain ⟨h1,h2⟩:=List.getElem?_eq_some_iff.1 h
  have hl:((l.take j).map f).length=j:=by rw [List.length_map,List.length_take];omega
  rw [List.getElem?_append_right (by omega),hl,Nat.sub_self,List.getElem?_drop,Nat.add_zero,h]
theorem inh_any (A:Int×Int→List (Int×Int)) (hA:SlA A) (id:Int) (l:List S5) (v:Value) (W:World) (h:Rds W v l.length 5 (flat5 l)) (hn:l.length≤1000000000) (hS:SlW A W l):Calls Tryz.prog 81 #[v,.int .i64 id] W fun e w'=>(∃ v',e=.returned v'∧w'.ownsRow W.heap.size 102 5 v' l.length (flat5 (l.map (inhS A id))))∧Below W.heap.size W w':=by
  have HCl:Hid (Calls Tryz.prog 114 #[v] W fun e w'=>∃ v',e=.returned v'∧w'.ownsRow W.heap.size 102 5 v' l.length (flat5 l)∧Below W.heap.size W w'):=clo5_any l v W h hn
  have HA:Hid (SlA A):=hA
  have HS:Hid (SlW A W l):=hS
  obtain ⟨va0,vc0,rfl⟩:=h.slice
  obtain ⟨K,hK⟩:∃ K,l.length=K:=⟨_,rfl⟩
  have HK:Hid (l.length=K):=hK
  rw [hK] at hn HCl ⊢
  clear h hA hS hK
  go_enter Tryz.func81,Tryz.ntmps81
  go_wp2_with (go_at_call 114;refine HCl.out.mono ?_;rintro e w1 ⟨v',rfl,ho,hb⟩;obtain ⟨va,vc,rfl⟩:=ownv ho;have O1:Hid (w1.ownsRow W.heap.size 102 5 (.slice va K vc) K (flat5 l)):=ho;have B1:Hid (Below W.heap.size W w1):=hb;clear ho hb HCl)
  go_loopw [14] (fun kv wr=>∃ j:Nat,kv=.int .i64 j∧j≤K∧Hid (wr.ownsRow W.heap.size 102 5 (.slice va K vc) K (flat5 ((l.take j).map (inhS A id)++l.drop j)))∧Hid (Below W.heap.size W wr)) (fun kv _=>K - (intOf kv).toNat)
  case atStart=>exact ⟨0,rfl,Nat.zero_le _,O1,B1⟩
  case round =>
    obtain ⟨j,rfl,hj,hO,hB⟩:=hrel
    by_cases hlt:j<K
    · have hjI:(j:Int)<(K:Int):=by omega
      obtain ⟨x,hx⟩:∃ x,l[j]?=some x:=⟨_,List.getElem?_eq_getElem (by rw [HK.out];exact hlt)⟩
      have hx2:=td_at (f:=inhS A id) hx
      have hset:=Zc8 (f:=inhS A id) hx
      obtain ⟨ga,c2,hform⟩:=Go.Joins.ownsRow_form hO.out (by omega)
      injection hform with hca _ hcc
      subst hca hcc
      obtain ⟨e0,e1,e2,e3,e4,gL⟩:=J7 hO.out hx2
      have hSx:=HS.out x (List.mem_of_getElem? hx)
      have HSX:Hid (∀ w,Below W.heap.size W w→w.ownsRow 0 39 2 (.slice x.oa x.on x.oc) (A x.r).length (Zm (A x.r))):=fun w hb=>Za hSx hb
      have HSE:Hid (∀ w,Below W.heap.size W w→Calls Tryz.prog 115 #[.slice x.oa x.on x.oc,.int .i64 id,.func (.func 116) #[] #[]] w fun e w'=>SeaR (A x.r) id e∧Below w.heap.size w w'):=fun w hb=>sea_any 0 (A x.r) _ id w (HSX.out w hb) (HA.out x.r).1 (HA.out x.r).2
      have HHIT:Hid (∀ (i:Nat) (y:Int×Int),(A x.r)[i]?=some y→y.1=id→inhS A id x={ x with m:=y }):=fun i y h1 h2=>inhS_hit HA.out h1 h2
      have HNO:Hid ((∀ y∈A x.r,y.1≠id)→inhS A id x=x):=fun h=>inhS_no h
      have HX2:Hid _:=hx2
      have HSET:Hid _:=hset
      clear hx hx2 hset hSx HS HA
      obtain ⟨⟨r1,r2⟩,⟨m1,m2⟩,oa,on,oc⟩:=x
      simp only at e0 e1 e2 e3 e4 HSX HSE HHIT HNO HX2 HSET
      generalize A (r1,r2)=AA at *
      by_cases hcase:∃ y∈AA,y.1=id
      · have HSE2:Hid (∀ w,Below W.heap.size W w→Calls Tryz.prog 115 #[.slice oa on oc,.int .i64 id,.func (.func 116) #[] #[]] w fun e w'=>(∃ (i:Nat) (y:Int×Int),e=.returned (.tuple #[.int .i64 (i:Int),.bool true])∧AA[i]?=some y∧y.1=id)∧Below w.heap.size w w'):=fun w hb=>(HSE.out w hb).mono fun e w' zz=>by
          obtain ⟨⟨i,f,e1,h1,h2⟩,h3⟩:=zz
          cases f with
          | true=>obtain ⟨y,hy,hy1⟩:=h1 rfl;exact ⟨⟨i,y,e1,hy,hy1⟩,h3⟩
          | false=>obtain ⟨y,hy,hy1⟩:=hcase;exact absurd hy1 (h2 rfl y hy)
        have hpos:0<AA.length:=by
          obtain ⟨y,hy,_⟩:=hcase
          exact List.length_pos_of_mem hy
        obtain ⟨gb,cb,hform2⟩:=Go.Joins.ownsRow_form (HSX.out W (Below.refl _ _)) hpos
        injection hform2 with q1 q2 q3
        subst q1 q2 q3
        obtain ⟨ll,hll⟩:∃ ll,AA.length=ll:=⟨_,rfl⟩
        have HLL:Hid (AA.length=ll):=hll
        have HG:Hid (W.heap.size≤ga):=(hO.out.lt ga rfl).1
        clear HSE HNO hpos
        have HSE:=HSE2
        clear HSE2 hcase
        rw [hll] at e4 HSE HSX
        rw [hll] at HHIT HX2 HSET
        clear hll
        have BWj:Hid (Below W.heap.size W (wr.alloc (.cells #[.int .i64 r1,.int .i64 r2,.int .i64 m1,.int .i64 m2,.slice (some ⟨gb,0,none⟩) ll oc] 102))):=hB.out.alloc hB.out.size _
        go_wp2_with (go_at_call 115;refine (HSE.out _ BWj.out).mono ?_;rintro e w2 ⟨⟨i,y,rfl,hy,hy1⟩,hb⟩;have ssd:=kp5 (n:=wr.heap.size) hb (by simp) (Zl _ _);obtain ⟨ssB,ss0,ss1,ss2,ss3,ss4,ssf,ssL,ssN⟩:=ssd;have B2:Hid (Below W.heap.size W w2):=Zc BWj.out hb;have O2:Hid (w2.ownsRow W.heap.size 102 5 (.slice (some ⟨ga,0,none⟩) K vc) K (flat5 ((l.take j).map (inhS A id)++l.drop j))):=Za (hO.out.alloc _) hb;have hrow:=HSX.out w2 B2.out;obtain ⟨d0,d1,dL⟩:=Yx (by rw [HLL.out];exact hrow) hy;have hiI:(i:Int)<(ll:Int):=(by have:=(List.getElem?_eq_some_iff.1 hy).1;have:=HLL.out;omega);have HU:Hid (inhS A id ⟨(r1,r2),(m1,m2),some ⟨gb,0,none⟩,ll,oc⟩=⟨(r1,r2),y,some ⟨gb,0,none⟩,ll,oc⟩):=HHIT.out i y hy hy1;obtain ⟨y1,y2⟩:=y;simp only at d0 d1;obtain ⟨k0,k1,k2,k3,k4,kL⟩:=J7 O2.out HX2.out;have kf2:=O2.out.frozenAt (j * 5+2);have kf3:=O2.out.frozenAt (j * 5+3);clear hy hy1 hrow HHIT;clear hb HSE)
        refine ⟨⟨j+1,by simp,by omega,?_,?_⟩,by simp [intOf];omega⟩
        · obtain ⟨s0,_⟩:=O2.out.stored (j * 5+2) (.int .i64 y1)
          obtain ⟨s1,_⟩:=s0.stored (j * 5+3) (.int .i64 y2)
          rw [Zfy _ j _ (y1,y2) HX2.out] at s1
          rw [Hid,← HSET.out,HU.out]
          exact s1
        · exact (B2.out.setCell (by exact HG.out) _).setCell (by exact HG.out) _
      · have HSE2:Hid (∀ w,Below W.heap.size W w→Calls Tryz.prog 115 #[.slice oa on oc,.int .i64 id,.func (.func 116) #[] #[]] w fun e w'=>(∃ (i:Nat),e=.returned (.tuple #[.int .i64 (i:Int),.bool false]))∧Below w.heap.size w w'):=fun w hb=>(HSE.out w hb).mono fun e w' zz=>by
          obtain ⟨⟨i,f,e1,h1,h2⟩,h3⟩:=zz
          cases f with
          | true=>obtain ⟨y,hy,hy1⟩:=h1 rfl;exact absurd ⟨y,List.mem_of_getElem? hy,hy1⟩ hcase
          | false=>exact ⟨⟨i,e1⟩,h3⟩
        have HU:=HNO.out (fun y hy h1=>hcase ⟨y,hy,h1⟩)
        have HUH:Hid _:=HU
        clear HSE HHIT HNO HU hcase
        have HSE:=HSE2
        clear HSE2
        have BWj:Hid (Below W.heap.size W (wr.alloc (.cells #[.int .i64 r1,.int .i64 r2,.int .i64 m1,.int .i64 m2,.slice oa on oc] 102))):=hB.out.alloc hB.out.size _
        go_wp2_with (go_at_call 115;refine (HSE.out _ BWj.out).mono ?_;rintro e w2 ⟨⟨i,rfl⟩,hb⟩;have ssd:=kp5 (n:=wr.heap.size) hb (by simp) (Zl _ _);obtain ⟨ssB,ss0,ss1,ss2,ss3,ss4,ssf,ssL,ssN⟩:=ssd;have B2:Hid (Below W.heap.size W w2):=Zc BWj.out hb;have O2:Hid (w2.ownsRow W.heap.size 102 5 (.slice (some ⟨ga,0,none⟩) K vc) K (flat5 ((l.take j).map (inhS A id)++l.drop j))):=Za (hO.out.alloc _) hb;clear hb HSE)
        refine ⟨⟨j+1,by simp,by omega,?_,B2⟩,by simp [intOf];omega⟩
        have hs:=HSET.out
        rw [HUH.out] at hs
        rw [Hid,← hs,List.set_getElem?_self HX2.out]
        exact O2.out
    · have e:j=K:=by omega
      subst e
      have O9:Hid (wr.ownsRow W.heap.size 102 5 (.slice va j vc) j (flat5 (l.map (inhS A id)))):=by
        have:=hO.out
        rw [List.take_of_length_le (by rw [HK.out];exact Nat.le_refl _),List.drop_of_length_le (by rw [HK.out];exact Nat.le_refl _),List.append_nil] at this
        exact this
      go_wp2
      exact bodyPost_ret (v:=.slice va j vc) (by simp [results,Tryz.results81,go_sem]) rfl ⟨⟨_,rfl,O9.out⟩,hB.out⟩
theorem open_c (f:Int) (W:World):Calls Tryz.prog 184 #[.int .i64 f] W fun e w'=>e=.returned (.int .i64 (Y3 f))∧w'=W:=by
  have HR:Hid (Y3 f=if hasI f 1 then 1 else if hasI f 4 then 4 else bits .and .i64 f 2):=Fl.own_open f
  have HH:Hid (∀ (x:Int) (y:Bool) (w:World),hasI f x=y→Calls Tryz.prog 129 #[.int .i64 f,.int .i64 x] w fun e w'=>e=.returned (.bool y)∧w'=w):=fun x y w hy=>by rw [← hy];exact Fl.hasAny_any f x w
  generalize Y3 f=r at *
  generalize hasI f=hz at *
  obtain ⟨b1,h1⟩:∃ b,hz 1=b:=⟨_,rfl⟩
  obtain ⟨b4,h4⟩:∃ b,hz 4=b:=⟨_,rfl⟩
  rw [h1,h4] at HR
  have H1:Hid _:=h1
  have H4:Hid _:=h4
  clear h1 h4
  cases b1 <;> cases b4
  all_goals
    go_enter Tryz.func184,Tryz.ntmps184
    go_wp2_with (go_at_call 129;refine (HH.out _ _ _ (by first|exact H1.out|exact H4.out)).mono ?_;rintro e w9 ⟨rfl,hw9⟩;rw [hw9];clear hw9 w9)
    exact bodyPost_ret (results_tmp rfl _ _ _) rfl ⟨by rw [HR.out];rfl,rfl⟩
def pkB (nm:ByteArray):ByteArray:=⟨(pkgL nm.data.toList).toArray⟩
theorem retB {a b:Bool} (h:a=b):Ending.returned (.bool a)=Ending.returned (.bool b):=by rw [h]
theorem Zcp (f:Int):Y3 f=1∨Y3 f=2∨Y3 f=4∨Y3 f=0:=by
  unfold Y3
  split
  · exact .inl rfl
  · split
    · exact .inr (.inr (.inl rfl))
    · split
      · exact .inr (.inl rfl)
      · exact .inr (.inr (.inr rfl))
theorem Y0 {ps:List Plc} {c i:Int} {m:HM} (h:Zp ps c i=some m):∃ (k:Nat) (q:Plc),c=(k:Int)∧ps[k]?=some q∧plcI ps c=some q∧Y6 q i=some m:=by
  rcases Zn ps c with ⟨h1,_⟩|⟨k,q,rfl,h2,h1⟩
  · rw [Zp,h1] at h;cases h
  · rw [Zp,h1] at h
    exact ⟨k,q,rfl,h2,h1,h⟩
def ifcC (cs:List Cls) (i:Int):Bool:=match clsI cs i with
  | some c=>hasI c.fl 512
  | none=>false
theorem Xb {b:Nat} {cs:List Cls} {W:World} (h:RAt b cs W) (i:Int):Calls Tryz.prog 26 #[.pointer (some ⟨b,0,none⟩),.int .i64 i] W fun e w'=>e=.returned (.bool (ifcC cs i))∧w'=W:=by
  have HI:Hid (∀ y,(clsI cs i).isSome=y→Calls Tryz.prog 25 #[.pointer (some ⟨b,0,none⟩),.int .i64 i] W fun e w'=>e=.returned (.bool y)∧w'=W):=fun y hy=>by rw [← hy];exact rIn_c h i
  rcases Xx cs i with ⟨h1,h2⟩|⟨k,c,rfl,h2,h1⟩
  · have e:ifcC cs i=false:=by rw [ifcC,h1]
    rw [e]
    have HI:Hid (Calls Tryz.prog 25 #[.pointer (some ⟨b,0,none⟩),.int .i64 i] W fun e w'=>e=.returned (.bool false)∧w'=W):=HI.out false (by rw [h1];rfl)
    clear h h1 h2 e
    go_enter Tryz.func26,Tryz.ntmps26
    go_wp2_with (go_at_call 25;refine HI.out.mono ?_;rintro e w9 ⟨rfl,hw9⟩;rw [hw9];clear hw9 w9)
    exact bodyPost_ret (results_tmp rfl _ _ _) rfl ⟨rfl,rfl⟩
  · have e:ifcC cs k=hasI c.fl 512:=by rw [ifcC,h1]
    rw [e]
    have HI:Hid (Calls Tryz.prog 25 #[.pointer (some ⟨b,0,none⟩),.int .i64 (k:Int)] W fun e w'=>e=.returned (.bool true)∧w'=W):=HI.out true (by rw [h1];rfl)
    obtain ⟨g,cap,vi,vm,b0,_,_,c0,c1,c2,c3,c4,c5,_⟩:=h.cells h2
    have hkI:(k:Int)<(cs.length:Int):=by have:=(List.getElem?_eq_some_iff.1 h2).1;omega
    have HF:Hid (∀ w:World,Calls Tryz.prog 46 #[.int .i64 c.fl,.int .i64 512] w fun e w'=>e=.returned (.bool (hasI c.fl 512))∧w'=w):=Z3 c.fl 512
    generalize hasI c.fl 512=R at *
    clear h h1 h2 e
    go_enter Tryz.func26,Tryz.ntmps26
    go_wp2_with (first
      | (go_at_call 25;refine HI.out.mono ?_;rintro e w9 ⟨rfl,hw9⟩;rw [hw9];clear hw9 w9)
      | (go_at_call 46;refine (HF.out _).mono ?_;rintro e w9 ⟨rfl,hw9⟩;rw [hw9];clear hw9 w9))
    exact bodyPost_ret (results_tmp rfl _ _ _) rfl ⟨rfl,rfl⟩
def togB (p q:Cls):Bool:=(p.ld == q.ld)&&(pkgL p.nm.data.toList == pkgL q.nm.data.toList)
theorem rTog_c (p q:Cls) (vi vm vi' vm':Value) (hp:p.nm.size≤maxLen) (hq:q.nm.size≤maxLen) (W:World):Calls Tryz.prog 78 #[.agg #[.string p.nm,.string p.su,vi,.int .i64 p.fl,.int .i64 p.ld,vm],.agg #[.string q.nm,.string q.su,vi',.int .i64 q.fl,.int .i64 q.ld,vm']] W fun e w'=>e=.returned (.bool (togB p q))∧Below W.heap.size W w':=by
  have HP:Hid (∀ u w,u=p.nm→Calls Tryz.prog 112 #[.string u] w fun e w'=>e=.returned (.string (pkB p.nm))∧w'=w):=fun u w hu=>by rw [hu];exact Zak p.nm hp w
  have HQ:Hid (∀ u w,u=q.nm→Calls Tryz.prog 112 #[.string u] w fun e w'=>e=.returned (.string (pkB q.nm))∧w'=w):=fun u w hu=>by rw [hu];exact Zak q.nm hq w
  have HR:Hid (togB p q=((p.ld == q.ld)&&((pkB p.nm).toList == (pkB q.nm).toList))):=by
    rw [Hid,togB,Lib.toList_data,Lib.toList_data];rfl
  generalize togB p q=R at *
  generalize pkB p.nm=s1 at *
  generalize pkB q.nm=s2 at *
  clear hp hq
  by_cases hld:p.ld=q.ld
  · have hld2:(p.ld == q.ld)=true:=by rw [hld];simp
    cases hz:(s1.toList == s2.toList)
    all_goals
      rw [hld2,hz] at HR
      go_enter Tryz.func78,Tryz.ntmps78
      go_wp2
      go_quiet (first|(go_at_call 112;refine Calls.quiet_of_same (HP.out _ _ rfl))|(go_at_call 112;refine Calls.quiet_of_same (HQ.out _ _ rfl)))
      go_wp2
      exact bodyPost_ret (results_tmp rfl _ _ _) rfl ⟨by rw [HR.out];rfl,below_drewN sqR _⟩
  · have hld2:(p.ld == q.ld)=false:=by simpa using hld
    rw [hld2] at HR
    go_enter Tryz.func78,Tryz.ntmps78
    go_wp2
    go_quiet (first|(go_at_call 112;refine Calls.quiet_of_same (HP.out _ _ rfl)))
    go_wp2
    exact bodyPost_ret (results_tmp rfl _ _ _) rfl ⟨by rw [HR.out];rfl,below_drewN sqR _⟩
def spC (cs:List Cls) (a b:Int):Bool:=match clsI cs a,clsI cs b with
  | some p,some q=>togB p q
  | _,_=>false
theorem Ql {w:World} {v:Value} {l:List (List UInt8)} (h:IsStrs w v l):∃ a c,v=.slice a l.length c:=by
  obtain ⟨a,c,e,_⟩:=h
  exact ⟨a,c,e⟩
theorem Xt {w:World} {v:Value} {l:List Mth} (h:IsMths w v l):∃ a c,v=.slice a l.length c:=by
  obtain ⟨a,c,e,_⟩:=h
  exact ⟨a,c,e⟩
theorem rSame_c {b:Nat} {cs:List Cls} {W:World} (h:RAt b cs W) (hz:∀ c∈cs,c.nm.size≤maxLen) (x y:Int):Calls Tryz.prog 124 #[.pointer (some ⟨b,0,none⟩),.int .i64 x,.int .i64 y] W fun e w'=>e=.returned (.bool (spC cs x y))∧Below W.heap.size W w':=by
  obtain ⟨σ,V,hne,V1,V2⟩:=class_of' (fun w'=>Below W.heap.size W w') ⟨_,Below.refl _ _⟩
  have HI:Hid (∀ i z y s,i=z→(clsI cs z).isSome=y→Calls Tryz.prog 25 #[.pointer (some ⟨b,0,none⟩),.int .i64 i] (V s) fun e w''=>e=.returned (.bool y)∧∃ s',w''=V s'):=fun i z y s hi hy=>by
    rw [hi,← hy];exact (rIn_c (h.below (V1.out s)) z).mono fun e w'' zz=>⟨zz.1,s,zz.2⟩
  rcases Xx cs x with ⟨h1,_⟩|⟨k,p,rfl,h2,h1⟩
  · have e:spC cs x y=false:=by rw [spC,h1]
    rw [e]
    have HX:Hid (∀ i s,i=x→Calls Tryz.prog 25 #[.pointer (some ⟨b,0,none⟩),.int .i64 i] (V s) fun e w''=>e=.returned (.bool false)∧∃ s',w''=V s'):=fun i s hi=>HI.out i x _ s hi (by rw [h1];rfl)
    clear h h1 e HI
    go_enter Tryz.func124,Tryz.ntmps124
    go_wp2
    refine Zd (C:=fun w'=>∃ s,w'=V s) (by kernel_rfl) (by kernel_rfl) (V2.out _ ((Below.refl _ _).drew)) ?_
    repeat (go_big_quiet_step ((go_at_call 25;exact HX.out _ _ rfl)))
    refine wpQuiet_nil ?_
    intro w9 hw9
    obtain ⟨s9,rfl⟩:=hw9
    go_wp2
    exact bodyPost_ret (results_tmp rfl _ _ _) rfl ⟨rfl,V1.out s9⟩
  · have HX:Hid (∀ i s,i=(k:Int)→Calls Tryz.prog 25 #[.pointer (some ⟨b,0,none⟩),.int .i64 i] (V s) fun e w''=>e=.returned (.bool true)∧∃ s',w''=V s'):=fun i s hi=>HI.out i k _ s hi (by rw [h1];rfl)
    rcases Xx cs y with ⟨g1,_⟩|⟨j,q,rfl,g2,g1⟩
    · have e:spC cs k y=false:=by rw [spC,h1,g1]
      rw [e]
      have HY:Hid (∀ i s,i=y→Calls Tryz.prog 25 #[.pointer (some ⟨b,0,none⟩),.int .i64 i] (V s) fun e w''=>e=.returned (.bool false)∧∃ s',w''=V s'):=fun i s hi=>HI.out i y _ s hi (by rw [g1];rfl)
      clear h h1 g1 e HI h2
      go_enter Tryz.func124,Tryz.ntmps124
      go_wp2
      refine Zd (C:=fun w'=>∃ s,w'=V s) (by kernel_rfl) (by kernel_rfl) (V2.out _ ((Below.refl _ _).drew)) ?_
      repeat (go_big_quiet_step (first|(go_at_call 25;exact HX.out _ _ rfl)|(go_at_call 25;exact HY.out _ _ rfl)))
      refine wpQuiet_nil ?_
      intro w9 hw9
      obtain ⟨s9,rfl⟩:=hw9
      go_wp2
      exact bodyPost_ret (results_tmp rfl _ _ _) rfl ⟨rfl,V1.out s9⟩
    · have e:spC cs k j=togB p q:=by rw [spC,h1,g1]
      rw [e]
      have HY:Hid (∀ i s,i=(j:Int)→Calls Tryz.prog 25 #[.pointer (some ⟨b,0,none⟩),.int .i64 i] (V s) fun e w''=>e=.returned (.bool true)∧∃ s',w''=V s'):=fun i s hi=>HI.out i j _ s hi (by rw [g1];rfl)
      have HT:Hid (∀ vi vm vi' vm' s,Calls Tryz.prog 78 #[.agg #[.string p.nm,.string p.su,vi,.int .i64 p.fl,.int .i64 p.ld,vm],.agg #[.string q.nm,.string q.su,vi',.int .i64 q.fl,.int .i64 q.ld,vm']] (V s) fun e w''=>e=.returned (.bool (togB p q))∧∃ s',w''=V s'):=fun vi vm vi' vm' s=>(rTog_c p q vi vm vi' vm' (hz p (List.mem_of_getElem? h2)) (hz q (List.mem_of_getElem? g2)) (V s)).mono fun e w'' zz=>⟨zz.1,V2.out _ (Zc (V1.out s) zz.2)⟩
      obtain ⟨g,cap,vi,vm,b0,hlt,hgl,c0,c1,c2,c3,c4,c5,hi1,hi2⟩:=h.cells h2
      obtain ⟨g',cap',vi',vm',b0',_,_,d0,d1,d2,d3,d4,d5,hi3,hi4⟩:=h.cells g2
      rw [b0] at b0'
      simp only [Option.some.injEq,Value.slice.injEq,Addr.mk.injEq,and_true,true_and] at b0'
      obtain ⟨rfl,rfl⟩:=b0'
      obtain ⟨x1,x2,rfl⟩:=Ql hi1
      obtain ⟨x3,x4,rfl⟩:=Xt hi2
      obtain ⟨x5,x6,rfl⟩:=Ql hi3
      obtain ⟨x7,x8,rfl⟩:=Xt hi4
      have kp:∀ (s:σ) (bb j:Nat) (v:Value),bb<W.heap.size→W.cell? ⟨bb,j,none⟩=some v→(V s).cell? ⟨bb,j,none⟩=some v:=fun s bb j v hl h=>((V1.out s).cell (p:=⟨bb,j,none⟩) hl).trans h
      replace b0:=fun s=>kp s _ _ _ hlt b0
      replace c0:=fun s=>kp s _ _ _ hgl c0
      replace c1:=fun s=>kp s _ _ _ hgl c1
      replace c2:=fun s=>kp s _ _ _ hgl c2
      replace c3:=fun s=>kp s _ _ _ hgl c3
      replace c4:=fun s=>kp s _ _ _ hgl c4
      replace c5:=fun s=>kp s _ _ _ hgl c5
      replace d0:=fun s=>kp s _ _ _ hgl d0
      replace d1:=fun s=>kp s _ _ _ hgl d1
      replace d2:=fun s=>kp s _ _ _ hgl d2
      replace d3:=fun s=>kp s _ _ _ hgl d3
      replace d4:=fun s=>kp s _ _ _ hgl d4
      replace d5:=fun s=>kp s _ _ _ hgl d5
      have hxI:(k:Int)<(cs.length:Int):=by have:=(List.getElem?_eq_some_iff.1 h2).1;omega
      have hyI:(j:Int)<(cs.length:Int):=by have:=(List.getElem?_eq_some_iff.1 g2).1;omega
      generalize togB p q=R at *
      clear h h1 h2 g1 g2 e kp hlt hgl HI hi1 hi2 hi3 hi4 hz
      go_enter Tryz.func124,Tryz.ntmps124
      go_wp2
      refine Zd (C:=fun w'=>∃ s,w'=V s) (by kernel_rfl) (by kernel_rfl) (V2.out _ ((Below.refl _ _).drew)) ?_
      repeat (go_big_quiet_step (first|(go_at_call 25;exact HX.out _ _ rfl)|(go_at_call 25;exact HY.out _ _ rfl)|(go_at_call 78;exact HT.out _ _ _ _ _)))
      refine wpQuiet_nil ?_
      intro w9 hw9
      obtain ⟨s9,rfl⟩:=hw9
      go_wp2
      exact bodyPost_ret (results_tmp rfl _ _ _) rfl ⟨rfl,V1.out s9⟩
theorem rOpen_c (c p:Cls) (vi vm vi' vm':Value) (hc:c.nm.size≤maxLen) (hp:p.nm.size≤maxLen) (W:World):Calls Tryz.prog 47 #[.agg #[.string c.nm,.string c.su,vi,.int .i64 c.fl,.int .i64 c.ld,vm],.agg #[.string p.nm,.string p.su,vi',.int .i64 p.fl,.int .i64 p.ld,vm']] W fun e w'=>e=.returned (.bool (hasI p.fl 1||togB c p))∧Below W.heap.size W w':=by
  have HT:Hid (∀ w,Calls Tryz.prog 78 #[.agg #[.string c.nm,.string c.su,vi,.int .i64 c.fl,.int .i64 c.ld,vm],.agg #[.string p.nm,.string p.su,vi',.int .i64 p.fl,.int .i64 p.ld,vm']] w fun e w'=>e=.returned (.bool (togB c p))∧Below w.heap.size w w'):=fun w=>rTog_c c p vi vm vi' vm' hc hp w
  have HF:Hid (∀ w:World,Calls Tryz.prog 46 #[.int .i64 p.fl,.int .i64 1] w fun e w'=>e=.returned (.bool (hasI p.fl 1))∧w'=w):=Z3 p.fl 1
  generalize hasI p.fl 1=b1 at *
  generalize togB c p=b2 at *
  clear hc hp
  cases b1
  all_goals
    go_enter Tryz.func47,Tryz.ntmps47
    go_wp2_with (first
      | (go_at_call 46;refine (HF.out _).mono ?_;rintro e w9 ⟨rfl,hw9⟩;rw [hw9];clear hw9 w9)
      | (go_at_call 78;refine (HT.out _).mono ?_;rintro e w1 ⟨rfl,hb⟩;have B1:Hid (Below W.heap.size W w1):=Zc sqR hb;clear hb HT))
    first
      | exact bodyPost_ret (results_tmp rfl _ _ _) rfl ⟨rfl,B1.out⟩
      | exact bodyPost_ret (results_tmp rfl _ _ _) rfl ⟨rfl,sqR⟩
end Go.Proofs.YtjbmmmcjegjelaaGreat
