import Derived.Test.YtkoogmegdfpopaaGreatRfG
import Derived.Test.YtkoogmegdfpopaaGreatSmA
set_option maxHeartbeats 4000000
set_option maxRecDepth 100000
namespace Go.Proofs.YtkoogmegdfpopaaGreat
open Go.RowKit Go.Maps
def Jc (K:Obj→Prop) (w w':World):Prop:=∀ (j:Nat) (o:Obj),w.heap[j]?=some o→K o→w'.heap[j]?=some o
theorem Z9 {w w':World} {K:Obj→Prop} {N e s:Nat} {v:Value} {n:Nat} {xs:List Value} (h:w.ownsRow N e s v n xs) (hk:Jc K w w') (he:∀ cs,K (.cells cs e (0,0))):w'.ownsRow N e s v n xs:=by
 refine ⟨h.1,?_⟩
 rcases h.2 with hn|⟨g,cap,cur,rfl,hb,hgg,rest⟩
 ·exact .inl hn
 ·exact .inr ⟨g,cap,cur,rfl,hb,hk g _ hgg (he cur),rest⟩
theorem OwnC.keptK {w w':World} {K:Obj→Prop} {N:Nat} {vi:Value} {ni:Nat} {xi:List Value} {vm:Value} {qm:List (HM×Value)} (h:OwnC w N vi ni xi vm qm) (hk:Jc K w w') (he:∀ cs t,t=9∨t=48∨t=56→K (.cells cs t (0,0))):OwnC w' N vi ni xi vm qm :=
 ⟨Z9 h.ifs hk fun cs=>he cs _ (by decide),Z9 h.ms hk fun cs=>he cs _ (by decide),fun x hx=>Z9 (h.cod x hx) hk fun cs=>he cs _ (by decide)⟩
def KRef (o:Obj):Prop:=(∀ xs,o≠.cells xs 33 (0,0))∧∀ xs,o≠.cells xs 74 (0,0)
def Zee (o:Obj):Prop:=(∀ xs,o≠.cells xs 70 (0,0))∧(∀ xs,o≠.cells xs 84 (0,0))∧∀ es cl,o≠.map es cl
theorem HW.keptK {w w':World} {N b mb:Nat} {ps:List Plc} {vp:Value} {pv:List PV} (h:HW w N b mb ps vp pv) (hk:Jc KRef w w'):HW w' N b mb ps vp pv:=by
 have hK:∀ (cs:Array Value) (t:Nat),t≠33→t≠74→KRef (.cells cs t (0,0)):=fun cs t h1 h2=>⟨fun xs e=>h1 (by injection e),fun xs e=>h2 (by injection e)⟩
 refine ⟨hk b _ h.hb (hK _ _ (by decide) (by decide)),Z9 h.row hk fun cs=>hK _ _ (by decide) (by decide),h.len,fun k p q h1 h2=>?_,?_,h.lb,h.lm,h.wf⟩
 ·have hp:=h.pl k p q h1 h2
  obtain ⟨qm,h3,h4⟩:=hp.own
  exact ⟨hp.nm,hp.su,hp.fl,hp.ld,hp.sp,⟨qm,h3,h4.keptK hk fun cs t ht=>hK _ _ (by rcases ht with rfl|rfl|rfl <;> decide) (by rcases ht with rfl|rfl|rfl <;> decide)⟩,Z9 hp.clo hk fun cs=>hK _ _ (by decide) (by decide)⟩
 ·obtain ⟨es,cl,hm,rest⟩:=h.map
  exact ⟨es,cl,hk mb _ hm ⟨fun xs e=>(by injection e),fun xs e=>(by injection e)⟩,rest⟩
theorem RW.keptK {w w':World} {N b:Nat} {v:Value} {rs:List CR} (h:RW w N b v rs) (hk:Jc Zee w w'):RW w' N b v rs:=by
 have hK:∀ (cs:Array Value) (t:Nat),t≠70→t≠84→Zee (.cells cs t (0,0)):=fun cs t h1 h2=>⟨fun xs e=>h1 (by injection e),fun xs e=>h2 (by injection e),fun es cl e=>(by injection e)⟩
 refine ⟨hk b _ h.hb (hK _ _ (by decide) (by decide)),Z9 h.row hk fun cs=>hK _ _ (by decide) (by decide),fun r hr=>?_,h.lb⟩
 obtain ⟨qm,h3,h4⟩:=h.own r hr
 exact ⟨qm,h3,h4.keptK hk fun cs t ht=>hK _ _ (by rcases ht with rfl|rfl|rfl <;> decide) (by rcases ht with rfl|rfl|rfl <;> decide)⟩
theorem Zih {w w':World} {N b mb:Nat} {ps:List Plc} {vp:Value} {pv:List PV} (h:HW w N b mb ps vp pv) (hk:∀ j<w.heap.size,j≠b→j≠mb→some j≠vp.ownBlock→w'.heap[j]?=w.heap[j]?):Jc Zee w w':=by
 intro j o hj hK
 refine (hk j (Array.getElem?_eq_some_iff.1 hj).1 (fun e=>?_) (fun e=>?_) (Zhs h.row hj hK.2.1)).trans hj
 ·subst e;rw [h.hb] at hj;exact hK.1 _ (Option.some.inj hj).symm
 ·obtain ⟨es,cl,hm,_⟩:=h.map
  subst e;rw [hm] at hj;exact hK.2.2 _ _ (Option.some.inj hj).symm
theorem kept_ref {w w':World} {N b:Nat} {v:Value} {rs:List CR} (h:RW w N b v rs) (hk:∀ (j:Nat) (o:Obj),w.heap[j]?=some o→j≠b→(∀ xs,o≠.cells xs 33 (0,0))→w'.heap[j]?=some o):Jc KRef w w':=by
 intro j o hj hK
 refine hk j o hj (fun e=>?_) hK.1
 subst e;rw [h.hb] at hj;exact hK.2 _ (Option.some.inj hj).symm
theorem two_say {cs:List Cls} {ps:List Plc} (h:Twin cs ps) (hn:NmW ps) (c:Cls):rdfV cs (rdfN cs c)=dfV ps.length (defN ps c):=by
 rw [rdf_eq h hn c]
 cases hd:defN ps c with
 | ok p=>simp [errN,rdfV,dfV,h.len]
 | error x=>rw [errN,rdfV,if_neg (Zis hd)];rfl
def mkS:List Value:=[.string ⟨#[35,55,49]⟩,.string ⟨#[35,55,50]⟩]
def mkI:List Value:=[.int .i64 (-71),.int .i64 0,.string ⟨#[]⟩,.bool false,.string ⟨#[]⟩,.string ⟨#[]⟩,.string ⟨#[]⟩,.int .i64 (-72),.int .i64 0,.string ⟨#[]⟩,.bool false,.string ⟨#[]⟩,.string ⟨#[]⟩,.string ⟨#[]⟩]
def mkM:List (HM×Value):=[(⟨⟨#[35,55,49]⟩,⟨#[]⟩,0,0,0,0,[]⟩,.slice none 0 0),(⟨⟨#[35,55,50]⟩,⟨#[]⟩,0,0,0,0,[]⟩,.slice none 0 0)]
theorem mkI_one:∀ u∈mkI,u.oneCell'=true:=by simp [mkI,Value.oneCell']
theorem mkS_one:∀ u∈mkS,u.oneCell'=true:=by simp [mkS,Value.oneCell']
structure RU where
 h:HM
 g:Nat
 c:Nat
def RU.cv (u:RU):Value:=.slice (some ⟨u.g,0,none⟩) (u.h.n+2) u.c
def RU.mv (u:RU):HM×Value:=(u.h,.slice (some ⟨u.g,0,none⟩) u.h.n u.c)
structure RyI (w1 w:World) (rb:Nat) (nm su:ByteArray) (fl ld:Int) (vi vm vi' vm':Value) (gi ci ni:Nat) (xi:List Value) (us uc:List RU) (vM vC:Value):Prop where
 rm:w.heap[rb]?=some (.cells #[.string nm,.string su,vi,.int .i64 fl,.int .i64 ld,vm,.slice (some ⟨gi,0,none⟩) (ni+2) ci,vM,vC,.string nm,.string su,vi',.int .i64 fl,.int .i64 ld,vm'] 39 (0,0))
 bl:Below rb w1 w
 le:rb≤w1.heap.size
 ifs:w.ownsRow (rb+1) 9 1 (.slice (some ⟨gi,0,none⟩) (ni+2) ci) (ni+2) (xi++mkS)
 ms:w.ownsRow (rb+1) 48 6 vM us.length (Zm (us.map RU.mv))
 cs:w.ownsRow (rb+1) 46 1 vC uc.length (uc.map RU.cv)
 co:∀ u∈uc,w.ownsRow (rb+1) 56 7 u.cv (u.h.n+2) (u.h.xs++mkI)
section
variable {w1 w w':World} {rb:Nat} {nm su:ByteArray} {fl ld:Int} {vi vm vi' vm':Value} {gi ci ni:Nat} {xi:List Value} {us uc:List RU} {vM vC:Value}
theorem RyI.lt (h:RyI w1 w rb nm su fl ld vi vm vi' vm' gi ci ni xi us uc vM vC):rb<w.heap.size:=(Array.getElem?_eq_some_iff.1 h.rm).1
theorem RyI.bel (h:RyI w1 w rb nm su fl ld vi vm vi' vm' gi ci ni xi us uc vM vC) (hb:Bw w w'):RyI w1 w' rb nm su fl ld vi vm vi' vm' gi ci ni xi us uc vM vC :=
 ⟨(hb.block _ h.lt).trans h.rm,h.bl.trans (hb.mono (Nat.le_of_lt h.lt)),h.le,Zi h.ifs hb,Zi h.ms hb,Zi h.cs hb,fun u hu=>Zi (h.co u hu) hb⟩
theorem RyI.drew (h:RyI w1 w rb nm su fl ld vi vm vi' vm' gi ci ni xi us uc vM vC):RyI w1 w.drew rb nm su fl ld vi vm vi' vm' gi ci ni xi us uc vM vC:=h.bel (Below.refl _ _).drew
theorem RyI.box (h:RyI w1 w rb nm su fl ld vi vm vi' vm' gi ci ni xi us uc vM vC) {b i:Nat} {cs:Array Value} (hx:w.heap[b]?=some (.cells cs 48 (0,0))) (hb:rb<b) (hm:vM.ownBlock≠some b) (v:Value):RyI w1 (w.setCell ⟨b,i,none⟩ v) rb nm su fl ld vi vm vi' vm' gi ci ni xi us uc vM vC:=by
 have G:w.grownBy (w.setCell ⟨b,i,none⟩ v) (some b):=Zn _ b _ _
 refine ⟨(G.block _ h.lt (by simp;omega)).trans h.rm,h.bl.grown G (Nat.le_of_lt h.lt) (fun k hk=>by cases hk;omega),h.le,h.ifs.kept G (Ze h.ifs hx (by decide)),h.ms.kept G (.inr hm),h.cs.kept G (Ze h.cs hx (by decide)),fun u hu=>(h.co u hu).kept G (Ze (h.co u hu) hx (by decide))⟩
theorem RyI.code (h:RyI w1 w rb nm su fl ld vi vm vi' vm' gi ci ni xi us uc vM vC) {u:RU} {vC':Value} (ho:w.ownsRow (rb+1) 56 7 u.cv (u.h.n+2) (u.h.xs++mkI)) (hg:w.grownBy w' vC.ownBlock) (hc:w'.ownsRow (rb+1) 46 1 vC' (uc.length+1) (uc.map RU.cv++[u.cv])) :
 RyI w1 (w'.setCell ⟨rb,8,none⟩ vC') rb nm su fl ld vi vm vi' vm' gi ci ni xi us (uc++[u]) vM vC':=by
 have hr:w'.heap[rb]?=_:=(hg.block _ h.lt (fun e=>by have:=(h.cs.lt _ e.symm).1;omega)).trans h.rm
 have hs:=heap_setCell_same w' rb 8 _ 39 vC' hr
 have hk:∀ {e s n:Nat} {v:Value} {xs:List Value},w.ownsRow (rb+1) e s v n xs→e≠46→(w'.setCell ⟨rb,8,none⟩ vC').ownsRow (rb+1) e s v n xs:=fun hx hne=>ownsRow_setCell_below (a:=⟨rb,8,none⟩) (Yo hx h.cs hg hne) (Nat.lt_succ_self _) _
 refine ⟨hs.trans rfl,(h.bl.grown hg (Nat.le_of_lt h.lt) (fun k hk=>by have:=(h.cs.lt _ hk).1;omega)).setCell (p:=⟨rb,8,none⟩) (Nat.le_refl _) _,h.le,hk h.ifs (by decide),hk h.ms (by decide),?_,?_⟩
 ·have:=ownsRow_setCell_below (a:=⟨rb,8,none⟩) hc (Nat.lt_succ_self _) vC'
  simpa using this
 ·intro x hx
  rcases List.mem_append.1 hx with hx|hx
  ·exact hk (h.co x hx) (by decide)
  ·obtain rfl:x=u:=by simpa using hx
   exact hk ho (by decide)
theorem RyI.meth (h:RyI w1 w rb nm su fl ld vi vm vi' vm' gi ci ni xi us uc vM vC) {vs:List RU} {vM':Value} (hg:w.grownBy w' vM.ownBlock) (hc:w'.ownsRow (rb+1) 48 6 vM' vs.length (Zm (vs.map RU.mv))) :
 RyI w1 (w'.setCell ⟨rb,7,none⟩ vM') rb nm su fl ld vi vm vi' vm' gi ci ni xi vs uc vM' vC:=by
 have hr:w'.heap[rb]?=_:=(hg.block _ h.lt (fun e=>by have:=(h.ms.lt _ e.symm).1;omega)).trans h.rm
 have hs:=heap_setCell_same w' rb 7 _ 39 vM' hr
 have hk:∀ {e s n:Nat} {v:Value} {xs:List Value},w.ownsRow (rb+1) e s v n xs→e≠48→(w'.setCell ⟨rb,7,none⟩ vM').ownsRow (rb+1) e s v n xs:=fun hx hne=>ownsRow_setCell_below (a:=⟨rb,7,none⟩) (Yo hx h.ms hg hne) (Nat.lt_succ_self _) _
 refine ⟨hs.trans rfl,(h.bl.grown hg (Nat.le_of_lt h.lt) (fun k hk=>by have:=(h.ms.lt _ hk).1;omega)).setCell (p:=⟨rb,7,none⟩) (Nat.le_refl _) _,h.le,hk h.ifs (by decide),?_,hk h.cs (by decide),fun x hx=>hk (h.co x hx) (by decide)⟩
 exact ownsRow_setCell_below (a:=⟨rb,7,none⟩) hc (Nat.lt_succ_self _) vM'
structure RoomR (w1 w:World) (rb:Nat) (nm su:ByteArray) (fl ld:Int) (v2 v5 vi' vm':Value) (gi ci ni:Nat) (xi:List Value) (gm cm:Nat) (us:List RU) (vC:Value):Prop where
 rm:w.heap[rb]?=some (.cells #[.string nm,.string su,v2,.int .i64 fl,.int .i64 ld,v5,.slice (some ⟨gi,0,none⟩) (ni+2) ci,.slice (some ⟨gm,0,none⟩) (us.length+2) cm,vC,.string nm,.string su,vi',.int .i64 fl,.int .i64 ld,vm'] 39 (0,0))
 bl:Below rb w1 w
 ifs:w.ownsRow (rb+1) 9 1 (.slice (some ⟨gi,0,none⟩) (ni+2) ci) (ni+2) (xi++mkS)
 ms:w.ownsRow (rb+1) 48 6 (.slice (some ⟨gm,0,none⟩) (us.length+2) cm) (us.length+2) (Zm (us.map RU.mv++mkM))
 cs:w.ownsRow (rb+1) 46 1 vC us.length (us.map RU.cv)
 co:∀ u∈us,w.ownsRow (rb+1) 56 7 u.cv (u.h.n+2) (u.h.xs++mkI)
theorem RyI.full (h:RyI w1 w rb nm su fl ld vi vm vi' vm' gi ci ni xi us us vM vC) {gm cm:Nat} (hg:w.grownBy w' vM.ownBlock) (hc:w'.ownsRow (rb+1) 48 6 (.slice (some ⟨gm,0,none⟩) (us.length+2) cm) (us.length+2) (Zm (us.map RU.mv++mkM))) :
 RoomR w1 (w'.setCell ⟨rb,7,none⟩ (.slice (some ⟨gm,0,none⟩) (us.length+2) cm)) rb nm su fl ld vi vm vi' vm' gi ci ni xi gm cm us vC:=by
 have hr:w'.heap[rb]?=_:=(hg.block _ h.lt (fun e=>by have:=(h.ms.lt _ e.symm).1;omega)).trans h.rm
 have hs:=heap_setCell_same w' rb 7 _ 39 (.slice (some ⟨gm,0,none⟩) (us.length+2) cm) hr
 have hk:∀ {e s n:Nat} {v:Value} {xs:List Value},w.ownsRow (rb+1) e s v n xs→e≠48→(w'.setCell ⟨rb,7,none⟩ (.slice (some ⟨gm,0,none⟩) (us.length+2) cm)).ownsRow (rb+1) e s v n xs:=fun hx hne=>ownsRow_setCell_below (a:=⟨rb,7,none⟩) (Yo hx h.ms hg hne) (Nat.lt_succ_self _) _
 refine ⟨hs.trans rfl,(h.bl.grown hg (Nat.le_of_lt h.lt) (fun k hk=>by have:=(h.ms.lt _ hk).1;omega)).setCell (p:=⟨rb,7,none⟩) (Nat.le_refl _) _,hk h.ifs (by decide),?_,hk h.cs (by decide),fun x hx=>hk (h.co x hx) (by decide)⟩
 exact ownsRow_setCell_below (a:=⟨rb,7,none⟩) hc (Nat.lt_succ_self _) _
variable {v2 v5:Value} {gm cm:Nat}
theorem RoomR.drew (h:RoomR w1 w rb nm su fl ld v2 v5 vi' vm' gi ci ni xi gm cm us vC):RoomR w1 w.drew rb nm su fl ld v2 v5 vi' vm' gi ci ni xi gm cm us vC :=
 ⟨h.rm,h.bl.drew,h.ifs.drew,h.ms.drew,h.cs.drew,fun u hu=>(h.co u hu).drew⟩
theorem RoomR.set2 (h:RoomR w1 w rb nm su fl ld v2 v5 vi' vm' gi ci ni xi gm cm us vC) (v:Value):RoomR w1 (w.setCell ⟨rb,2,none⟩ v) rb nm su fl ld v v5 vi' vm' gi ci ni xi gm cm us vC :=
 ⟨(heap_setCell_same w rb 2 _ 39 v h.rm).trans rfl,h.bl.setCell (p:=⟨rb,2,none⟩) (Nat.le_refl _) _,ownsRow_setCell_below (a:=⟨rb,2,none⟩) h.ifs (Nat.lt_succ_self _) _,ownsRow_setCell_below (a:=⟨rb,2,none⟩) h.ms (Nat.lt_succ_self _) _,ownsRow_setCell_below (a:=⟨rb,2,none⟩) h.cs (Nat.lt_succ_self _) _,fun u hu=>ownsRow_setCell_below (a:=⟨rb,2,none⟩) (h.co u hu) (Nat.lt_succ_self _) _⟩
theorem RoomR.set5 (h:RoomR w1 w rb nm su fl ld v2 v5 vi' vm' gi ci ni xi gm cm us vC) (v:Value):RoomR w1 (w.setCell ⟨rb,5,none⟩ v) rb nm su fl ld v2 v vi' vm' gi ci ni xi gm cm us vC :=
 ⟨(heap_setCell_same w rb 5 _ 39 v h.rm).trans rfl,h.bl.setCell (p:=⟨rb,5,none⟩) (Nat.le_refl _) _,ownsRow_setCell_below (a:=⟨rb,5,none⟩) h.ifs (Nat.lt_succ_self _) _,ownsRow_setCell_below (a:=⟨rb,5,none⟩) h.ms (Nat.lt_succ_self _) _,ownsRow_setCell_below (a:=⟨rb,5,none⟩) h.cs (Nat.lt_succ_self _) _,fun u hu=>ownsRow_setCell_below (a:=⟨rb,5,none⟩) (h.co u hu) (Nat.lt_succ_self _) _⟩
theorem Zat (a b:List (HM×Value)):Zm (a++b)=Zm a++Zm b:=by simp [Zm]
theorem Zca {w:World} {N e s:Nat} {v:Value} {n:Nat} {xs:List Value} (h:w.ownsRow N e s v n xs) (hn:0<n):∃ g c,v=.slice (some ⟨g,0,none⟩) n c∧n≤c:=by
 rcases h.2 with ⟨_,e⟩|⟨g,cap,cur,rfl,_,_,h1,_⟩
 ·have h1:=h.1
  have h0:n=0:=e
  omega
 ·exact ⟨g,cap,rfl,h1⟩
end
theorem wld_wj (l:List Cls) (hl:∀ c∈l,ClsW c):WI (wld l)∧WJ (wld l):=Zbt (P:=fun ps=>WI ps∧WJ ps) ⟨wi3,wj3⟩ (fun _ c h hc=>⟨h.1.define c hc,WJ.define h.1 h.2 c hc⟩) l hl
theorem rw6 {w:World} {n:Nat} {t:TypeId} {a0 a1 a2 a3 a4 a5:Value} (h:w.heap[n]?=some (.cells #[a0,a1,a2,a3,a4,a5] t (0,0))):w.cell? ⟨n,0,none⟩=some a0∧w.cell? ⟨n,1,none⟩=some a1∧w.cell? ⟨n,2,none⟩=some a2∧w.cell? ⟨n,3,none⟩=some a3∧w.cell? ⟨n,4,none⟩=some a4∧w.cell? ⟨n,5,none⟩=some a5∧(∀ k,w.frozen? ⟨n,k,none⟩=false)∧n<w.heap.size :=
 ⟨(cell_of_row w n 0 _ _ _ h).trans rfl,(cell_of_row w n 1 _ _ _ h).trans rfl,(cell_of_row w n 2 _ _ _ h).trans rfl,(cell_of_row w n 3 _ _ _ h).trans rfl,(cell_of_row w n 4 _ _ _ h).trans rfl,(cell_of_row w n 5 _ _ _ h).trans rfl,fun k=>frozen_of_row w n k _ _ h,(Array.getElem?_eq_some_iff.1 h).1⟩
theorem zCod:(Tryz.prog.info? 46).map (fun i=>(i.zero,i.size,i.bytes))=some (some (.slice none 0 0),1,24):=by kernel_rfl
theorem roomy_c (nm su:ByteArray) (fl ld:Int) (vi vm:Value) (ni:Nat) (xi:List Value) (pm:List (HM×Value)) (W:World) (hi:Rdw W vi ni 1 xi) (hi1:∀ u∈xi,u.oneCell'=true) (hni:ni≤8796093021952)
 (hm:Rdw W vm pm.length 6 (Zm pm)) (hnm:pm.length≤1759218604390) (hc:∀ p∈pm,Rdw W p.2 p.1.n 7 p.1.xs∧(∀ u∈p.1.xs,u.oneCell'=true)∧p.1.n≤1599289640354) :
 Calls Tryz.prog 7 #[.agg #[.string nm,.string su,vi,.int .i64 fl,.int .i64 ld,vm]] W fun e w'=>∃ rb w1 gi ci gm cm us vC vi' vm' qm,e=.returned (.pointer (some ⟨rb,0,none⟩))∧W.heap.size<rb∧RoomR w1 w' rb nm su fl ld (.slice (some ⟨gi,0,none⟩) ni ci) (.slice (some ⟨gm,0,none⟩) pm.length cm) vi' vm' gi ci ni xi gm cm us vC∧us.map RU.h=pm.map Prod.fst∧OwnC w' W.heap.size vi' ni xi vm' qm∧qm.map Prod.fst=pm.map Prod.fst∧Bw W w':=by
 obtain ⟨ai0,ci0,rfl⟩:=hi.slice
 obtain ⟨am0,cm0,rfl⟩:=hm.slice
 obtain ⟨iN,hi_iN,hz_iN,hs_iN,hb_iN⟩:=info_parts zInst
 obtain ⟨iM,hi_iM,hz_iM,hs_iM,hb_iM⟩:=info_parts zMeth
 obtain ⟨iS,hi_iS,hz_iS,hs_iS,hb_iS⟩:=info_parts zStr
 obtain ⟨iC,hi_iC,hz_iC,hs_iC,hb_iC⟩:=info_parts zCod
 have HI:Hid (Rdw W (.slice ai0 ni ci0) ni 1 xi):=hi
 have HM':Hid (Rdw W (.slice am0 pm.length cm0) pm.length 6 (Zm pm)):=hm
 have HC:Hid (∀ p∈pm,Rdw W p.2 p.1.n 7 p.1.xs∧(∀ u∈p.1.xs,u.oneCell'=true)∧p.1.n≤1599289640354):=hc
 have HI1:Hid (∀ u∈xi,u.oneCell'=true):=hi1
 obtain ⟨V,hV⟩:∃ V,V=W.alloc (.cells #[.string nm,.string su,.slice ai0 ni ci0,.int .i64 fl,.int .i64 ld,.slice am0 pm.length cm0] 33):=⟨_,rfl⟩
 have bV:Bw W V:=by rw [hV];exact (Below.refl _ _).alloc (Nat.le_refl _) _
 have HVB:Hid (Bw W V):=bV
 have HCP:Hid (Calls Tryz.prog 27 #[.agg #[.string nm,.string su,.slice ai0 ni ci0,.int .i64 fl,.int .i64 ld,.slice am0 pm.length cm0]] V fun e w'=>∃ vi' vm' qm,e=.returned (.agg #[.string nm,.string su,vi',.int .i64 fl,.int .i64 ld,vm'])∧OwnC w' V.heap.size vi' ni xi vm' qm∧qm.map Prod.fst=pm.map Prod.fst∧Bw V w'):=(Zak nm su fl ld (.slice ai0 ni ci0) (.slice am0 pm.length cm0) ni xi pm V (hi.keep bV) hi1 (by omega) (hm.keep bV) hnm (fun p hp=>⟨(hc p hp).1.keep bV,(hc p hp).2⟩))
 have hbox:V.heap[W.heap.size]?=some (.cells #[.string nm,.string su,.slice ai0 ni ci0,.int .i64 fl,.int .i64 ld,.slice am0 pm.length cm0] 33 (0,0)):=by rw [hV];exact heap_alloc_new W _
 have hVs:W.heap.size<V.heap.size:=(Array.getElem?_eq_some_iff.1 hbox).1
 have HV2:Hid (V.heap[W.heap.size]?=_):=hbox
 obtain ⟨M,hM⟩:∃ M,pm.length=M:=⟨_,rfl⟩
 have HML:Hid (pm.length=M):=hM
 rw [hM] at hnm hV HV2 HCP
 rw [hM]
 have x0:=cell_of_row V W.heap.size 0 _ _ _ HV2.out
 have x1:=cell_of_row V W.heap.size 1 _ _ _ HV2.out
 have x2:=cell_of_row V W.heap.size 2 _ _ _ HV2.out
 have x3:=cell_of_row V W.heap.size 3 _ _ _ HV2.out
 have x4:=cell_of_row V W.heap.size 4 _ _ _ HV2.out
 have x5:=cell_of_row V W.heap.size 5 _ _ _ HV2.out
 simp only [List.getElem?_toArray,List.getElem?_cons_zero,List.getElem?_cons_succ] at x0 x1 x2 x3 x4 x5
 clear hi hm hc hM hi1 bV hbox
 go_enter Tryz.func7,Tryz.ntmps7
 go_upto_region 1 with fail
 rw [← hV]
 clear hV
 go_upto_region 3 with (go_at_call 27;refine HCP.out.mono ?_;rintro e w1 ⟨vi',vm',qm,rfl,ho,hq,hb⟩;have HO:Hid (OwnC w1 V.heap.size vi' ni xi vm' qm):=ho;have HQ:Hid (qm.map Prod.fst=pm.map Prod.fst):=hq;have HB1:Hid (Bw V w1):=hb;have hbx:w1.heap[W.heap.size]?=some (.cells #[.string nm,.string su,.slice ai0 ni ci0,.int .i64 fl,.int .i64 ld,.slice am0 M cm0] 33 (0,0)):=(hb.block W.heap.size hVs).trans HV2.out;clear x0 x1 x2 x3 x4 x5;obtain ⟨x0,x1,x2,x3,x4,x5,xf,xL⟩:=rw6 hbx;clear ho hq hb HCP hbx)
 obtain ⟨w2,hw2⟩:∃ w2,w2=w1.alloc (.cells #[.string nm,.string su,.slice ai0 ni ci0,.int .i64 fl,.int .i64 ld,.slice am0 M cm0,.slice none 0 0,.slice none 0 0,.slice none 0 0,.string nm,.string su,vi',.int .i64 fl,.int .i64 ld,vm'] 39):=⟨_,rfl⟩
 have hb2:Bw w1 w2:=by rw [hw2];exact (Below.refl _ _).alloc (Nat.le_refl _) _
 have hr2:w2.heap[w1.heap.size]?=some (.cells #[.string nm,.string su,.slice ai0 ni ci0,.int .i64 fl,.int .i64 ld,.slice am0 M cm0,.slice none 0 0,.slice none 0 0,.slice none 0 0,.string nm,.string su,vi',.int .i64 fl,.int .i64 ld,vm'] 39 (0,0)):=by rw [hw2];exact heap_alloc_new w1 _
 have hs2:w2.heap.size=w1.heap.size+1:=by rw [hw2];simp
 rw [← hw2]
 have hbx2:w2.heap[W.heap.size]?=some (.cells #[.string nm,.string su,.slice ai0 ni ci0,.int .i64 fl,.int .i64 ld,.slice am0 M cm0] 33 (0,0)):=(hb2.block _ xL).trans (((HB1.out.block W.heap.size hVs)).trans HV2.out)
 have HX2:Hid (w2.heap[W.heap.size]?=some (.cells #[.string nm,.string su,.slice ai0 ni ci0,.int .i64 fl,.int .i64 ld,.slice am0 M cm0] 33 (0,0))):=hbx2
 have HR2:Hid (w2.heap[w1.heap.size]?=some (.cells #[.string nm,.string su,.slice ai0 ni ci0,.int .i64 fl,.int .i64 ld,.slice am0 M cm0,.slice none 0 0,.slice none 0 0,.slice none 0 0,.string nm,.string su,vi',.int .i64 fl,.int .i64 ld,vm'] 39 (0,0))):=hr2
 have HB2:Hid (Bw w1 w2):=hb2
 have HBW:Hid (Bw W w2):=Zj (Zj HVB.out HB1.out) hb2
 have rL:w1.heap.size<w2.heap.size:=by omega
 have xL1:=xL
 clear x0 x1 x2 x3 x4 x5 xf xL hb2 hw2 hr2
 obtain ⟨x0,x1,x2,x3,x4,x5,xf,xL⟩:=rw6 hbx2
 clear hbx2
 go_wp2_with (at_builtin;go_loud (refine Yg rfl _ _ 30 rfl (w1.heap.size+1) 9 iS (.string ⟨#[]⟩) 1 16 Tryz.underlying30 hi_iS hz_iS hs_iS hb_iS rfl (by decide) (.slice (some ⟨w1.heap.size+1,0,none⟩) 0 0) 0 [] rfl (Qr _ _ hs2 _ _ _ (by omega)) (.slice ai0 ni ci0) ni xi rfl (HI.out.keep (HBW.out.alloc (by have:=HBW.out.size;omega) _)) HI1.out (by unfold maxLen;omega) (by omega) (by simp;omega) ?_))
 intro v' w3 hown hgrow
 try simp only [Nat.zero_add,List.nil_append] at hown
 obtain ⟨a3,c3,rfl⟩:=ownv hown
 have hb3:Bw w2 w3:=Below.grown (w:=_) ((Below.refl _ w2).alloc (Nat.le_refl _) _) hgrow (by simp) (fun k hk=>by simp [Value.ownBlock] at hk;omega)
 have HO3:Hid (w3.ownsRow (w1.heap.size+1) 9 1 (.slice a3 ni c3) ni xi):=hown
 have HB3:Hid (Bw w2 w3):=hb3
 have rL3:w1.heap.size<w3.heap.size:=Nat.lt_of_lt_of_le rL hb3.size
 clear hown hgrow hb3
 go_wp2_with (at_builtin;refine wpList_append_own _ rfl _ _ 30 rfl (w1.heap.size+1) 9 iS (.string ⟨#[]⟩) 1 16 Tryz.underlying30 hi_iS hz_iS hs_iS hb_iS rfl (by decide) (.slice a3 ni c3) ni xi rfl (HO3.out.alloc _) ⟨w3.heap.size,0,none⟩ 2 2 mkS rfl rfl (World.news_of_block (heap_alloc_new _ _)) mkS_one (by unfold maxLen;omega) (by omega) (by simp;omega) ?_)
 intro v' w4 hown hgrow _
 obtain ⟨gi,ci,rfl,_⟩:=Zca hown (by omega)
 have hr3:=(HB3.out.block _ rL).trans HR2.out
 have hr4:w4.heap[w1.heap.size]?=_:=(hgrow.block _ (by simp;omega) (fun e=>by have:=(HO3.out.lt _ e.symm).1;omega)).trans ((Below.heap_alloc _ _ _ rL3).trans hr3)
 have sz4:=hgrow.size
 simp only [World.size_alloc] at sz4
 have rL4:w1.heap.size<w4.heap.size:=by omega
 have hb4:Bw w1 w4:=Below.grown (w:=_) (((HB2.out.trans (HB3.out.mono (by omega)))).alloc (by omega) _) hgrow (by simp;omega) (fun k hk=>by have:=(HO3.out.lt _ hk).1;omega)
 have HB4:Hid (Bw w1 w4):=hb4
 have R0:Hid (RyI w1 (w4.setCell ⟨w1.heap.size,6,none⟩ (.slice (some ⟨gi,0,none⟩) (ni+2) ci)) w1.heap.size nm su fl ld (.slice ai0 ni ci0) (.slice am0 M cm0) vi' vm' gi ci ni xi [] [] (.slice none 0 0) (.slice none 0 0)) :=
  ⟨(heap_setCell_same w4 w1.heap.size 6 _ 39 (.slice (some ⟨gi,0,none⟩) (ni+2) ci) hr4).trans rfl,hb4.setCell (p:=⟨w1.heap.size,6,none⟩) (Nat.le_refl _) _,Nat.le_refl _,ownsRow_setCell_below (a:=⟨w1.heap.size,6,none⟩) hown (Nat.lt_succ_self _) _,⟨rfl,.inl ⟨rfl,rfl⟩⟩,⟨rfl,.inl ⟨rfl,rfl⟩⟩,fun u hu=>by cases hu⟩
 have y6:w4.cell? ⟨w1.heap.size,6,none⟩=some (.slice none 0 0):=(cell_of_row w4 _ 6 _ _ _ hr4).trans rfl
 have yf:=frozen_of_row w4 w1.heap.size 6 _ _ hr4
 clear hown hgrow hr3 hr4 hb4 sz4 HO3 HB3 x0 x1 x2 x3 x4 x5 xf
 go_wp2
 clear y6 yf
 go_loopw [4] (fun kv wr=>∃ (k:Nat) (us:List RU) (vM vC:Value),kv=.int .i64 k∧k≤M∧Hid (us.map RU.h=(pm.map Prod.fst).take k∧us.length=k∧RyI w1 wr w1.heap.size nm su fl ld (.slice ai0 ni ci0) (.slice am0 M cm0) vi' vm' gi ci ni xi us us vM vC)) (fun kv _=>M - (intOf kv).toNat)
 case atStart=>exact ⟨0,[],_,_,rfl,Nat.zero_le _,rfl,rfl,R0.out⟩
 case round =>
  clear R0
  obtain ⟨k,us,vM,vC,rfl,hk,hst⟩:=hrel
  have hbw:Bw W wr:=Zj (Zj HVB.out HB1.out) hst.out.2.2.bl
  have HBR:Hid (Bw W wr):=hbw
  have hbx:wr.heap[W.heap.size]?=some (.cells #[.string nm,.string su,.slice ai0 ni ci0,.int .i64 fl,.int .i64 ld,.slice am0 M cm0] 33 (0,0)):=(hst.out.2.2.bl.block _ xL1).trans ((HB1.out.block W.heap.size hVs).trans HV2.out)
  have HBX:Hid (wr.heap[W.heap.size]?=some (.cells #[.string nm,.string su,.slice ai0 ni ci0,.int .i64 fl,.int .i64 ld,.slice am0 M cm0] 33 (0,0))):=hbx
  have x5:=(cell_of_row wr _ 5 _ _ _ hbx).trans rfl
  have xL0:W.heap.size<wr.heap.size:=(Array.getElem?_eq_some_iff.1 hbx).1
  have rLr:w1.heap.size<wr.heap.size:=hst.out.2.2.lt
  simp only [List.getElem?_toArray,List.getElem?_cons_zero,List.getElem?_cons_succ] at x5
  clear hbx
  by_cases hlt:k<M
  ·obtain ⟨⟨m,u0⟩,hku⟩:∃ p,pm[k]?=some p:=⟨_,List.getElem?_eq_getElem (by rw [HML.out];exact hlt)⟩
   have hmem:=List.mem_of_getElem? hku
   obtain ⟨hcr,hc1,hcn⟩:=HC.out _ hmem
   simp only at hcr hc1 hcn
   obtain ⟨ua,uc,hu⟩:=hcr.slice
   subst hu
   obtain ⟨bk,o,rfl,hbk,hcell⟩:∃ bk o,am0=some ⟨bk,o,none⟩∧bk<W.heap.size∧∀ j,j<6→W.cell? ⟨bk,o+k * 6+j,none⟩=(hmC (m,.slice ua m.n uc))[j]?:=by
    rcases HM'.out with h|⟨e,_⟩
    ·rcases h.val with ⟨_,e⟩|⟨bk,o,cap,e,_,_,h3,h4⟩
     ·rw [HML.out] at e;omega
     ·simp only [Value.slice.injEq] at e
      refine ⟨bk,o,e.1,h3,fun j hj=>?_⟩
      have:=Zp pm k _ hku j hj
      have hs:∃ z,(hmC (m,.slice ua m.n uc))[j]?=some z:=⟨_,List.getElem?_eq_getElem (by simp [hmC];omega)⟩
      obtain ⟨z,hz⟩:=hs
      rw [hz,Nat.add_assoc]
      exact h4 _ z (this.trans hz)
    ·rw [HML.out] at e;omega
   have q0:wr.cell? ⟨bk,o+k * 6,none⟩=some (.string m.nm):=(hbw.cell (p:=⟨bk,o+k * 6,none⟩) hbk).trans (hcell 0 (by omega))
   have q1:wr.cell? ⟨bk,o+k * 6+1,none⟩=some (.string m.ds):=(hbw.cell (p:=⟨bk,o+k * 6+1,none⟩) hbk).trans (hcell 1 (by omega))
   have q2:wr.cell? ⟨bk,o+k * 6+2,none⟩=some (.int .i64 m.fl):=(hbw.cell (p:=⟨bk,o+k * 6+2,none⟩) hbk).trans (hcell 2 (by omega))
   have q3:wr.cell? ⟨bk,o+k * 6+3,none⟩=some (.int .i64 m.lo):=(hbw.cell (p:=⟨bk,o+k * 6+3,none⟩) hbk).trans (hcell 3 (by omega))
   have q4:wr.cell? ⟨bk,o+k * 6+4,none⟩=some (.int .i64 m.st):=(hbw.cell (p:=⟨bk,o+k * 6+4,none⟩) hbk).trans (hcell 4 (by omega))
   have q5:wr.cell? ⟨bk,o+k * 6+5,none⟩=some (.slice ua m.n uc):=(hbw.cell (p:=⟨bk,o+k * 6+5,none⟩) hbk).trans (hcell 5 (by omega))
   have hbk2:bk<wr.heap.size:=by omega
   have hk0:(0:Int)≤(k:Int):=by omega
   have hkI:(k:Int)<(M:Int):=by omega
   have HCR:Hid (Rdw W (.slice ua m.n uc) m.n 7 m.xs):=hcr
   have HC1:Hid (∀ u∈m.xs,u.oneCell'=true):=hc1
   have HKU:Hid (pm[k]?=some (m,.slice ua m.n uc)):=hku
   have HST:Hid (us.map RU.h=(pm.map Prod.fst).take k∧us.length=k∧RyI w1 wr w1.heap.size nm su fl ld (.slice ai0 ni ci0) (.slice (some ⟨bk,o,none⟩) M cm0) vi' vm' gi ci ni xi us us vM vC):=hst.out
   clear hcr hc1 hku hcell hmem hbw hst
   go_upto_region 8 with fail
   clear q0 q1 q2 q3 q4 q5
   obtain ⟨w5,hw5⟩:∃ w5,w5=wr.alloc (.cells #[.string m.nm,.string m.ds,.int .i64 m.fl,.int .i64 m.lo,.int .i64 m.st,.slice ua m.n uc] 48):=⟨_,rfl⟩
   have hb5:Bw wr w5:=by rw [hw5];exact (Below.refl _ _).alloc (Nat.le_refl _) _
   have hm5:w5.heap[wr.heap.size]?=some (.cells #[.string m.nm,.string m.ds,.int .i64 m.fl,.int .i64 m.lo,.int .i64 m.st,.slice ua m.n uc] 48 (0,0)):=by rw [hw5];exact heap_alloc_new wr _
   have hs5:w5.heap.size=wr.heap.size+1:=by rw [hw5];simp
   rw [← hw5]
   clear hw5
   have HM5:Hid (w5.heap[wr.heap.size]?=some (.cells #[.string m.nm,.string m.ds,.int .i64 m.fl,.int .i64 m.lo,.int .i64 m.st,.slice ua m.n uc] 48 (0,0))):=hm5
   have HB5:Hid (Bw wr w5):=hb5
   have mL:wr.heap.size<w5.heap.size:=by omega
   have m5:=(cell_of_row w5 _ 5 _ _ _ hm5).trans rfl
   simp only [List.getElem?_toArray,List.getElem?_cons_zero,List.getElem?_cons_succ] at m5
   have hbW5:Bw W w5:=Zj HBR.out hb5
   have HBW5:Hid (Bw W w5):=hbW5
   clear hm5 hb5 x5 hbW5
   go_wp2_with (at_builtin;refine Yg rfl _ _ 46 rfl (wr.heap.size+1) 56 iN _ 7 88 Tryz.underlying46 hi_iN hz_iN hs_iN hb_iN rfl (by decide) (.slice (some ⟨wr.heap.size+1,0,none⟩) 0 0) 0 [] rfl (Qr _ _ hs5 _ _ _ (by omega)) (.slice ua m.n uc) m.n m.xs rfl (HCR.out.keep (HBW5.out.alloc (by have:=HBW5.out.size;omega) _)) HC1.out (by unfold maxLen;omega) (by omega) (by simp;omega) ?_)
   intro v' w6 hown hgrow
   try simp only [Nat.zero_add,List.nil_append] at hown
   obtain ⟨a6,c6,rfl⟩:=ownv hown
   have hb6:Bw w5 w6:=Below.grown (w:=_) ((Below.refl _ w5).alloc (Nat.le_refl _) _) hgrow (by simp) (fun k hk=>by simp [Value.ownBlock] at hk;omega)
   have HO6:Hid (w6.ownsRow (wr.heap.size+1) 56 7 (.slice a6 m.n c6) m.n m.xs):=hown
   have HB6:Hid (Bw w5 w6):=hb6
   have mL6:wr.heap.size<w6.heap.size:=Nat.lt_of_lt_of_le mL hb6.size
   clear hown hgrow hb6 m5
   go_wp2_with (at_builtin;go_loud (refine wpList_append_own _ rfl _ _ 46 rfl (wr.heap.size+1) 56 iN _ 7 88 Tryz.underlying46 hi_iN hz_iN hs_iN hb_iN rfl (by decide) (.slice a6 m.n c6) m.n m.xs rfl (HO6.out.alloc _) ⟨w6.heap.size,0,none⟩ 2 2 mkI rfl rfl (World.news_of_block (heap_alloc_new _ _)) mkI_one (by unfold maxLen;omega) (by omega) (by simp;omega) ?_))
   intro v' w7 hown hgrow _
   obtain ⟨g7,c7,rfl,hc7⟩:=Zca hown (by omega)
   have hb7:Bw w5 w7:=Below.grown (w:=_) (HB6.out.alloc HB6.out.size _) hgrow (by have:=HB6.out.size;simp;omega) (fun k hk=>by have:=(HO6.out.lt _ hk).1;omega)
   have hm7:=(hb7.block _ mL).trans HM5.out
   have HM7:Hid (w7.heap[wr.heap.size]?=some (.cells #[.string m.nm,.string m.ds,.int .i64 m.fl,.int .i64 m.lo,.int .i64 m.st,.slice ua m.n uc] 48 (0,0))):=hm7
   have hB7:Bw wr w7:=HB5.out.trans (hb7.mono (by omega))
   have HR7:Hid (RyI w1 w7 w1.heap.size nm su fl ld (.slice ai0 ni ci0) (.slice (some ⟨bk,o,none⟩) M cm0) vi' vm' gi ci ni xi us us vM vC):=HST.out.2.2.bel hB7
   have HO7:Hid (w7.ownsRow (w1.heap.size+1) 56 7 (RU.cv ⟨m,g7,c7⟩) (m.n+2) (m.xs++mkI)):=Go.Joins.ownsRow_le hown (by omega)
   obtain ⟨aC,cC,evC⟩:=ownv HR7.out.cs
   subst evC
   have r8:=(cell_of_row w7 _ 8 _ _ _ HR7.out.rm).trans rfl
   have rf:=fun k=>frozen_of_row w7 w1.heap.size k _ _ HR7.out.rm
   have rL7:=HR7.out.lt
   obtain ⟨m0,m1,m2,m3,m4,m5,mf,mL7⟩:=rw6 hm7
   have hk1:us.length=k:=HST.out.2.1
   rw [hk1] at r8
   simp only [List.getElem?_toArray,List.getElem?_cons_zero,List.getElem?_cons_succ] at r8
   clear hown hgrow hb7 hB7 hm7 HB5 HB6 HM5 HO6
   go_wp2_with (at_builtin;refine wpList_append_own _ rfl _ _ 37 rfl (w1.heap.size+1) 46 iC _ 1 24 Tryz.underlying37 hi_iC hz_iC hs_iC hb_iC rfl (by decide) (.slice aC k cC) k (us.map RU.cv) rfl ((hk1 ▸ HR7.out.cs:w7.ownsRow (w1.heap.size+1) 46 1 (.slice aC k cC) k (us.map RU.cv)).alloc _) ⟨w7.heap.size,0,none⟩ 1 1 [RU.cv ⟨m,g7,c7⟩] rfl rfl (World.news_of_block (heap_alloc_new _ _)) (by intro u hu;simp at hu;rw [hu];rfl) (by unfold maxLen;omega) (by omega) (by simp;omega) ?_)
   intro v' w8 hown hgrow _
   obtain ⟨aC',cC',evC⟩:=ownv hown
   subst evC
   have eC:(Value.slice aC us.length cC).ownBlock=(Value.slice aC k cC).ownBlock:=by rw [hk1]
   have hg8:(w7.alloc (.cells #[RU.cv ⟨m,g7,c7⟩] 46)).grownBy w8 (Value.slice aC us.length cC).ownBlock:=by rw [eC];exact hgrow
   have hR8:=(HR7.out.bel ((Below.refl _ _).alloc (Nat.le_refl _) (.cells #[RU.cv ⟨m,g7,c7⟩] 46))).code (u:=⟨m,g7,c7⟩) (vC':=.slice aC' (k+1) cC') (HO7.out.alloc _) hg8 (by rw [hk1];exact hown)
   have hm8:w8.heap[wr.heap.size]?=some (.cells #[.string m.nm,.string m.ds,.int .i64 m.fl,.int .i64 m.lo,.int .i64 m.st,.slice ua m.n uc] 48 (0,0)):=(hg8.block _ (by simp;omega) (fun e=>by have:=(HST.out.2.2.cs.lt _ e.symm).2;omega)).trans ((Below.heap_alloc _ _ _ mL7).trans HM7.out)
   have hr8:=(hg8.block w1.heap.size (by simp;omega) (fun e=>by have:=(HR7.out.cs.lt _ e.symm).1;omega)).trans ((Below.heap_alloc _ _ _ rL7).trans HR7.out.rm)
   have HR8:Hid (RyI w1 (w8.setCell ⟨w1.heap.size,8,none⟩ (.slice aC' (k+1) cC')) w1.heap.size nm su fl ld (.slice ai0 ni ci0) (.slice (some ⟨bk,o,none⟩) M cm0) vi' vm' gi ci ni xi us (us++[⟨m,g7,c7⟩]) vM (.slice aC' (k+1) cC')):=hR8
   have HM8:Hid (w8.heap[wr.heap.size]?=some (.cells #[.string m.nm,.string m.ds,.int .i64 m.fl,.int .i64 m.lo,.int .i64 m.st,.slice ua m.n uc] 48 (0,0))):=hm8
   have r8b:=(cell_of_row w8 _ 8 _ _ _ hr8).trans rfl
   have rfb:=fun k=>frozen_of_row w8 w1.heap.size k _ _ hr8
   have rL8:=(Array.getElem?_eq_some_iff.1 hr8).1
   simp only [List.getElem?_toArray,List.getElem?_cons_zero,List.getElem?_cons_succ] at r8b
   clear m0 m1 m2 m3 m4 m5 mf mL7 r8 rf rL7 hown hgrow hg8 hR8 hr8
   obtain ⟨m0,m1,m2,m3,m4,m5,mf,mL8⟩:=rw6 hm8
   clear hm8 HM7
   go_upto_region 10 with fail
   obtain ⟨w9,hw9⟩:∃ w9,w9=w8.setCell ⟨w1.heap.size,8,none⟩ (.slice aC' (k+1) cC'):=⟨_,rfl⟩
   have hm9:w9.heap[wr.heap.size]?=some (.cells #[.string m.nm,.string m.ds,.int .i64 m.fl,.int .i64 m.lo,.int .i64 m.st,.slice ua m.n uc] 48 (0,0)):=by rw [hw9];exact (Below.heap_setCell _ _ _ _ (by simp;omega)).trans HM8.out
   have hs9:w9.heap.size=w8.heap.size:=by rw [hw9];simp
   have hR9:=HR8.out
   rw [← hw9] at hR9 ⊢
   have HR9:Hid (RyI w1 w9 w1.heap.size nm su fl ld (.slice ai0 ni ci0) (.slice (some ⟨bk,o,none⟩) M cm0) vi' vm' gi ci ni xi us (us++[⟨m,g7,c7⟩]) vM (.slice aC' (k+1) cC')):=hR9
   have HM9:Hid (w9.heap[wr.heap.size]?=some (.cells #[.string m.nm,.string m.ds,.int .i64 m.fl,.int .i64 m.lo,.int .i64 m.st,.slice ua m.n uc] 48 (0,0))):=hm9
   clear hw9 m0 m1 m2 m3 m4 m5 mf mL8 r8b rfb rL8 HR8 hR9
   obtain ⟨m0,m1,m2,m3,m4,m5,mf,mL9⟩:=rw6 hm9
   clear hm9
   have z1:(0:Int)≤(m.n:Int):=by omega
   have z2:(m.n:Int)≤(c7:Int):=by omega
   have z3:m.n≤c7:=by omega
   go_upto_region 11 with fail
   obtain ⟨w10,hw10⟩:∃ w10,w10=w9.setCell ⟨wr.heap.size,5,none⟩ (.slice (some ⟨g7,0,none⟩) m.n c7):=⟨_,rfl⟩
   have hne:vM.ownBlock≠some wr.heap.size:=fun e=>by have:=(HST.out.2.2.ms.lt _ e).2;omega
   have hR10:=HR9.out.box (i:=5) HM9.out rLr hne (.slice (some ⟨g7,0,none⟩) m.n c7)
   have hm10:w10.heap[wr.heap.size]?=some (.cells #[.string m.nm,.string m.ds,.int .i64 m.fl,.int .i64 m.lo,.int .i64 m.st,.slice (some ⟨g7,0,none⟩) m.n c7] 48 (0,0)):=by rw [hw10];exact (heap_setCell_same w9 wr.heap.size 5 _ 48 _ HM9.out).trans rfl
   rw [← hw10] at hR10 ⊢
   obtain ⟨aM,cM,evM⟩:=ownv hR10.ms
   subst evM
   have r7:=(cell_of_row w10 _ 7 _ _ _ hR10.rm).trans rfl
   have rf:=fun k=>frozen_of_row w10 w1.heap.size k _ _ hR10.rm
   have rL10:=hR10.lt
   rw [hk1] at r7
   simp only [List.getElem?_toArray,List.getElem?_cons_zero,List.getElem?_cons_succ] at r7
   have HR10:Hid (RyI w1 w10 w1.heap.size nm su fl ld (.slice ai0 ni ci0) (.slice (some ⟨bk,o,none⟩) M cm0) vi' vm' gi ci ni xi us (us++[⟨m,g7,c7⟩]) (.slice aM us.length cM) (.slice aC' (k+1) cC')):=hR10
   have ROW:Hid (w10.ownsRow (w1.heap.size+1) 48 6 (.slice aM k cM) k (Zm (us.map RU.mv))):=hk1 ▸ hR10.ms
   clear hw10 m0 m1 m2 m3 m4 m5 mf mL9 hR10 hne
   obtain ⟨m0,m1,m2,m3,m4,m5,mf,mL10⟩:=rw6 hm10
   have HM10:Hid (w10.heap[wr.heap.size]?=some (.cells #[.string m.nm,.string m.ds,.int .i64 m.fl,.int .i64 m.lo,.int .i64 m.st,.slice (some ⟨g7,0,none⟩) m.n c7] 48 (0,0))):=hm10
   clear hm10
   have hbs:w1.heap.size+1≤w10.heap.size:=by omega
   go_region_law (refine step_append_lies _ rfl (.tmp 64) (.tmp 66) 31 rfl (w1.heap.size+1) 48 iM _ 6 80 Tryz.underlying31 hi_iM hz_iM hs_iM hb_iM rfl (by decide) (.slice aM k cM) k (Zm (us.map RU.mv)) (by simp [Act.eval]) ((ROW.out.drew).alloc _) ⟨w10.heap.size,0,none⟩ 1 1 [.string m.nm,.string m.ds,.int .i64 m.fl,.int .i64 m.lo,.int .i64 m.st,.slice (some ⟨g7,0,none⟩) m.n c7] (by simp [Act.eval]) rfl (World.news_of_block (heap_alloc_new _ _)) ?_ (by decide) ?_ ?_ ?_ _ rfl ?_;(intro u hu;simp at hu;rcases hu with rfl|rfl|rfl|rfl|rfl|rfl <;> rfl);(unfold maxLen;omega);omega;(simp;omega);intro g11 c11 w11 hown hgrow _ _;have hr11:=(hgrow.block w1.heap.size (by simp;omega) (fun e=>by have:=(ROW.out.lt _ e.symm).1;omega)).trans ((Below.heap_alloc _ _ _ (by simpa using rL10)).trans HR10.out.rm);have HO11:Hid (w11.ownsRow (w1.heap.size+1) 48 6 (.slice (some ⟨g11,0,none⟩) (k+1) c11) (k+1) (Zm (us.map RU.mv)++[.string m.nm,.string m.ds,.int .i64 m.fl,.int .i64 m.lo,.int .i64 m.st,.slice (some ⟨g7,0,none⟩) m.n c7])):=hown;have HG11:Hid ((w10.drew.alloc (.cells #[.string m.nm,.string m.ds,.int .i64 m.fl,.int .i64 m.lo,.int .i64 m.st,.slice (some ⟨g7,0,none⟩) m.n c7] 48)).grownBy w11 (Value.ownBlock (.slice aM k cM))):=hgrow;have r7b:=(cell_of_row w11 _ 7 _ _ _ hr11).trans rfl;have rfb:=fun k=>frozen_of_row w11 w1.heap.size k _ _ hr11;have rL11:=(Array.getElem?_eq_some_iff.1 hr11).1;simp only [List.getElem?_toArray,List.getElem?_cons_zero,List.getElem?_cons_succ] at r7b;clear hown hgrow hr11 m0 m1 m2 m3 m4 m5 mf r7 rf rL10)
   all_goals go_wp2
   all_goals
    have eM:(Value.slice aM us.length cM).ownBlock=(Value.slice aM k cM).ownBlock:=by rw [hk1]
    have R11:=(HR10.out.drew.bel ((Below.refl _ _).alloc (Nat.le_refl _) (.cells #[.string m.nm,.string m.ds,.int .i64 m.fl,.int .i64 m.lo,.int .i64 m.st,.slice (some ⟨g7,0,none⟩) m.n c7] 48))).meth (vs:=us++[⟨m,g7,c7⟩]) (vM':=.slice (some ⟨g11,0,none⟩) (k+1) c11) (by rw [eM];exact HG11.out) (by rw [List.map_append,Zat,List.length_append,hk1];exact HO11.out)
    refine ⟨⟨k+1,us++[⟨m,g7,c7⟩],_,_,by go_num,by omega,?_,by simp [hk1],R11⟩,by simp [intOf];omega⟩
    rw [List.map_append,HST.out.1,List.take_add_one,List.getElem?_map,HKU.out]
    rfl
  ·have ek:k=M:=by omega
   subst ek
   have hkI:¬ (k:Int)<(k:Int):=by omega
   have hk1:us.length=k:=hst.out.2.1
   obtain ⟨aM,cM,evM⟩:=ownv hst.out.2.2.ms
   subst evM
   have HST:Hid (us.map RU.h=pm.map Prod.fst∧RyI w1 wr w1.heap.size nm su fl ld (.slice ai0 ni ci0) (.slice am0 k cm0) vi' vm' gi ci ni xi us us (.slice aM us.length cM) vC):=⟨by rw [hst.out.1];exact List.take_of_length_le (by rw [List.length_map,HML.out];exact Nat.le_refl _),hst.out.2.2⟩
   have ROW:Hid (wr.ownsRow (w1.heap.size+1) 48 6 (.slice aM k cM) k (Zm (us.map RU.mv))):=hk1 ▸ HST.out.2.ms
   have r7:=(cell_of_row wr _ 7 _ _ _ HST.out.2.rm).trans rfl
   rw [hk1] at r7
   simp only [List.getElem?_toArray,List.getElem?_cons_zero,List.getElem?_cons_succ] at r7
   clear hst
   go_wp2_with (at_builtin;refine wpList_append_own _ rfl _ _ 31 rfl (w1.heap.size+1) 48 iM _ 6 80 Tryz.underlying31 hi_iM hz_iM hs_iM hb_iM rfl (by decide) (.slice aM k cM) k (Zm (us.map RU.mv)) rfl (ROW.out.alloc _) ⟨wr.heap.size,0,none⟩ 2 2 (Zm mkM) rfl rfl (World.news_of_block (heap_alloc_new _ _)) (by simp [mkM,Zm,hmC,Value.oneCell']) (by unfold maxLen;omega) (by omega) (by simp;omega) ?_)
   intro v' w12 hown hgrow _
   obtain ⟨gm,cm,evm,hcm⟩:=Zca hown (by omega)
   subst evm
   have eM:(Value.slice aM us.length cM).ownBlock=(Value.slice aM k cM).ownBlock:=by rw [hk1]
   have hg12:(wr.alloc (.cells (Zm mkM).toArray 48)).grownBy w12 (Value.slice aM us.length cM).ownBlock:=by rw [eM];exact hgrow
   have hR:=(HST.out.2.bel ((Below.refl _ _).alloc (Nat.le_refl _) (.cells (Zm mkM).toArray 48))).full (gm:=gm) (cm:=cm) hg12 (by rw [hk1,Zat];exact hown)
   rw [hk1] at hR
   have hr12:=(hg12.block w1.heap.size (by simp;omega) (fun e=>by have:=(HST.out.2.ms.lt _ e.symm).1;omega)).trans ((Below.heap_alloc _ _ _ rLr).trans HST.out.2.rm)
   have hx12:=(hg12.block W.heap.size (by simp;omega) (fun e=>by have:=(HST.out.2.ms.lt _ e.symm).1;omega)).trans ((Below.heap_alloc _ _ _ xL0).trans HBX.out)
   have HX12:Hid (w12.heap[W.heap.size]?=some (.cells #[.string nm,.string su,.slice ai0 ni ci0,.int .i64 fl,.int .i64 ld,.slice am0 k cm0] 33 (0,0))):=hx12
   have r7b:=(cell_of_row w12 _ 7 _ _ _ hr12).trans rfl
   have rfb:=fun k=>frozen_of_row w12 w1.heap.size k _ _ hr12
   have rLb:=(Array.getElem?_eq_some_iff.1 hr12).1
   simp only [List.getElem?_toArray,List.getElem?_cons_zero,List.getElem?_cons_succ] at r7b
   have HR:Hid (RoomR w1 (w12.setCell ⟨w1.heap.size,7,none⟩ (.slice (some ⟨gm,0,none⟩) (k+2) cm)) w1.heap.size nm su fl ld (.slice ai0 ni ci0) (.slice am0 k cm0) vi' vm' gi ci ni xi gm cm us vC):=hR
   have hci:ni+2≤ci:=by
    rcases HST.out.2.ifs.2 with ⟨e,_⟩|⟨g',cap',cur',e,_,_,hl,_⟩
    ·cases e
    ·cases e;exact hl
   clear hown hgrow hR hg12 hr12 hx12 r7 x5
   go_upto_region 13 with fail
   obtain ⟨w13,hw13⟩:∃ w13,w13=w12.setCell ⟨w1.heap.size,7,none⟩ (.slice (some ⟨gm,0,none⟩) (k+2) cm):=⟨_,rfl⟩
   have hx13:w13.heap[W.heap.size]?=some (.cells #[.string nm,.string su,.slice ai0 ni ci0,.int .i64 fl,.int .i64 ld,.slice am0 k cm0] 33 (0,0)):=by rw [hw13];exact (Below.heap_setCell _ _ _ _ (by simp;omega)).trans HX12.out
   have hR13:=HR.out
   rw [← hw13] at hR13 ⊢
   have hrm:=hR13.rm
   rw [hk1] at hrm
   have HR13:Hid (RoomR w1 w13 w1.heap.size nm su fl ld (.slice ai0 ni ci0) (.slice am0 k cm0) vi' vm' gi ci ni xi gm cm us vC):=hR13
   clear hw13 HX12 HR r7b rfb rLb hR13
   have r2:=(cell_of_row w13 _ 2 _ _ _ hrm).trans rfl
   have r5:=(cell_of_row w13 _ 5 _ _ _ hrm).trans rfl
   have r6:=(cell_of_row w13 _ 6 _ _ _ hrm).trans rfl
   have r7:=(cell_of_row w13 _ 7 _ _ _ hrm).trans rfl
   have rf:=fun k=>frozen_of_row w13 w1.heap.size k _ _ hrm
   have rL13:=(Array.getElem?_eq_some_iff.1 hrm).1
   simp only [List.getElem?_toArray,List.getElem?_cons_zero,List.getElem?_cons_succ] at r2 r5 r6 r7
   obtain ⟨x0,x1,x2,x3,x4,x5,xf,xL13⟩:=rw6 hx13
   have y1:(0:Int)≤(ni:Int):=by omega
   have y2:(ni:Int)≤(ci:Int):=by omega
   have y3:ni≤ci:=by omega
   have y4:(0:Int)≤(k:Int):=by omega
   have y5:(k:Int)≤(cm:Int):=by omega
   have y6:k≤cm:=by omega
   have y7:¬ W.heap.size=w1.heap.size:=by omega
   clear hrm hx13 x0 x1 x3 x4
   go_region_law fail
   all_goals go_upto_region 14 with fail
   all_goals go_region_law fail
   all_goals go_wp2
   all_goals
    refine bodyPost_ret (v:=.pointer (some ⟨w1.heap.size,0,none⟩)) (by simp [results,Tryz.results7,go_sem, *]) rfl ?_
    have hR:=((HR13.out.set2 (.slice (some ⟨gi,0,none⟩) ni ci)).set5 (.slice (some ⟨gm,0,none⟩) k cm)).drew.drew
    have hbl:=hR.bl
    refine ⟨w1.heap.size,w1,gi,ci,gm,cm,us,vC,vi',vm',qm,rfl,xL1,hR,HST.out.1,⟨Go.Joins.ownsRow_le (Zi HO.out.ifs hbl) (Nat.le_of_lt hVs),Go.Joins.ownsRow_le (Zi HO.out.ms hbl) (Nat.le_of_lt hVs),fun p hp=>Go.Joins.ownsRow_le (Zi (HO.out.cod p hp) hbl) (Nat.le_of_lt hVs)⟩,HQ.out,Zj (Zj HVB.out HB1.out) hbl⟩
structure KpZ (W:World) (rb:Nat) (c:Cls) (v2 v5 ui um:Value) (gi ci gm cm cC:Nat) (aC:Option Addr):Prop where
 rm:W.heap[rb]?=some (.cells #[.string c.nm,.string c.su,v2,.int .i64 c.fl,.int .i64 c.ld,v5,.slice (some ⟨gi,0,none⟩) (c.ifs.length+2) ci,.slice (some ⟨gm,0,none⟩) (c.ms.length+2) cm,.slice aC c.ms.length cC,.string c.nm,.string c.su,ui,.int .i64 c.fl,.int .i64 c.ld,um] 39 (0,0))
 i2:IsStrs W v2 c.ifs
 m5:IsMths W v5 c.ms
 ui:IsStrs W ui c.ifs
 um:IsMths W um c.ms
 a0:W.cell? ⟨gi,c.ifs.length,none⟩=some (.string ⟨#[35,55,49]⟩)
 a1:W.cell? ⟨gi,c.ifs.length+1,none⟩=some (.string ⟨#[35,55,50]⟩)
 b0:W.cell? ⟨gm,c.ms.length * 6,none⟩=some (.string ⟨#[35,55,49]⟩)
 b1:W.cell? ⟨gm,(c.ms.length+1) * 6,none⟩=some (.string ⟨#[35,55,50]⟩)
 bi:c.ifs.length≤8796093022208
 bm:c.ms.length≤8796093022208
 bc:∀ m∈c.ms,m.code.length≤8796093022208
 co:∀ i m,c.ms[i]?=some m→∃ bC g d,aC=some ⟨bC,0,none⟩∧W.cell? ⟨bC,i,none⟩=some (.slice (some ⟨g,0,none⟩) (m.code.length+2) d)∧W.cell? ⟨g,m.code.length * 7,none⟩=some (.int .i64 (-71))∧W.cell? ⟨g,(m.code.length+1) * 7,none⟩=some (.int .i64 (-72))
theorem kept_c {W:World} {rb:Nat} {c:Cls} {v2 v5 ui um:Value} {gi ci gm cm cC:Nat} {aC:Option Addr} (h:KpZ W rb c v2 v5 ui um gi ci gm cm cC aC):Calls Tryz.prog 10 #[.pointer (some ⟨rb,0,none⟩)] W fun e w'=>e=.returned (.bool true)∧Bw W w':=by
 obtain ⟨hr,i2,m5,hui,hum,a0,a1,b0,b1,bi,bm,bc,co⟩:=h
 have HBC:Hid (∀ m∈c.ms,m.code.length≤8796093022208):=bc
 have HS:Hid (∀ w',Bw W w'→Calls Tryz.prog 14 #[.agg #[.string c.nm,.string c.su,v2,.int .i64 c.fl,.int .i64 c.ld,v5],.agg #[.string c.nm,.string c.su,ui,.int .i64 c.fl,.int .i64 c.ld,um]] w' fun e w''=>e=.returned (.bool true)∧Below w'.heap.size w' w''):=fun w' hb=>Zb5 c v2 v5 ui um w' (i2.keep hb) (m5.keep hb) (hui.keep hb) (hum.keep hb)
 have HU:Hid (IsMths W um c.ms):=hum
 obtain ⟨aI,cI,rfl,n1,n2,_⟩:=hui
 obtain ⟨aM,cM,rfl,n5,n6,hmth⟩:=hum
 have HMT:Hid (c.ms≠[]→∃ bk o,aM=some ⟨bk,o,none⟩∧bk<W.heap.size∧∀ k m,c.ms[k]?=some m→MthAt W bk (o+k * 6) m):=hmth
 have HCO:Hid (∀ i m,c.ms[i]?=some m→∃ bC g d,aC=some ⟨bC,0,none⟩∧W.cell? ⟨bC,i,none⟩=some (.slice (some ⟨g,0,none⟩) (m.code.length+2) d)∧W.cell? ⟨g,m.code.length * 7,none⟩=some (.int .i64 (-71))∧W.cell? ⟨g,(m.code.length+1) * 7,none⟩=some (.int .i64 (-72))):=co
 obtain ⟨nm,su,ifs,fl,ld,ms⟩:=c
 simp only at *
 obtain ⟨M,hM⟩:∃ M,ms.length=M:=⟨_,rfl⟩
 obtain ⟨N,hN⟩:∃ N,ifs.length=N:=⟨_,rfl⟩
 have HML:Hid (ms.length=M):=hM
 rw [hM] at hr b0 b1 n5 bm
 rw [hN] at bi
 rw [hN] at hr a0 a1 n1
 rw [hN,hM] at HS
 unfold maxLen at n2 n6
 have q0:=(cell_of_row W rb 0 _ _ _ hr).trans rfl
 have q1:=(cell_of_row W rb 1 _ _ _ hr).trans rfl
 have q2:=(cell_of_row W rb 2 _ _ _ hr).trans rfl
 have q3:=(cell_of_row W rb 3 _ _ _ hr).trans rfl
 have q4:=(cell_of_row W rb 4 _ _ _ hr).trans rfl
 have q5:=(cell_of_row W rb 5 _ _ _ hr).trans rfl
 have q6:=(cell_of_row W rb 6 _ _ _ hr).trans rfl
 have q7:=(cell_of_row W rb 7 _ _ _ hr).trans rfl
 have q8:=(cell_of_row W rb 8 _ _ _ hr).trans rfl
 have q9:=(cell_of_row W rb 9 _ _ _ hr).trans rfl
 have q10:=(cell_of_row W rb 10 _ _ _ hr).trans rfl
 have q11:=(cell_of_row W rb 11 _ _ _ hr).trans rfl
 have q12:=(cell_of_row W rb 12 _ _ _ hr).trans rfl
 have q13:=(cell_of_row W rb 13 _ _ _ hr).trans rfl
 have q14:=(cell_of_row W rb 14 _ _ _ hr).trans rfl
 simp only [List.getElem?_toArray,List.getElem?_cons_zero,List.getElem?_cons_succ] at q0 q1 q2 q3 q4 q5 q6 q7 q8 q9 q10 q11 q12 q13 q14
 have HRM:Hid (W.heap[rb]?=_):=hr
 have rL:rb<W.heap.size:=(Array.getElem?_eq_some_iff.1 hr).1
 clear hr hmth co hM hN i2 m5 bc
 go_enter Tryz.func10,Tryz.ntmps10
 go_upto_region 3 with fail
 have giL:gi<W.heap.size:=World.block_lt_of_cell? W _ a0
 have gmL:gm<W.heap.size:=World.block_lt_of_cell? W _ b0
 have y1:(0:Int)≤(N:Int):=by omega
 have y2:(N:Int)<(N:Int)+2:=by omega
 have y3:(0:Int)≤(N:Int)+1:=by omega
 have y4:(N:Int)+1<(N:Int)+2:=by omega
 have z1:(0:Int)≤(M:Int):=by omega
 have z2:(M:Int)<(M:Int)+2:=by omega
 have z3:(0:Int)≤(M:Int)+1:=by omega
 have z4:(M:Int)+1<(M:Int)+2:=by omega
 have Q8:Hid (W.cell? ⟨rb,8,none⟩=some (.slice aC M cC)):=q8
 have Q14:Hid (W.cell? ⟨rb,14,none⟩=some (.slice aM M cM)):=q14
 obtain ⟨σ,V,hne,V1,V2⟩:=class_of' (fun w'=>Bw W w') ⟨_,Below.refl _ _⟩
 have kp:∀ (s:σ) (bb j:Nat) (v:Value),bb<W.heap.size→W.cell? ⟨bb,j,none⟩=some v→(V s).cell? ⟨bb,j,none⟩=some v:=fun s bb j v hl h=>((V1.out s).cell (p:=⟨bb,j,none⟩) hl).trans h
 replace q0:=fun s=>kp s _ _ _ rL q0
 replace q1:=fun s=>kp s _ _ _ rL q1
 replace q2:=fun s=>kp s _ _ _ rL q2
 replace q3:=fun s=>kp s _ _ _ rL q3
 replace q4:=fun s=>kp s _ _ _ rL q4
 replace q5:=fun s=>kp s _ _ _ rL q5
 replace q6:=fun s=>kp s _ _ _ rL q6
 replace q7:=fun s=>kp s _ _ _ rL q7
 replace q9:=fun s=>kp s _ _ _ rL q9
 replace q10:=fun s=>kp s _ _ _ rL q10
 replace q11:=fun s=>kp s _ _ _ rL q11
 replace q12:=fun s=>kp s _ _ _ rL q12
 replace q13:=fun s=>kp s _ _ _ rL q13
 replace q14:=fun s=>kp s _ _ _ rL q14
 replace a0:=fun s=>kp s _ _ _ giL a0
 replace a1:=fun s=>kp s _ _ _ giL a1
 replace b0:=fun s=>kp s _ _ _ gmL b0
 replace b1:=fun s=>kp s _ _ _ gmL b1
 have HQ:Hid (∀ s,Calls Tryz.prog 14 #[.agg #[.string nm,.string su,v2,.int .i64 fl,.int .i64 ld,v5],.agg #[.string nm,.string su,.slice aI N cI,.int .i64 fl,.int .i64 ld,.slice aM M cM]] (V s) fun e w''=>e=.returned (.bool true)∧∃ s',w''=V s'):=fun s=>(HS.out (V s) (V1.out s)).mono fun e w'' zz=>⟨zz.1,V2.out _ (Zj (V1.out s) zz.2)⟩
 clear q8 kp HS
 have e1:wrap64 ((N:Int)+1)=(N:Int)+1:=by first|go_num|(unfold wrap64;omega)
 have e2:wrap64 ((M:Int)+1)=(M:Int)+1:=by first|go_num|(unfold wrap64;omega)
 have k71:(([35,55,49]:List UInt8) != [35,55,49])=false:=by decide
 refine Zl (C:=fun w'=>∃ s,w'=V s) (by kernel_rfl) (by kernel_rfl) (V2.out _ (Below.refl _ _).drew) ?_
 repeat (go_big_quiet_step (first|(go_at_call 14;exact HQ.out _)))
 refine wpQuiet_nil ?_
 intro w9 hw9
 obtain ⟨s9,hw9⟩:=hw9
 have B9:Hid (Bw W w9):=by rw [hw9];exact V1.out s9
 clear hw9 q0 q1 q2 q3 q4 q5 q6 q7 q9 q10 q11 q12 q13 q14 a0 a1 b0 b1 HQ
 clear s9 V1 V2 hne V σ
 go_wp2
 go_loopw [5] (fun iv wr=>∃ i:Nat,iv=.int .i64 i∧i≤M∧Hid (Bw W wr)) (fun iv _=>M - (intOf iv).toNat)
 case atStart=>exact ⟨0,rfl,Nat.zero_le _,B9⟩
 case round =>
  clear B9
  obtain ⟨i,rfl,hi,hb⟩:=hrel
  have rLr:rb<wr.heap.size:=Nat.lt_of_lt_of_le rL hb.out.size
  have q8:wr.cell? ⟨rb,8,none⟩=some (.slice aC M cC):=(hb.out.cell (p:=⟨rb,8,none⟩) rL).trans Q8.out
  have q14:wr.cell? ⟨rb,14,none⟩=some (.slice aM M cM):=(hb.out.cell (p:=⟨rb,14,none⟩) rL).trans Q14.out
  by_cases hlt:i<M
  ·obtain ⟨x,hx⟩:∃ x,ms[i]?=some x:=⟨_,List.getElem?_eq_getElem (by rw [HML.out];exact hlt)⟩
   obtain ⟨bk,o,rfl,hbk,hc⟩:=HMT.out (by intro e;rw [e] at hx;simp at hx)
   obtain ⟨_,_,_,_,_,vc,p5,hI⟩:=hc i x hx
   obtain ⟨bC,g,d,rfl,r0,r1,r2⟩:=HCO.out i x hx
   obtain ⟨va,vcap,rfl,v1,v2,_⟩:=hI
   obtain ⟨K,hK⟩:∃ K,x.code.length=K:=⟨_,rfl⟩
   have kb:=HBC.out x (List.mem_of_getElem? hx)
   rw [hK] at p5 r0 r1 r2 kb
   have lC:=World.block_lt_of_cell? W _ r0
   have lG:=World.block_lt_of_cell? W _ r1
   have p5:wr.cell? ⟨bk,o+i * 6+5,none⟩=some (.slice va K vcap):=(hb.out.cell (p:=⟨bk,o+i * 6+5,none⟩) hbk).trans p5
   have r0:wr.cell? ⟨bC,i,none⟩=some (.slice (some ⟨g,0,none⟩) (K+2) d):=(hb.out.cell (p:=⟨bC,i,none⟩) lC).trans r0
   have r1:wr.cell? ⟨g,K * 7,none⟩=some (.int .i64 (-71)):=(hb.out.cell (p:=⟨g,K * 7,none⟩) lG).trans r1
   have r2:wr.cell? ⟨g,(K+1) * 7,none⟩=some (.int .i64 (-72)):=(hb.out.cell (p:=⟨g,(K+1) * 7,none⟩) lG).trans r2
   have hiI:(i:Int)<(M:Int):=by omega
   have hi0:(0:Int)≤(i:Int):=by omega
   have k1:(0:Int)≤(K:Int):=by omega
   have k2:(K:Int)<(K:Int)+2:=by omega
   have k3:(0:Int)≤(K:Int)+1:=by omega
   have k4:(K:Int)+1<(K:Int)+2:=by omega
   clear hx hc hK v1 v2 HMT HCO HML HU HBC
   go_wp2
   go_roundw
   case rel=>exact ⟨i+1,by go_num,by omega,hb⟩
   case measure=>simp [intOf];omega
  ·have hiI:¬ (i:Int)<(M:Int):=by omega
   go_wp2
   go_ret
   exact ⟨rfl,hb.out⟩
def TwoW (W:World) (b mb b':Nat) (ps:List Plc) (cs:List Cls) (w:World):Prop:=(∃ vp pv,HW w W.heap.size b mb ps vp pv)∧(∃ M v rs,W.heap.size≤M∧M≤w.heap.size∧RW w M b' v rs∧rs.map CR.c=cs)∧Bw W w
end Go.Proofs.YtkoogmegdfpopaaGreat
