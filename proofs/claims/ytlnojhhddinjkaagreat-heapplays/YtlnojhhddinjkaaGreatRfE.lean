import Derived.Test.YtlnojhhddinjkaaGreatHqI
set_option maxHeartbeats 8000000
set_option maxRecDepth 100000
namespace Go.Proofs.YtlnojhhddinjkaaGreat
open Go.RowKit Go.Maps
structure CpR (W wr:World) (nm su:ByteArray) (fl ld:Int) (ai0 am0 ai:Option Addr) (ni ci0 capi M cm0 gm:Nat) (xi:List Value) (pm qm:List (HM×Value)) (k:Nat):Prop where
 bc:wr.heap[W.heap.size]?=some (.cells #[.string nm,.string su,.slice ai0 ni ci0,.int .i64 fl,.int .i64 ld,.slice am0 M cm0] 55 (0,0))
 br:wr.heap[W.heap.size+1]?=some (.cells #[.string ⟨#[]⟩,.string ⟨#[]⟩,.slice none 0 0,.int .i64 0,.int .i64 0,.slice none 0 0] 55 (0,0))
 bd:wr.heap[W.heap.size+1+1]?=some (.cells #[.string nm,.string su,.slice ai ni capi,.int .i64 fl,.int .i64 ld,.slice (some ⟨gm,0,none⟩) M M] 55 (0,0))
 ifs:wr.ownsRow (W.heap.size+1+1+1) 9 1 (.slice ai ni capi) ni xi
 len:qm.length=M
 ms:wr.ownsRow (W.heap.size+1+1+1) 68 6 (.slice (some ⟨gm,0,none⟩) M M) M (Zv qm)
 eq:∀ j<k,(qm[j]?).map Prod.fst=(pm[j]?).map Prod.fst
 old:∀ j p,qm[j]?=some p→j<k→wr.ownsRow (W.heap.size+1+1+1) 76 7 p.2 p.1.n p.1.xs
 below:Bw W wr
def hm0:HM×Value:=(⟨⟨#[]⟩,⟨#[]⟩,0,0,0,0,[]⟩,.slice none 0 0)
theorem Zkd (M:Nat):(madeCells (Value.agg #[.string ⟨#[]⟩,.string ⟨#[]⟩,.int .i64 0,.int .i64 0,.int .i64 0,.slice none 0 0]).cells (M * 6)).toList=Zv (List.replicate M hm0):=by
 refine List.ext_getElem? fun j=>?_
 by_cases hj:j<M * 6
 ·have hq:j / 6<M:=by omega
  have h:=Zx (List.replicate M hm0) (j / 6) hm0 (by simp [hq]) (j % 6) (Nat.mod_lt _ (by decide))
  rw [show j / 6 * 6+j % 6=j by omega] at h
  rw [h]
  have e:∀ r,r<6→(hmC hm0)[r]?=some ((Value.agg #[.string ⟨#[]⟩,.string ⟨#[]⟩,.int .i64 0,.int .i64 0,.int .i64 0,.slice none 0 0]).cells[r]!):=fun r hr=>by
   match r,hr with
   | 0,_=>rfl
   | 1,_=>rfl
   | 2,_=>rfl
   | 3,_=>rfl
   | 4,_=>rfl
   | 5,_=>rfl
  rw [e _ (Nat.mod_lt _ (by decide))]
  simp [madeCells,hj]
  rfl
 ·rw [List.getElem?_eq_none (by simp [size_madeCells];omega),List.getElem?_eq_none (by rw [Qh];simp;omega)]
theorem Zkn (l:List (HM×Value)) (k:Nat) (m:HM) (u:Value) (hk:k<l.length):((((((Zv l).set (k * 6) (.string m.nm)).set (k * 6+1) (.string m.ds)).set (k * 6+2) (.int .i64 m.fl)).set (k * 6+3) (.int .i64 m.lo)).set (k * 6+4) (.int .i64 m.st)).set (k * 6+5) u=Zv (l.set k (m,u)):=by
 induction l generalizing k with
 | nil=>simp at hk
 | cons t ts ih =>
   have e:∀ a b,Zv (a::b)=hmC a++Zv b:=fun a b=>by simp [Zv]
   cases k with
   | zero=>rw [List.set_cons_zero,e,e];simp [hmC]
   | succ k =>
     rw [List.set_cons_succ,e,e,← ih k (by simpa using hk)]
     have hs:∀ (r:Nat) (v:Value) (L:List Value),(hmC t++L).set ((k+1) * 6+r) v=hmC t++L.set (k * 6+r) v:=fun r v L=>by
      rw [List.set_append_right _ _ (by simp [hmC];omega)]
      congr 2
      simp [hmC];omega
     have h0:=hs 0
     simp only [Nat.add_zero] at h0
     rw [h0,hs 1,hs 2,hs 3,hs 4,hs 5]
theorem CpR.put {W wr:World} {nm su:ByteArray} {fl ld:Int} {ai0 am0 ai:Option Addr} {ni ci0 capi M cm0 g:Nat} {xi:List Value} {pm qm:List (HM×Value)} {k:Nat} (h:CpR W wr nm su fl ld ai0 am0 ai ni ci0 capi M cm0 g xi pm qm k) (hk:k<M) (m:HM) (u:Value) :
 CpR W ((((((wr.setCell ⟨g,k * 6,none⟩ (.string m.nm)).setCell ⟨g,k * 6+1,none⟩ (.string m.ds)).setCell ⟨g,k * 6+2,none⟩ (.int .i64 m.fl)).setCell ⟨g,k * 6+3,none⟩ (.int .i64 m.lo)).setCell ⟨g,k * 6+4,none⟩ (.int .i64 m.st)).setCell ⟨g,k * 6+5,none⟩ u).drew nm su fl ld ai0 am0 ai ni ci0 capi M cm0 g xi pm (qm.set k (m,u)) k:=by
 obtain ⟨hgN,hglt⟩:=h.ms.lt g rfl
 obtain ⟨cur,hcur⟩:=Zjl h.ms
 obtain ⟨s0,_⟩:=h.ms.stored (k * 6) (.string m.nm)
 obtain ⟨s1,_⟩:=s0.stored (k * 6+1) (.string m.ds)
 obtain ⟨s2,_⟩:=s1.stored (k * 6+2) (.int .i64 m.fl)
 obtain ⟨s3,_⟩:=s2.stored (k * 6+3) (.int .i64 m.lo)
 obtain ⟨s4,_⟩:=s3.stored (k * 6+4) (.int .i64 m.st)
 obtain ⟨s5,_⟩:=s4.stored (k * 6+5) u
 rw [Zkn qm k m u (by rw [h.len];exact hk)] at s5
 have G:wr.grownBy ((((((wr.setCell ⟨g,k * 6,none⟩ (.string m.nm)).setCell ⟨g,k * 6+1,none⟩ (.string m.ds)).setCell ⟨g,k * 6+2,none⟩ (.int .i64 m.fl)).setCell ⟨g,k * 6+3,none⟩ (.int .i64 m.lo)).setCell ⟨g,k * 6+4,none⟩ (.int .i64 m.st)).setCell ⟨g,k * 6+5,none⟩ u) (some g) :=
  (Zr _ g _ _).trans ((Zr _ g _ _).trans ((Zr _ g _ _).trans ((Zr _ g _ _).trans ((Zr _ g _ _).trans (Zr _ g _ _)))))
 generalize ((((((wr.setCell ⟨g,k * 6,none⟩ (.string m.nm)).setCell ⟨g,k * 6+1,none⟩ (.string m.ds)).setCell ⟨g,k * 6+2,none⟩ (.int .i64 m.fl)).setCell ⟨g,k * 6+3,none⟩ (.int .i64 m.lo)).setCell ⟨g,k * 6+4,none⟩ (.int .i64 m.st)).setCell ⟨g,k * 6+5,none⟩ u)=w6 at *
 have B6:Bw W w6:=h.below.grown G h.below.size (fun k hk=>by cases hk;omega)
 refine ⟨(G.block _ (Array.getElem?_eq_some_iff.1 h.bc).1 (by simp;omega)).trans h.bc,(G.block _ (Array.getElem?_eq_some_iff.1 h.br).1 (by simp;omega)).trans h.br,(G.block _ (Array.getElem?_eq_some_iff.1 h.bd).1 (by simp;omega)).trans h.bd,(h.ifs.kept G (Zk h.ifs hcur (by decide))).drew,by rw [List.length_set];exact h.len,s5.drew,?_,?_,B6.drew⟩
 ·intro j hj
  rw [List.getElem?_set_ne (by omega)]
  exact h.eq j hj
 ·intro j p hj hjk
  rw [List.getElem?_set_ne (by omega)] at hj
  have:=h.old j p hj hjk
  exact (this.kept G (Zk this hcur (by decide))).drew
theorem CpR.next {W wr w5:World} {nm su:ByteArray} {fl ld:Int} {ai0 am0 ai:Option Addr} {ni ci0 capi M cm0 g:Nat} {xi:List Value} {pm qm:List (HM×Value)} {k:Nat} {m:HM} {u u0 v':Value} (h:CpR W wr nm su fl ld ai0 am0 ai ni ci0 capi M cm0 g xi pm qm k) (hq:qm[k]?=some (m,u)) (hp:pm[k]?=some (m,u0)) (hb:Bw wr w5) (ho:w5.ownsRow (W.heap.size+1+1+1) 76 7 v' m.n m.xs) :
 CpR W (w5.setCell ⟨g,k * 6+5,none⟩ v') nm su fl ld ai0 am0 ai ni ci0 capi M cm0 g xi pm (qm.set k (m,v')) (k+1):=by
 have hms:=Zm h.ms hb
 obtain ⟨hgN,hglt⟩:=hms.lt g rfl
 obtain ⟨cur,hcur⟩:=Zjl hms
 obtain ⟨s5,G⟩:=hms.stored (k * 6+5) v'
 rw [Ze1 qm k m u v' hq] at s5
 have hif:=Zm h.ifs hb
 have hkq:k<qm.length:=(List.getElem?_eq_some_iff.1 hq).1
 refine ⟨(G.block _ (Nat.lt_of_lt_of_le (Array.getElem?_eq_some_iff.1 h.bc).1 hb.size) (by simp;omega)).trans ((hb.block _ (Array.getElem?_eq_some_iff.1 h.bc).1).trans h.bc),(G.block _ (Nat.lt_of_lt_of_le (Array.getElem?_eq_some_iff.1 h.br).1 hb.size) (by simp;omega)).trans ((hb.block _ (Array.getElem?_eq_some_iff.1 h.br).1).trans h.br),(G.block _ (Nat.lt_of_lt_of_le (Array.getElem?_eq_some_iff.1 h.bd).1 hb.size) (by simp;omega)).trans ((hb.block _ (Array.getElem?_eq_some_iff.1 h.bd).1).trans h.bd),(hif.kept G (Zk hif hcur (by decide))),by rw [List.length_set];exact h.len,s5,?_,?_,((h.below.trans (hb.mono h.below.size)).grown G (Nat.le_trans h.below.size hb.size) (fun k hk=>by cases hk;omega))⟩
 ·intro j hj
  by_cases e:j=k
  ·subst e
   rw [List.getElem?_set_self hkq,hp];rfl
  ·rw [List.getElem?_set_ne (fun e2=>e e2.symm)]
   exact h.eq j (by omega)
 ·intro j p hj hjk
  by_cases e:j=k
  ·subst e
   rw [List.getElem?_set_self hkq] at hj
   cases hj
   exact (ho.kept G (Zk ho hcur (by decide)))
  ·rw [List.getElem?_set_ne (fun e2=>e e2.symm)] at hj
   have:=Zm (h.old j p hj (by omega)) hb
   exact (this.kept G (Zk this hcur (by decide)))
theorem Zj0 (nm su:ByteArray) (fl ld:Int) (vi vm:Value) (ni:Nat) (xi:List Value) (pm:List (HM×Value)) (W:World) (hi:Rdw W vi ni 1 xi) (hi1:∀ u∈xi,u.oneCell'=true) (hni:ni≤8796093022208)
 (hm:Rdw W vm pm.length 6 (Zv pm)) (hnm:pm.length≤1759218604390) (hc:∀ p∈pm,Rdw W p.2 p.1.n 7 p.1.xs∧(∀ u∈p.1.xs,u.oneCell'=true)∧p.1.n≤1599289640354) :
 Calls Tryz.prog 52 #[.agg #[.string nm,.string su,vi,.int .i64 fl,.int .i64 ld,vm]] W fun e w'=>∃ vi' vm' qm,e=.returned (.agg #[.string nm,.string su,vi',.int .i64 fl,.int .i64 ld,vm'])∧OwnC w' W.heap.size vi' ni xi vm' qm∧qm.map Prod.fst=pm.map Prod.fst∧Bw W w':=by
 obtain ⟨ai0,ci0,rfl⟩:=hi.slice
 obtain ⟨am0,cm0,rfl⟩:=hm.slice
 obtain ⟨i0,hi0,hz0,hz1,hz2⟩:=info_parts Tryz.hinfo9
 have HI:Hid (Rdw W (.slice ai0 ni ci0) ni 1 xi):=hi
 have HM':Hid (Rdw W (.slice am0 pm.length cm0) pm.length 6 (Zv pm)):=hm
 have HC:Hid (∀ p∈pm,Rdw W p.2 p.1.n 7 p.1.xs∧(∀ u∈p.1.xs,u.oneCell'=true)∧p.1.n≤1599289640354):=hc
 have HI1:Hid (∀ u∈xi,u.oneCell'=true):=hi1
 obtain ⟨M,hM⟩:∃ M,pm.length=M:=⟨_,rfl⟩
 have HML:Hid (pm.length=M):=hM
 rw [hM] at hnm ⊢
 clear hi hm hc hM hi1
 go_enter Tryz.func52,Tryz.ntmps52
 go_wp2_with (at_builtin;refine Xc rfl _ _ 52 rfl (W.heap.size+1+1+1) 9 i0 (.string ⟨#[]⟩) 1 16 Tryz.underlying52 hi0 hz0 hz1 hz2 rfl (by decide) (.slice (some ⟨W.heap.size+1+1+1,0,none⟩) 0 0) 0 [] rfl (Za9 _ _ (by simp) _ _ _ (by simp)) (.slice ai0 ni ci0) ni xi rfl (HI.out.keep sqR) HI1.out ?c1 ?c2 ?c3 ?_)
 case c1=>unfold maxLen;omega
 case c2=>omega
 case c3=>simp
 intro v' w1 hown hgrow
 obtain ⟨ai,capi,rfl⟩:=ownv hown
 have sz1:=hgrow.size
 simp only [World.size_alloc] at sz1
 have ob:∀ j,j<W.heap.size+1+1+1→some j≠(Value.slice (some ⟨W.heap.size+1+1+1,0,none⟩) 0 0).ownBlock:=fun j hj=>by simp [Value.ownBlock];omega
 have hbc:w1.heap[W.heap.size]?=some (.cells #[.string nm,.string su,.slice ai0 ni ci0,.int .i64 fl,.int .i64 ld,.slice am0 M cm0] 55 (0,0)):=by
  rw [hgrow.block _ (by simp;try omega) (ob _ (by omega))]
  exact (Below.heap_alloc _ _ _ (by simp;try omega)).trans ((Below.heap_alloc _ _ _ (by simp;try omega)).trans (heap_alloc2_old W _ _))
 have hbr:w1.heap[W.heap.size+1]?=some (.cells #[.string ⟨#[]⟩,.string ⟨#[]⟩,.slice none 0 0,.int .i64 0,.int .i64 0,.slice none 0 0] 55 (0,0)):=by
  rw [hgrow.block _ (by simp;try omega) (ob _ (by omega))]
  exact (Below.heap_alloc _ _ _ (by simp;try omega)).trans ((Below.heap_alloc _ _ _ (by simp)).trans (heap_alloc2_new W _ _))
 have hbd:w1.heap[W.heap.size+1+1]?=some (.cells #[.string nm,.string su,.slice ai0 ni ci0,.int .i64 fl,.int .i64 ld,.slice am0 M cm0] 55 (0,0)):=by
  rw [hgrow.block _ (by simp) (ob _ (by omega))]
  refine (Below.heap_alloc _ _ _ (by simp)).trans ?_
  have:=Zg ((W.alloc (.cells #[.string nm,.string su,.slice ai0 ni ci0,.int .i64 fl,.int .i64 ld,.slice am0 M cm0] 55)).alloc (.cells #[.string ⟨#[]⟩,.string ⟨#[]⟩,.slice none 0 0,.int .i64 0,.int .i64 0,.slice none 0 0] 55)) (.cells #[.string nm,.string su,.slice ai0 ni ci0,.int .i64 fl,.int .i64 ld,.slice am0 M cm0] 55)
  simpa using this
 have B1:Hid (Bw W w1):=by
  refine Below.grown (w:=_) ?_ hgrow (by simp;try omega) (fun k hk=>by simp [Value.ownBlock] at hk;omega)
  exact sqR
 have O1:Hid (w1.ownsRow (W.heap.size+1+1+1) 9 1 (.slice ai ni capi) ni xi):=hown
 have hc5:=cell_of_row w1 W.heap.size 5 _ _ _ hbc
 have d0:=cell_of_row w1 (W.heap.size+1+1) 0 _ _ _ hbd
 have e0:=frozen_of_row w1 (W.heap.size+1+1) 0 _ _ hbd
 have d1:=cell_of_row w1 (W.heap.size+1+1) 1 _ _ _ hbd
 have e1:=frozen_of_row w1 (W.heap.size+1+1) 1 _ _ hbd
 have d2:=cell_of_row w1 (W.heap.size+1+1) 2 _ _ _ hbd
 have e2:=frozen_of_row w1 (W.heap.size+1+1) 2 _ _ hbd
 have d3:=cell_of_row w1 (W.heap.size+1+1) 3 _ _ _ hbd
 have e3:=frozen_of_row w1 (W.heap.size+1+1) 3 _ _ hbd
 have d4:=cell_of_row w1 (W.heap.size+1+1) 4 _ _ _ hbd
 have e4:=frozen_of_row w1 (W.heap.size+1+1) 4 _ _ hbd
 have d5:=cell_of_row w1 (W.heap.size+1+1) 5 _ _ _ hbd
 have e5:=frozen_of_row w1 (W.heap.size+1+1) 5 _ _ hbd
 simp only [List.getElem?_toArray,List.getElem?_cons_zero,List.getElem?_cons_succ] at hc5 d0 d1 d2 d3 d4 d5
 have HBC:Hid _:=hbc
 have HBR:Hid _:=hbr
 have HBD:Hid _:=hbd
 clear hown hgrow ob hbc hbr hbd HI HI1
 obtain ⟨iM,hiM,hzM,hsM,hbM⟩:=info_parts Tryz.hinfo58
 have hmk:∀ w:World,(Instr.makeSlice 53 (.int .i64 (M:Int)) (.int .i64 (M:Int))).run Tryz.prog w=.ok (.slice (some ⟨w.heap.size,0,none⟩) M M) (w.alloc (.cells (madeCells (Value.agg #[.string ⟨#[]⟩,.string ⟨#[]⟩,.int .i64 0,.int .i64 0,.int .i64 0,.slice none 0 0]).cells (M * 6)) 68)):=fun w=>by
  have:=run_make w (P:=Tryz.prog) 53 68 iM _ Tryz.underlying53 hiM hzM .i64 .i64 (M:Int) (M:Int) (by omega) (Int.le_refl _) (by rw [hbM];omega) (by omega)
  rw [hsM,Int.toNat_natCast] at this
  exact this
 have hn2:¬ W.heap.size+1+1=w1.heap.size:=by omega
 have hl2:W.heap.size+1+1<w1.heap.size:=by omega
 have hn0:¬ W.heap.size=w1.heap.size:=by omega
 have hz:=Zkd M
 have HZ:Hid _:=hz
 generalize madeCells (Value.agg #[.string ⟨#[]⟩,.string ⟨#[]⟩,.int .i64 0,.int .i64 0,.int .i64 0,.slice none 0 0]).cells (M * 6)=ZC at *
 have hl1:W.heap.size+1<w1.heap.size:=by omega
 have hl0:W.heap.size<w1.heap.size:=by omega
 have HR0:Hid (CpR W (((w1.setCell ⟨W.heap.size+1+1,2,none⟩ (.slice ai ni capi)).setCell ⟨W.heap.size+1+1,5,none⟩ (.slice (some ⟨w1.heap.size,0,none⟩) M M)).alloc (.cells ZC 68)) nm su fl ld ai0 am0 ai ni ci0 capi M cm0 w1.heap.size xi pm (List.replicate M hm0) 0):=by
  have hne0:W.heap.size≠W.heap.size+1+1:=by omega
  have hne1:W.heap.size+1≠W.heap.size+1+1:=by omega
  have hd1:=heap_setCell_same w1 (W.heap.size+1+1) 2 _ 55 (.slice ai ni capi) HBD.out
  have hd2:=heap_setCell_same _ (W.heap.size+1+1) 5 _ 55 (.slice (some ⟨w1.heap.size,0,none⟩) M M) hd1
  have szs:((w1.setCell ⟨W.heap.size+1+1,2,none⟩ (.slice ai ni capi)).setCell ⟨W.heap.size+1+1,5,none⟩ (.slice (some ⟨w1.heap.size,0,none⟩) M M)).heap.size=w1.heap.size:=by simp
  refine ⟨?_,?_,?_,?_,by simp,?_,fun j hj=>absurd hj (Nat.not_lt_zero _),fun j p _ hj=>absurd hj (Nat.not_lt_zero _),?_⟩
  ·exact (Below.heap_alloc _ _ _ (by rw [szs];exact hl0)).trans ((heap_setCell_other _ _ _ _ hne0).trans ((heap_setCell_other _ _ _ _ hne0).trans HBC.out))
  ·exact (Below.heap_alloc _ _ _ (by rw [szs];exact hl1)).trans ((heap_setCell_other _ _ _ _ hne1).trans ((heap_setCell_other _ _ _ _ hne1).trans HBR.out))
  ·exact (Below.heap_alloc _ _ _ (by rw [szs];exact hl2)).trans (hd2.trans rfl)
  ·exact (ownsRow_setCell_below (a:=⟨W.heap.size+1+1,5,none⟩) (ownsRow_setCell_below (a:=⟨W.heap.size+1+1,2,none⟩) O1.out (by simp) _) (by simp) _).alloc _
  ·have h:=World.ownsRow_lit (base:=W.heap.size+1+1+1) (e:=68) (size:=6) ((w1.setCell ⟨W.heap.size+1+1,2,none⟩ (.slice ai ni capi)).setCell ⟨W.heap.size+1+1,5,none⟩ (.slice (some ⟨w1.heap.size,0,none⟩) M M)) ZC M (by rw [szs];omega) (by unfold maxLen;omega) (by have:=congrArg List.length HZ.out;rw [Qh] at this;simpa using this)
   rw [szs,HZ.out] at h
   exact h
  ·exact (((B1.out.setCell (p:=⟨W.heap.size+1+1,2,none⟩) (show W.heap.size≤W.heap.size+1+1 by omega) _).setCell (p:=⟨W.heap.size+1+1,5,none⟩) (show W.heap.size≤W.heap.size+1+1 by omega) _).alloc (by rw [szs];omega) _)
 go_wp2
 clear d0 d1 d2 d3 d4 d5 e0 e1 e2 e3 e4 e5 HBC HBR HBD O1 hc5 hmk HZ hz
 go_loopw [4] (fun kv wr=>∃ (k:Nat) (qm:List (HM×Value)),kv=.int .i64 k∧k≤M∧Hid (CpR W wr nm su fl ld ai0 am0 ai ni ci0 capi M cm0 w1.heap.size xi pm qm k)) (fun kv _=>M - (intOf kv).toNat)
 case atStart=>exact ⟨0,_,rfl,Nat.zero_le _,HR0⟩
 case round =>
  obtain ⟨k,qm,rfl,hk,hR⟩:=hrel
  clear HR0
  have c5:=cell_of_row wr W.heap.size 5 _ _ _ hR.out.bc
  have d5:=cell_of_row wr (W.heap.size+1+1) 5 _ _ _ hR.out.bd
  simp only [List.getElem?_toArray,List.getElem?_cons_zero,List.getElem?_cons_succ] at c5 d5
  generalize w1.heap.size=g at *
  by_cases hlt:k<M
  ·obtain ⟨⟨m,u⟩,hku⟩:∃ p,pm[k]?=some p:=⟨_,List.getElem?_eq_getElem (by rw [HML.out];exact hlt)⟩
   have hmem:=List.mem_of_getElem? hku
   obtain ⟨hcr,hc1,hcn⟩:=HC.out _ hmem
   simp only at hcr hc1 hcn
   obtain ⟨ua,uc,hu⟩:=hcr.slice
   subst hu
   obtain ⟨bk,o,rfl,hbk,hcell⟩:∃ bk o,am0=some ⟨bk,o,none⟩∧bk<W.heap.size∧∀ j,j<6→W.cell? ⟨bk,o+k * 6+j,none⟩=(hmC (m,.slice ua m.n uc))[j]?:=by
    rcases HM'.out with h|⟨e,_⟩
    ·rcases h.val with ⟨_,e⟩|⟨bk,o,cap,e,_,_,h3,h4⟩
     ·rw [HML.out] at e;omega
     ·simp only [Value.slice.injEq] at e
      refine ⟨bk,o,e.1,h3,fun j hj=>?_⟩
      have:=Zx pm k _ hku j hj
      have hs:∃ z,(hmC (m,.slice ua m.n uc))[j]?=some z:=⟨_,List.getElem?_eq_getElem (by simp [hmC];omega)⟩
      obtain ⟨z,hz⟩:=hs
      rw [hz,Nat.add_assoc]
      exact h4 _ z (this.trans hz)
    ·rw [HML.out] at e;omega
   have q0:wr.cell? ⟨bk,o+k * 6,none⟩=some (.string m.nm):=(hR.out.below.cell (p:=⟨bk,o+k * 6,none⟩) hbk).trans (hcell 0 (by omega))
   have q1:wr.cell? ⟨bk,o+k * 6+1,none⟩=some (.string m.ds):=(hR.out.below.cell (p:=⟨bk,o+k * 6+1,none⟩) hbk).trans (hcell 1 (by omega))
   have q2:wr.cell? ⟨bk,o+k * 6+2,none⟩=some (.int .i64 m.fl):=(hR.out.below.cell (p:=⟨bk,o+k * 6+2,none⟩) hbk).trans (hcell 2 (by omega))
   have q3:wr.cell? ⟨bk,o+k * 6+3,none⟩=some (.int .i64 m.lo):=(hR.out.below.cell (p:=⟨bk,o+k * 6+3,none⟩) hbk).trans (hcell 3 (by omega))
   have q4:wr.cell? ⟨bk,o+k * 6+4,none⟩=some (.int .i64 m.st):=(hR.out.below.cell (p:=⟨bk,o+k * 6+4,none⟩) hbk).trans (hcell 4 (by omega))
   have q5:wr.cell? ⟨bk,o+k * 6+5,none⟩=some (.slice ua m.n uc):=(hR.out.below.cell (p:=⟨bk,o+k * 6+5,none⟩) hbk).trans (hcell 5 (by omega))
   obtain ⟨hgN,hglt⟩:=hR.out.ms.lt g rfl
   obtain ⟨⟨m',u'⟩,hqk⟩:∃ p,qm[k]?=some p:=⟨_,List.getElem?_eq_getElem (by rw [hR.out.len];exact hlt)⟩
   have hat:=fun j hj=>(hR.out.ms.cellAt (k * 6+j) (by omega)).trans (Zx qm k _ hqk j hj)
   have t0:wr.cell? ⟨g,k * 6,none⟩=some (.string m'.nm):=hat 0 (by omega)
   have t1:wr.cell? ⟨g,k * 6+1,none⟩=some (.string m'.ds):=hat 1 (by omega)
   have t2:wr.cell? ⟨g,k * 6+2,none⟩=some (.int .i64 m'.fl):=hat 2 (by omega)
   have t3:wr.cell? ⟨g,k * 6+3,none⟩=some (.int .i64 m'.lo):=hat 3 (by omega)
   have t4:wr.cell? ⟨g,k * 6+4,none⟩=some (.int .i64 m'.st):=hat 4 (by omega)
   have t5:wr.cell? ⟨g,k * 6+5,none⟩=some u':=hat 5 (by omega)
   have f0:=hR.out.ms.frozenAt (k * 6)
   have f1:=hR.out.ms.frozenAt (k * 6+1)
   have f2:=hR.out.ms.frozenAt (k * 6+2)
   have f3:=hR.out.ms.frozenAt (k * 6+3)
   have f4:=hR.out.ms.frozenAt (k * 6+4)
   have f5:=hR.out.ms.frozenAt (k * 6+5)
   have hkI:(k:Int)<(M:Int):=by omega
   have hnc:¬ W.heap.size=g:=by omega
   have hnd:¬ W.heap.size+1+1=g:=by omega
   have hnb:¬ bk=g:=by have:=hbk;omega
   clear hcell hat hmem
   go_wp2
   go_region
   have hR2:=hR.out.put hlt m (.slice ua m.n uc)
   generalize ((((((wr.setCell ⟨g,k * 6,none⟩ (.string m.nm)).setCell ⟨g,k * 6+1,none⟩ (.string m.ds)).setCell ⟨g,k * 6+2,none⟩ (.int .i64 m.fl)).setCell ⟨g,k * 6+3,none⟩ (.int .i64 m.lo)).setCell ⟨g,k * 6+4,none⟩ (.int .i64 m.st)).setCell ⟨g,k * 6+5,none⟩ (.slice ua m.n uc)).drew=W2 at *
   have HR2:Hid (CpR W W2 nm su fl ld ai0 (some ⟨bk,o,none⟩) ai ni ci0 capi M cm0 g xi pm (qm.set k (m,.slice ua m.n uc)) k):=hR2
   have hq2:(qm.set k (m,Value.slice ua m.n uc))[k]?=some (m,.slice ua m.n uc):=List.getElem?_set_self (by rw [hR.out.len];exact hlt)
   have c5':=cell_of_row W2 W.heap.size 5 _ _ _ hR2.bc
   have d5':=cell_of_row W2 (W.heap.size+1+1) 5 _ _ _ hR2.bd
   simp only [List.getElem?_toArray,List.getElem?_cons_zero,List.getElem?_cons_succ] at c5' d5'
   have q5':W2.cell? ⟨bk,o+k * 6+5,none⟩=some (.slice ua m.n uc):=(hR2.below.cell (p:=⟨bk,o+k * 6+5,none⟩) hbk).trans ((hR.out.below.cell (p:=⟨bk,o+k * 6+5,none⟩) hbk).symm.trans q5)
   obtain ⟨hgN2,hglt2⟩:=hR2.ms.lt g rfl
   have HQ2:Hid ((qm.set k (m,Value.slice ua m.n uc))[k]?=some (m,.slice ua m.n uc)):=hq2
   have hb2:W.heap.size+1+1+1≤W2.heap.size:=by omega
   have hbk2:bk<W2.heap.size:=by omega
   have hld2:W.heap.size+1+1<W2.heap.size:=by omega
   have hlc2:W.heap.size<W2.heap.size:=by omega
   obtain ⟨iI,hiI,hzI,hsI,hbI⟩:=info_parts Tryz.hinfo81
   have HCR:Hid (∀ w:World,Bw W2 w→Rdw w (.slice ua m.n uc) m.n 7 m.xs):=fun w hb=>hcr.keep (Za HR2.out.below hb)
   have HC1:Hid (∀ u∈m.xs,u.oneCell'=true):=hc1
   have HKU:Hid (pm[k]?=some (m,.slice ua m.n uc)):=hku
   clear hq2 hR2 q0 q1 q2 q3 q4 q5 t0 t1 t2 t3 t4 t5 f0 f1 f2 f3 f4 f5 c5 d5 hqk hcr hc1 hku hR HM'
   go_wp2
   go_region_law
    (first
     | (refine Za3 rfl (.tmp 35) (.tmp 41) 66 rfl (W.heap.size+1+1+1) 76 iI _ 7 _ Tryz.underlying66 hiI hzI hsI hbI rfl (by decide) (.slice (some ⟨W2.heap.size,0,none⟩) 0 0) 0 [] (by simp [Act.eval]) ((Za9 W2 _ rfl _ _ _ hb2).drew) (.slice ua m.n uc) m.n m.xs (by simp [Act.eval]) (HCR.out _ ((Below.refl _ W2).alloc (Nat.le_refl _) _).drew) HC1.out (by unfold maxLen;omega) (by omega) (by simp;omega) ?_;intro v' w5 hown hgrow;obtain ⟨ac,cc,rfl⟩:=ownv hown;simp only [Nat.zero_add,List.nil_append] at hown ⊢;have B5:Hid (Bw W2 w5):=(Below.grown (w:=_) ((Below.refl _ W2).alloc (Nat.le_refl _) _).drew hgrow (by simp) (fun k hk=>by simp [Value.ownBlock] at hk;omega));have O5:Hid (w5.ownsRow (W.heap.size+1+1+1) 76 7 (.slice ac m.n cc) m.n m.xs):=hown;have y5:w5.cell? ⟨W.heap.size+1+1,5,none⟩=some (.slice (some ⟨g,0,none⟩) M M):=(B5.out.cell (p:=⟨W.heap.size+1+1,5,none⟩) hld2).trans d5';have x5:w5.cell? ⟨g,k * 6+5,none⟩=some (.slice ua m.n uc):=(B5.out.cell (p:=⟨g,k * 6+5,none⟩) hglt2).trans ((HR2.out.ms.cellAt (k * 6+5) (by omega)).trans (Zx _ k _ HQ2.out 5 (by omega)));have z5:w5.frozen? ⟨g,k * 6+5,none⟩=false:=(Zm HR2.out.ms B5.out).frozenAt (k * 6+5);clear hown hgrow))
   all_goals
    go_wp2
    go_roundw
    case rel=>exact ⟨k+1,_,by go_num,by omega,HR2.out.next HQ2.out HKU.out B5.out O5.out⟩
    case measure=>simp [intOf];omega
  ·have h1:=hR.out.br
   have h2:=hR.out.bd
   have d0:=cell_of_row wr (W.heap.size+1) 0 _ _ _ h1
   have e0:=frozen_of_row wr (W.heap.size+1) 0 _ _ h1
   have g0:=cell_of_row wr (W.heap.size+1+1) 0 _ _ _ h2
   have d1:=cell_of_row wr (W.heap.size+1) 1 _ _ _ h1
   have e1:=frozen_of_row wr (W.heap.size+1) 1 _ _ h1
   have g1:=cell_of_row wr (W.heap.size+1+1) 1 _ _ _ h2
   have d2:=cell_of_row wr (W.heap.size+1) 2 _ _ _ h1
   have e2:=frozen_of_row wr (W.heap.size+1) 2 _ _ h1
   have g2:=cell_of_row wr (W.heap.size+1+1) 2 _ _ _ h2
   have d3:=cell_of_row wr (W.heap.size+1) 3 _ _ _ h1
   have e3:=frozen_of_row wr (W.heap.size+1) 3 _ _ h1
   have g3:=cell_of_row wr (W.heap.size+1+1) 3 _ _ _ h2
   have d4:=cell_of_row wr (W.heap.size+1) 4 _ _ _ h1
   have e4:=frozen_of_row wr (W.heap.size+1) 4 _ _ h1
   have g4:=cell_of_row wr (W.heap.size+1+1) 4 _ _ _ h2
   have d5:=cell_of_row wr (W.heap.size+1) 5 _ _ _ h1
   have e5:=frozen_of_row wr (W.heap.size+1) 5 _ _ h1
   have g5:=cell_of_row wr (W.heap.size+1+1) 5 _ _ _ h2
   simp only [List.getElem?_toArray,List.getElem?_cons_zero,List.getElem?_cons_succ] at d0 d1 d2 d3 d4 d5 g0 g1 g2 g3 g4 g5
   have hkk:¬ (k:Int)<(M:Int):=by omega
   have hne:¬ W.heap.size+1+1=W.heap.size+1:=by omega
   have hkM:k=M:=by omega
   clear h1 h2
   go_wp2
   have hR6:=hR.out
   refine bodyPost_ret (v:=.agg #[.string nm,.string su,.slice ai ni capi,.int .i64 fl,.int .i64 ld,.slice (some ⟨g,0,none⟩) M M]) (by simp [results,Tryz.results52,go_sem, *]) rfl ⟨_,_,rfl,qm,⟨?_,?_,?_⟩,?_,?_⟩
   ·refine Go.Joins.ownsRow_le (base:=W.heap.size+1+1+1) ?_ (by omega)
    repeat (refine ownsRow_setCell_below ?_ (by simp) _)
    exact hR6.ifs
   ·refine Go.Joins.ownsRow_le (base:=W.heap.size+1+1+1) ?_ (by omega)
    repeat (refine ownsRow_setCell_below ?_ (by simp) _)
    rw [hR6.len]
    exact hR6.ms
   ·intro p hp
    obtain ⟨j,hj⟩:=List.getElem?_of_mem hp
    have hjl:=(List.getElem?_eq_some_iff.1 hj).1
    rw [hR6.len] at hjl
    refine Go.Joins.ownsRow_le (base:=W.heap.size+1+1+1) ?_ (by omega)
    repeat (refine ownsRow_setCell_below ?_ (by simp) _)
    exact hR6.old j p hj (by omega)
   ·refine List.ext_getElem? fun j=>?_
    rw [List.getElem?_map,List.getElem?_map]
    by_cases hj:j<M
    ·exact hR6.eq j (by omega)
    ·rw [List.getElem?_eq_none (by rw [hR6.len];omega),List.getElem?_eq_none (by rw [HML.out];omega)]
   ·repeat (refine Below.setCell ?_ (by simp) _)
    exact hR6.below
theorem Zcw {U w5:World} {N e s:Nat} {v:Value} {n:Nat} {xs:List Value} {N' e' s':Nat} {v':Value} {n':Nat} {xs':List Value} (h:U.ownsRow N e s v n xs) (hr:U.ownsRow N' e' s' v' n' xs') (hg:U.grownBy w5 v'.ownBlock) (hne:e≠e'):w5.ownsRow N e s v n xs:=by
 rcases hr.2 with ⟨rfl,_⟩|⟨g,cap,cur,rfl,_,hc,_⟩
 ·exact h.kept hg (by cases v.ownBlock <;> simp [Value.ownBlock])
 ·exact h.kept hg (Zk h hc hne)
theorem Zcx {w:World} {N e s:Nat} {v:Value} {n:Nat} {xs:List Value} (h:w.ownsRow N e s v n xs) {b:Nat} {cs:Array Value} {t:TypeId} (hb:w.heap[b]?=some (.cells cs t (0,0))) (hne:e≠t) (u:Value):(w.setCell ⟨b,0,none⟩ u).ownsRow N e s v n xs :=
 h.kept (Zr w b 0 u) (Zk h hb hne)
theorem RW.add {w U w5:World} {N b:Nat} {v v':Value} {rs:List CR} {r:CR} (h:RW w N b v rs) (hr:CrO w N r) (hst:Bw w U) (hg:U.grownBy w5 v.ownBlock) (ho:w5.ownsRow N 55 6 v' (rs.length+1) (Zae rs++crC r)) :
 w5.heap[b]?=some (.cells #[v] 114 (0,0))∧RW (w5.setCell ⟨b,0,none⟩ v') N b v' (rs++[r]):=by
 have hU:=h.below hst
 have hrU:=hr.below hst
 have hbne:some b≠v.ownBlock:=by
  rcases Zk hU.row hU.hb (by decide) with e|e
  ·rw [e];simp
  ·exact fun e2=>e e2.symm
 have hb5:w5.heap[b]?=some (.cells #[v] 114 (0,0)):=(hg.block b (Array.getElem?_eq_some_iff.1 hU.hb).1 hbne).trans hU.hb
 have cr:∀ q,CrO U N q→CrO (w5.setCell ⟨b,0,none⟩ v') N q:=by
  rintro q ⟨qm,h1,h2⟩
  refine ⟨qm,h1,?_,?_,fun p hp=>?_⟩
  ·exact Zcx (Zcw h2.ifs hU.row hg (by decide)) hb5 (by decide) _
  ·exact Zcx (Zcw h2.ms hU.row hg (by decide)) hb5 (by decide) _
  ·exact Zcx (Zcw (h2.cod p hp) hU.row hg (by decide)) hb5 (by decide) _
 refine ⟨hb5,heap_setCell_same w5 b 0 _ _ v' hb5,?_,?_,h.lb⟩
 ·have e1:(rs++[r]).length=rs.length+1:=by simp
  have e2:Zae (rs++[r])=Zae rs++crC r:=by simp [Zae]
  rw [e1,e2]
  exact Zcx ho hb5 (by decide) _
 ·intro q hq
  rcases List.mem_append.1 hq with hq|hq
  ·exact cr q (hU.own q hq)
  ·rw [List.mem_singleton] at hq
   subst hq
   exact cr _ hrU
theorem row_blk {w:World} {N e s:Nat} {v:Value} {n:Nat} {xs:List Value} (h:w.ownsRow N e s v n xs) {j:Nat} {o:Obj} (hj:w.heap[j]?=some o) (hno:∀ cs,o≠.cells cs e (0,0)):some j≠v.ownBlock:=by
 intro e1
 rcases h.2 with ⟨rfl,_⟩|⟨g,cap,cur,rfl,_,hc,_⟩
 ·simp [Value.ownBlock] at e1
 ·simp [Value.ownBlock] at e1
  subst e1
  rw [hj] at hc
  exact hno _ (Option.some.inj hc)
theorem RW.frame {w U w5:World} {N b:Nat} {v v':Value} {rs:List CR} (h:RW w N b v rs) (hst:Bw w U) (hg:U.grownBy w5 v.ownBlock) (j:Nat) (o:Obj) (hj:w.heap[j]?=some o) (hjb:j≠b) (hno:∀ cs,o≠.cells cs 55 (0,0)):(w5.setCell ⟨b,0,none⟩ v').heap[j]?=some o:=by
 have hl:j<w.heap.size:=(Array.getElem?_eq_some_iff.1 hj).1
 have hU:=h.below hst
 have h1:U.heap[j]?=some o:=(hst.block j hl).trans hj
 have h2:w5.heap[j]?=some o:=(hg.block j (Array.getElem?_eq_some_iff.1 h1).1 (row_blk hU.row h1 hno)).trans h1
 exact ((Zr w5 b 0 v').block j (Array.getElem?_eq_some_iff.1 h2).1 (by simpa using hjb)).trans h2
theorem copy_cr {w w1:World} {N:Nat} {c:Cls} {pm qm:List (HM×Value)} {vi' vm':Value} (hpm:pm.map Prod.fst=(hcOf c).ms) (hN:N≤w.heap.size) (ho:OwnC w1 w.heap.size vi' c.ifs.length (X0 c.ifs) vm' qm) (hq:qm.map Prod.fst=pm.map Prod.fst):CrO w1 N ⟨c,vi',vm'⟩ :=
 ⟨qm,hq.trans hpm,Go.Joins.ownsRow_le ho.ifs hN,Go.Joins.ownsRow_le ho.ms hN,fun p hp=>Go.Joins.ownsRow_le (ho.cod p hp) hN⟩
theorem Tryz.hinfoC:(Tryz.prog.info? 55).map (fun i=>(i.zero,i.size,i.bytes))=some (some (.agg #[.string ⟨#[]⟩,.string ⟨#[]⟩,.slice none 0 0,.int .i64 0,.int .i64 0,.slice none 0 0]),6,96):=by kernel_rfl
theorem row_ge {w:World} {N e s:Nat} {v:Value} {n:Nat} {xs:List Value} (h:w.ownsRow N e s v n xs) {k:Nat} (hk:v.ownBlock=some k):N≤k:=by
 rcases h.2 with ⟨rfl,_⟩|⟨g,cap,cur,rfl,hg,_⟩
 ·simp [Value.ownBlock] at hk
 ·simp [Value.ownBlock] at hk;omega
theorem callCp (vs:Array Value) (w:World):(callFunc 52 vs).run Tryz.prog w=.ok (.enter 52 vs) w:=by simp [go_sem]
def ropI (cs:List Cls) (c:Cls) (k:Int):Bool:=match clsI cs k with
 | some p=>hasI p.fl 1||togB c p
 | none=>false
def rifN (cs:List Cls) (c:Cls):List (List UInt8)→Int
 | []=>0
 | p::r=>if nmdI (ByteArray.mk p.toArray).toList cs 0<0 then 20 else if ifcC cs (nmdI (ByteArray.mk p.toArray).toList cs 0) then (if ropI cs c (nmdI (ByteArray.mk p.toArray).toList cs 0) then rifN cs c r else 22) else 23
def rdfN (cs:List Cls) (c:Cls):Int:=if clsB c=true then (if 300≤cs.length then 5 else if 0≤nmdI c.nm.toList cs 0 then 25 else if nmdI c.su.toList cs 0<0 then 20 else if ifcC cs (nmdI c.su.toList cs 0)||(hasI c.fl 512&&!(nmdI c.su.toList cs 0 == 0)) then 23 else if ropI cs c (nmdI c.su.toList cs 0) then rifN cs c c.ifs else 22) else 1
def rdfV (cs:List Cls) (z:Int):Value:=if z=0 then .tuple #[.int .i64 (cs.length:Int),.int .i64 0] else .tuple #[.int .i64 0,.int .i64 z]
def rdfC (cs:List Cls) (c:Cls) (z:Int):List Cls:=if z=0 then cs++[c] else cs
def DfQ (W:World) (N b:Nat) (cs:List Cls) (c:Cls) (z:Int) (e:Ending) (w':World):Prop:=e=.returned (rdfV cs z)∧(∃ v' rs',RW w' N b v' rs'∧rs'.map CR.c=rdfC cs c z)∧Below N W w'∧∀ (j:Nat) (o:Obj),W.heap[j]?=some o→j≠b→(∀ xs,o≠.cells xs 55 (0,0))→w'.heap[j]?=some o
theorem DfQ.no {W w':World} {N b:Nat} {v:Value} {rs:List CR} {c:Cls} {z:Int} (h:RW W N b v rs) (hN:N≤W.heap.size) (hb:Bw W w') (hz:z≠0):DfQ W N b (rs.map CR.c) c z (.returned (.tuple #[.int .i64 0,.int .i64 z])) w' :=
 ⟨by rw [rdfV,if_neg hz],⟨v,rs,h.below hb,by rw [rdfC,if_neg hz]⟩,hb.mono hN,fun j o hj _ _=>(hb.block j (Array.getElem?_eq_some_iff.1 hj).1).trans hj⟩
theorem Qm (key:List UInt8):∀ (cs:List Cls) (k:Nat),nmdI key cs k=-1∨∃ j,nmdI key cs k=((k+j:Nat):Int)∧j<cs.length
 | [],_=>.inl rfl
 | c::r,k=>by
   rw [nmdI]
   cases c.nm.toList == key with
   | true=>exact .inr ⟨0,by simp,by simp⟩
   | false =>
     rcases Qm key r (k+1) with h|⟨j,h,hj⟩
     ·exact .inl (by simpa using h)
     ·exact .inr ⟨j+1,by simp only [Bool.false_eq_true,if_false];rw [h];congr 1;omega,by simp;omega⟩
theorem Zej {key:List UInt8} {cs:List Cls} {L:Nat} (hL:cs.length=L) (h:¬ nmdI key cs 0<0):∃ (k:Nat) (p:Cls),nmdI key cs 0=(k:Int)∧k<L∧cs[k]?=some p:=by
 rcases Qm key cs 0 with e|⟨j,e,hj⟩
 ·omega
 ·exact ⟨j,_,by rw [e,Nat.zero_add],by omega,List.getElem?_eq_getElem hj⟩
theorem Zft (N b:Nat) (v:Value) (rs:List CR) (c:Cls) (vi vm:Value) (W:World) (h:RW W N b v rs) (hN:N≤W.heap.size) (hc:ClsIn W vi vm c) (hqz:∀ q∈rs,q.c.nm.size≤maxLen) (hl:rs.length≤300) :
 Calls Tryz.prog 15 #[.pointer (some ⟨b,0,none⟩),clsV c vi vm] W (DfQ W N b (rs.map CR.c) c (rdfN (rs.map CR.c) c)):=by
 obtain ⟨hcn,hcs,hci,hcf,hcl,hcm⟩:=hc.ok
 have hat:RAt b (rs.map CR.c) W:=⟨N,v,rs,h,rfl⟩
 have hcl3:(rs.map CR.c).length≤300:=by rw [List.length_map];exact hl
 have HCk:Hid (∀ w:World,Bw W w→Calls Tryz.prog 56 #[.agg #[.string c.nm,.string c.su,vi,.int .i64 c.fl,.int .i64 c.ld,vm]] w fun e w'=>e=.returned (.int .i64 (clsE c))∧Bw w w'):=fun w hb=>Zfv c vi vm w (hc.keep hb).ifs (hc.keep hb).ms hcn hcs hci (fun m hm=>⟨(hcm m hm).1,(hcm m hm).2.1,fun i hi=>((hcm m hm).2.2.2.2.2 i hi).2⟩)
 have HNm:Hid (∀ (nm:ByteArray) (w:World),Bw W w→Calls Tryz.prog 57 #[.pointer (some ⟨b,0,none⟩),.string nm] w fun e w'=>e=.returned (.int .i64 (nmdI nm.toList (rs.map CR.c) 0))∧w'=w):=fun nm w hb=>Zat (hat.below hb) nm hcl3
 have HIf:Hid (∀ (i:Int) (w:World),Bw W w→Calls Tryz.prog 58 #[.pointer (some ⟨b,0,none⟩),.int .i64 i] w fun e w'=>e=.returned (.bool (ifcC (rs.map CR.c) i))∧w'=w):=fun i w hb=>Zh8 (hat.below hb) i
 have HHs:Hid (∀ w:World,Calls Tryz.prog 59 #[.int .i64 c.fl,.int .i64 512] w fun e w'=>e=.returned (.bool (hasI c.fl 512))∧w'=w):=Ye c.fl 512
 have HOp:Hid (∀ (p:Cls) (ui um:Value) (w:World),p∈rs.map CR.c→Calls Tryz.prog 60 #[.agg #[.string c.nm,.string c.su,vi,.int .i64 c.fl,.int .i64 c.ld,vm],.agg #[.string p.nm,.string p.su,ui,.int .i64 p.fl,.int .i64 p.ld,um]] w fun e w'=>e=.returned (.bool (hasI p.fl 1||togB c p))∧Bw w w'):=fun p ui um w hp=>rOpen_c c p vi vm ui um hcn (by obtain ⟨q,hq,rfl⟩:=List.mem_map.1 hp;exact hqz q hq) w
 have HNo:Hid (∀ (z:Int) (w':World),Bw W w'→z≠0→DfQ W N b (rs.map CR.c) c z (.returned (.tuple #[.int .i64 0,.int .i64 z])) w'):=fun z w' hb hz=>DfQ.no h hN hb hz
 have HAT:Hid (∀ w,Bw W w→RAt b (rs.map CR.c) w):=fun w hb=>hat.below hb
 have HRW:Hid (∀ w,Bw W w→RW w N b v rs):=fun w hb=>h.below hb
 have HCI:Hid (ClsIn W vi vm c):=hc
 obtain ⟨L,hL⟩:∃ L,(rs.map CR.c).length=L:=⟨_,rfl⟩
 have HL:Hid ((rs.map CR.c).length=L):=hL
 obtain ⟨ai,ci,evi⟩:=Zh4 hc.ifs
 obtain ⟨am,cm,evm⟩:=Zio hc.ms
 obtain ⟨av,cv,ev⟩:=ownv h.row
 have hLr:rs.length=L:=by rw [← hL,List.length_map]
 rw [hLr] at ev
 subst ev
 have hNb:N≤b:=h.lb
 have hbl:b<W.heap.size:=(Array.getElem?_eq_some_iff.1 h.hb).1
 have hbW:=h.hb
 subst evi
 subst evm
 generalize hcs':rs.map CR.c=cs at *
 have EW:Hid (∀ z,z=rdfN cs c→DfQ W N b cs c z=DfQ W N b cs c (rdfN cs c)):=fun z hz=>by rw [hz]
 clear hat h hc hL hcm hci hcf hcl hcs hqz
 obtain ⟨W0,hW0⟩:∃ x,x=W.alloc (.cells #[.string c.nm,.string c.su,.slice ai c.ifs.length ci,.int .i64 c.fl,.int .i64 c.ld,.slice am c.ms.length cm] 55):=⟨_,rfl⟩
 have HE0:Hid (W0=W.alloc (.cells #[.string c.nm,.string c.su,.slice ai c.ifs.length ci,.int .i64 c.fl,.int .i64 c.ld,.slice am c.ms.length cm] 55)):=hW0
 have HB0:Hid (Bw W W0):=by rw [hW0];exact (Below.refl _ W).alloc (Nat.le_refl _) _
 have HBX:Hid (W0.heap[W.heap.size]?=some (.cells #[.string c.nm,.string c.su,.slice ai c.ifs.length ci,.int .i64 c.fl,.int .i64 c.ld,.slice am c.ms.length cm] 55 (0,0))):=by rw [hW0];exact Zg W _
 clear hW0
 rw [clsV]
 obtain ⟨Z,hZ⟩:∃ Z,Z=rdfN cs c:=⟨_,rfl⟩
 rw [← hZ]
 cases hB:clsB c with
 | false =>
   have HCk:Hid (∀ w:World,Bw W w→Calls Tryz.prog 56 #[.agg #[.string c.nm,.string c.su,.slice ai c.ifs.length ci,.int .i64 c.fl,.int .i64 c.ld,.slice am c.ms.length cm]] w fun e w'=>e=.returned (.int .i64 1)∧Bw w w'):=fun w hb=>by have:=HCk.out w hb;rw [clsE,hB] at this;exact this
   have EZ:Hid (Z=1):=by rw [Hid,hZ,rdfN,hB];rfl
   clear hZ hB HNm HIf HHs HOp HAT HRW HCI EW
   go_enter Tryz.func15,Tryz.ntmps15
   go_wp2_with (go_at_call 56;rw [← HE0.out];refine (HCk.out _ HB0.out).mono ?_;rintro e w1 ⟨rfl,hb1⟩;have B1:Hid (Bw W w1):=Za HB0.out hb1;clear hb1 HB0 HBX HE0 HCk)
   refine bodyPost_ret (results_tmp2 rfl _ _ _) rfl ?_
   rw [EZ.out]
   exact HNo.out 1 _ B1.out (by decide)
 | true =>
   have HCk:Hid (∀ w:World,Bw W w→Calls Tryz.prog 56 #[.agg #[.string c.nm,.string c.su,.slice ai c.ifs.length ci,.int .i64 c.fl,.int .i64 c.ld,.slice am c.ms.length cm]] w fun e w'=>e=.returned (.int .i64 0)∧Bw w w'):=fun w hb=>by have:=HCk.out w hb;rw [clsE,hB] at this;exact this
   have EZ:Hid (Z=if 300≤L then 5 else if 0≤nmdI c.nm.toList cs 0 then 25 else if nmdI c.su.toList cs 0<0 then 20 else if ifcC cs (nmdI c.su.toList cs 0)||(hasI c.fl 512&&!(nmdI c.su.toList cs 0 == 0)) then 23 else if ropI cs c (nmdI c.su.toList cs 0) then rifN cs c c.ifs else 22):=by rw [Hid,hZ,rdfN,if_pos hB,HL.out]
   obtain ⟨dB,_,_⟩:=Xh hB
   have HBC:Hid (clsB c=true):=hB
   clear hB hZ
   go_enter Tryz.func15,Tryz.ntmps15
   go_upto_region 3 with (go_at_call 56;rw [← HE0.out];refine (HCk.out _ HB0.out).mono ?_;rintro e w1 ⟨rfl,hb1⟩;have B1:Hid (Bw W w1):=Za HB0.out hb1;have X1:Hid (w1.heap[W.heap.size]?=some (.cells #[.string c.nm,.string c.su,.slice ai c.ifs.length ci,.int .i64 c.fl,.int .i64 c.ld,.slice am c.ms.length cm] 55 (0,0))):=(hb1.block _ (Array.getElem?_eq_some_iff.1 HBX.out).1).trans HBX.out;clear hb1 HB0 HBX HE0 HCk)
   have b0:=cell_of_row w1 b 0 _ _ _ ((B1.out.block b hbl).trans hbW)
   have x0:=cell_of_row w1 W.heap.size 0 _ _ _ X1.out
   have x1:=cell_of_row w1 W.heap.size 1 _ _ _ X1.out
   have x2:=cell_of_row w1 W.heap.size 2 _ _ _ X1.out
   have x3:=cell_of_row w1 W.heap.size 3 _ _ _ X1.out
   have x4:=cell_of_row w1 W.heap.size 4 _ _ _ X1.out
   have x5:=cell_of_row w1 W.heap.size 5 _ _ _ X1.out
   simp only [List.getElem?_toArray,List.getElem?_cons_zero,List.getElem?_cons_succ] at b0 x0 x1 x2 x3 x4 x5
   by_cases h300:300≤L
   ·replace EZ:Hid (Z=5):=EZ.out.trans (if_pos h300)
    have h300':(300:Int)≤(L:Int):=by omega
    clear HNm HIf HHs HOp HAT HRW HCI EW
    go_wp2
    refine bodyPost_ret (results_tmp2 rfl _ _ _) rfl ?_
    rw [EZ.out]
    exact HNo.out 5 _ B1.out (by decide)
   ·have h300':¬ (300:Int)≤(L:Int):=by omega
    replace EZ:Hid (Z=_):=EZ.out.trans (if_neg h300)
    have HN1:Hid (Calls Tryz.prog 57 #[.pointer (some ⟨b,0,none⟩),.string c.nm] w1 fun e w'=>e=.returned (.int .i64 (nmdI c.nm.toList cs 0))∧w'=w1):=HNm.out c.nm w1 B1.out
    generalize nmdI c.nm.toList cs 0=z1 at *
    by_cases hz1:0≤z1
    ·have EZ:Hid (Z=25):=EZ.out.trans (if_pos hz1)
     clear HNm HIf HHs HOp HAT HRW HCI EW
     go_wp2_with (go_at_call 57;refine HN1.out.mono ?_;rintro e w9 ⟨rfl,hw9⟩;rw [hw9];clear hw9 w9)
     refine bodyPost_ret (results_tmp2 rfl _ _ _) rfl ?_
     rw [EZ.out]
     exact HNo.out 25 _ B1.out (by decide)
    ·replace EZ:Hid (Z=_):=EZ.out.trans (if_neg hz1)
     have HN2:Hid (Calls Tryz.prog 57 #[.pointer (some ⟨b,0,none⟩),.string c.su] w1 fun e w'=>e=.returned (.int .i64 (nmdI c.su.toList cs 0))∧w'=w1):=HNm.out c.su w1 B1.out
     by_cases hz2:nmdI c.su.toList cs 0<0
     ·replace EZ:Hid (Z=20):=EZ.out.trans (if_pos hz2)
      clear HNm HIf HHs HOp HAT HRW HCI EW
      generalize nmdI c.su.toList cs 0=z2 at *
      go_wp2_with (go_at_call 57;first|(refine HN1.out.mono ?_;rintro e w9 ⟨rfl,hw9⟩;rw [hw9];clear hw9 w9 HN1)|(refine HN2.out.mono ?_;rintro e w9 ⟨rfl,hw9⟩;rw [hw9];clear hw9 w9))
      refine bodyPost_ret (results_tmp2 rfl _ _ _) rfl ?_
      rw [EZ.out]
      exact HNo.out 20 _ B1.out (by decide)
     ·replace EZ:Hid (Z=_):=EZ.out.trans (if_neg hz2)
      obtain ⟨k,p,hk,hkL,hkp⟩:=Zej HL.out hz2
      clear hz2
      replace EZ:Hid (Z=if ifcC cs (k:Int)||(hasI c.fl 512&&!((k:Int) == 0)) then 23 else if ropI cs c (k:Int) then rifN cs c c.ifs else 22):=by rw [← hk];exact EZ.out
      rw [hk] at HN2
      have HI2:Hid (Calls Tryz.prog 58 #[.pointer (some ⟨b,0,none⟩),.int .i64 (k:Int)] w1 fun e w'=>e=.returned (.bool (ifcC cs (k:Int)))∧w'=w1):=HIf.out (k:Int) w1 B1.out
      have HHs2:Hid (∀ w:World,Calls Tryz.prog 59 #[.int .i64 c.fl,.int .i64 512] w fun e w'=>e=.returned (.bool (hasI c.fl 512))∧w'=w):=HHs.out
      clear HHs
      generalize ifcC cs (k:Int)=R1 at *
      generalize hasI c.fl 512=R2 at *
      clear hk
      have hz1':¬ 0≤z1:=hz1
      cases hR:(R1||(R2&&!((k:Int) == 0))) with
      | true =>
        replace EZ:Hid (Z=23):=EZ.out.trans (by rw [hR];rfl)
        have hcs:R1=true∨(R1=false∧R2=true∧(((k:Int) == 0)=false)∧¬ (k:Int)=0):=by
         cases R1 <;> cases R2 <;> simp_all
        clear hR HNm HIf HOp HAT HRW HCI EW
        rcases hcs with rfl|⟨rfl,rfl,h0,h0'⟩
        all_goals
         go_wp2_with (first
          | (go_at_call 57;first|(refine HN1.out.mono ?_;rintro e w9 ⟨rfl,hw9⟩;rw [hw9];clear hw9 w9 HN1)|(refine HN2.out.mono ?_;rintro e w9 ⟨rfl,hw9⟩;rw [hw9];clear hw9 w9 HN2))
          | (go_at_call 58;refine HI2.out.mono ?_;rintro e w9 ⟨rfl,hw9⟩;rw [hw9];clear hw9 w9)
          | (go_at_call 59;refine (HHs2.out _).mono ?_;rintro e w9 ⟨rfl,hw9⟩;rw [hw9];clear hw9 w9))
         refine bodyPost_ret (results_tmp2 rfl _ _ _) rfl ?_
         rw [EZ.out]
         exact HNo.out 23 _ B1.out (by decide)
      | false =>
        replace EZ:Hid (Z=if ropI cs c (k:Int) then rifN cs c c.ifs else 22):=EZ.out.trans (by rw [hR];rfl)
        have hcs:R1=false∧(R2=false∨(R2=true∧(((k:Int) == 0)=true)∧((((k:Int) != 0)=false)))):=by
         cases R1 <;> cases R2 <;> simp_all
        clear hR
        obtain ⟨rfl,hR2⟩:=hcs
        obtain ⟨g,cap,ui,um,b0',hbl1,hgl1,c0,c1,c2,c3,c4,c5,_⟩:=(HAT.out w1 B1.out).cells hkp
        have hxl1:W.heap.size<w1.heap.size:=(Array.getElem?_eq_some_iff.1 X1.out).1
        rw [HL.out,b0] at b0'
        simp only [Option.some.injEq,Value.slice.injEq,true_and] at b0'
        obtain ⟨rfl,rfl⟩:=b0'
        have ho:ropI cs c (k:Int)=(hasI p.fl 1||togB c p):=by rw [ropI,Yj,hkp]
        rw [ho] at EZ
        have HO2:Hid (∀ w:World,Calls Tryz.prog 60 #[.agg #[.string c.nm,.string c.su,.slice ai c.ifs.length ci,.int .i64 c.fl,.int .i64 c.ld,.slice am c.ms.length cm],.agg #[.string p.nm,.string p.su,ui,.int .i64 p.fl,.int .i64 p.ld,um]] w fun e w'=>e=.returned (.bool (hasI p.fl 1||togB c p))∧Bw w w'):=fun w=>HOp.out p ui um w (List.mem_of_getElem? hkp)
        generalize (hasI p.fl 1||togB c p)=R3 at *
        have hkI:(k:Int)<(L:Int):=by omega
        clear ho hkp
        cases R3 with
        | false =>
          replace EZ:Hid (Z=22):=EZ.out
          clear HNm HIf HOp HAT HRW HCI EW
          rcases hR2 with rfl|⟨rfl,h0,h0'⟩
          all_goals
           go_upto_region 12 with (first
            | (go_at_call 57;first|(refine HN1.out.mono ?_;rintro e w9 ⟨rfl,hw9⟩;rw [hw9];clear hw9 w9 HN1)|(refine HN2.out.mono ?_;rintro e w9 ⟨rfl,hw9⟩;rw [hw9];clear hw9 w9 HN2))
            | (go_at_call 58;refine HI2.out.mono ?_;rintro e w9 ⟨rfl,hw9⟩;rw [hw9];clear hw9 w9)
            | (go_at_call 59;refine (HHs2.out _).mono ?_;rintro e w9 ⟨rfl,hw9⟩;rw [hw9];clear hw9 w9))
           go_region_held3 (fun w'=>w'.cell? ⟨b,0,none⟩=some (.slice (some ⟨g,0,none⟩) L cv)∧w'.cell? ⟨W.heap.size,0,none⟩=some (.string c.nm)∧w'.cell? ⟨W.heap.size,1,none⟩=some (.string c.su)∧w'.cell? ⟨W.heap.size,2,none⟩=some (.slice ai c.ifs.length ci)∧w'.cell? ⟨W.heap.size,3,none⟩=some (.int .i64 c.fl)∧w'.cell? ⟨W.heap.size,4,none⟩=some (.int .i64 c.ld)∧w'.cell? ⟨W.heap.size,5,none⟩=some (.slice am c.ms.length cm)∧w'.cell? ⟨g,k * 6,none⟩=some (.string p.nm)∧w'.cell? ⟨g,k * 6+1,none⟩=some (.string p.su)∧w'.cell? ⟨g,k * 6+2,none⟩=some (ui)∧w'.cell? ⟨g,k * 6+3,none⟩=some (.int .i64 p.fl)∧w'.cell? ⟨g,k * 6+4,none⟩=some (.int .i64 p.ld)∧w'.cell? ⟨g,k * 6+5,none⟩=some (um)) (go_keep) (first|(go_at_call 60;refine (HO2.out _).mono ?_;rintro e w2 ⟨rfl,hb2⟩;have hb1':Bw w1 w2:=((Below.refl _ w1).drew.trans hb2);have y0:=(hb1'.cell (p:=⟨b,0,none⟩) hbl1).trans b0;have y1:=(hb1'.cell (p:=⟨W.heap.size,0,none⟩) hxl1).trans x0;have y2:=(hb1'.cell (p:=⟨W.heap.size,1,none⟩) hxl1).trans x1;have y3:=(hb1'.cell (p:=⟨W.heap.size,2,none⟩) hxl1).trans x2;have y4:=(hb1'.cell (p:=⟨W.heap.size,3,none⟩) hxl1).trans x3;have y5:=(hb1'.cell (p:=⟨W.heap.size,4,none⟩) hxl1).trans x4;have y6:=(hb1'.cell (p:=⟨W.heap.size,5,none⟩) hxl1).trans x5;have y7:=(hb1'.cell (p:=⟨g,k * 6,none⟩) hgl1).trans c0;have y8:=(hb1'.cell (p:=⟨g,k * 6+1,none⟩) hgl1).trans c1;have y9:=(hb1'.cell (p:=⟨g,k * 6+2,none⟩) hgl1).trans c2;have y10:=(hb1'.cell (p:=⟨g,k * 6+3,none⟩) hgl1).trans c3;have y11:=(hb1'.cell (p:=⟨g,k * 6+4,none⟩) hgl1).trans c4;have y12:=(hb1'.cell (p:=⟨g,k * 6+5,none⟩) hgl1).trans c5;have B2:Hid (Bw W w2):=Za B1.out hb1';have X2:Hid (w2.heap[W.heap.size]?=some (.cells #[.string c.nm,.string c.su,.slice ai c.ifs.length ci,.int .i64 c.fl,.int .i64 c.ld,.slice am c.ms.length cm] 55 (0,0))):=(hb1'.block _ hxl1).trans X1.out;clear hb2 hb1'))
           go_wp2
           refine bodyPost_ret (results_tmp2 rfl _ _ _) rfl ?_
           rw [EZ.out]
           exact HNo.out 22 _ B2.out (by decide)
        | true =>
          replace EZ:Hid (Z=rifN cs c c.ifs):=EZ.out
          rcases hR2 with rfl|⟨rfl,h0,h0'⟩
          all_goals
           go_upto_region 12 with (first
            | (go_at_call 57;first|(refine HN1.out.mono ?_;rintro e w9 ⟨rfl,hw9⟩;rw [hw9];clear hw9 w9 HN1)|(refine HN2.out.mono ?_;rintro e w9 ⟨rfl,hw9⟩;rw [hw9];clear hw9 w9 HN2))
            | (go_at_call 58;refine HI2.out.mono ?_;rintro e w9 ⟨rfl,hw9⟩;rw [hw9];clear hw9 w9)
            | (go_at_call 59;refine (HHs2.out _).mono ?_;rintro e w9 ⟨rfl,hw9⟩;rw [hw9];clear hw9 w9))
           go_region_held3 (fun w'=>w'.cell? ⟨b,0,none⟩=some (.slice (some ⟨g,0,none⟩) L cv)∧w'.cell? ⟨W.heap.size,0,none⟩=some (.string c.nm)∧w'.cell? ⟨W.heap.size,1,none⟩=some (.string c.su)∧w'.cell? ⟨W.heap.size,2,none⟩=some (.slice ai c.ifs.length ci)∧w'.cell? ⟨W.heap.size,3,none⟩=some (.int .i64 c.fl)∧w'.cell? ⟨W.heap.size,4,none⟩=some (.int .i64 c.ld)∧w'.cell? ⟨W.heap.size,5,none⟩=some (.slice am c.ms.length cm)∧w'.cell? ⟨g,k * 6,none⟩=some (.string p.nm)∧w'.cell? ⟨g,k * 6+1,none⟩=some (.string p.su)∧w'.cell? ⟨g,k * 6+2,none⟩=some (ui)∧w'.cell? ⟨g,k * 6+3,none⟩=some (.int .i64 p.fl)∧w'.cell? ⟨g,k * 6+4,none⟩=some (.int .i64 p.ld)∧w'.cell? ⟨g,k * 6+5,none⟩=some (um)) (go_keep) (first|(go_at_call 60;refine (HO2.out _).mono ?_;rintro e w2 ⟨rfl,hb2⟩;have hb1':Bw w1 w2:=((Below.refl _ w1).drew.trans hb2);have y0:=(hb1'.cell (p:=⟨b,0,none⟩) hbl1).trans b0;have y1:=(hb1'.cell (p:=⟨W.heap.size,0,none⟩) hxl1).trans x0;have y2:=(hb1'.cell (p:=⟨W.heap.size,1,none⟩) hxl1).trans x1;have y3:=(hb1'.cell (p:=⟨W.heap.size,2,none⟩) hxl1).trans x2;have y4:=(hb1'.cell (p:=⟨W.heap.size,3,none⟩) hxl1).trans x3;have y5:=(hb1'.cell (p:=⟨W.heap.size,4,none⟩) hxl1).trans x4;have y6:=(hb1'.cell (p:=⟨W.heap.size,5,none⟩) hxl1).trans x5;have y7:=(hb1'.cell (p:=⟨g,k * 6,none⟩) hgl1).trans c0;have y8:=(hb1'.cell (p:=⟨g,k * 6+1,none⟩) hgl1).trans c1;have y9:=(hb1'.cell (p:=⟨g,k * 6+2,none⟩) hgl1).trans c2;have y10:=(hb1'.cell (p:=⟨g,k * 6+3,none⟩) hgl1).trans c3;have y11:=(hb1'.cell (p:=⟨g,k * 6+4,none⟩) hgl1).trans c4;have y12:=(hb1'.cell (p:=⟨g,k * 6+5,none⟩) hgl1).trans c5;have B2:Hid (Bw W w2):=Za B1.out hb1';have X2:Hid (w2.heap[W.heap.size]?=some (.cells #[.string c.nm,.string c.su,.slice ai c.ifs.length ci,.int .i64 c.fl,.int .i64 c.ld,.slice am c.ms.length cm] 55 (0,0))):=(hb1'.block _ hxl1).trans X1.out;clear hb2 hb1'))
           clear y0 y1 y2 y3 y4 y5 y6 y7 y8 y9 y10 y11 y12
           clear x0 x1 x2 x3 x4 x5 c0 c1 c2 c3 c4 c5 b0 hkI HI2 HHs2 HO2 hgl1 hbl1 hxl1 hkL
           go_wp2
           go_loopw [7] (fun iv wr=>∃ i:Nat,iv=.int .i64 i∧i≤c.ifs.length∧Hid (Bw W wr)∧Hid (wr.heap[W.heap.size]?=some (.cells #[.string c.nm,.string c.su,.slice ai c.ifs.length ci,.int .i64 c.fl,.int .i64 c.ld,.slice am c.ms.length cm] 55 (0,0)))∧Hid (Z=rifN cs c (c.ifs.drop i))) (fun iv _=>c.ifs.length - (intOf iv).toNat)
           case atStart=>exact ⟨0,rfl,Nat.zero_le _,B2,X2,EZ⟩
           case round =>
            obtain ⟨i,rfl,hi,Br,Xr,Er⟩:=hrel
            clear EZ B2 X2 B1 X1
            have b0:=cell_of_row wr b 0 _ _ _ ((Br.out.block b hbl).trans hbW)
            have x0:=cell_of_row wr W.heap.size 0 _ _ _ Xr.out
            have x1:=cell_of_row wr W.heap.size 1 _ _ _ Xr.out
            have x2:=cell_of_row wr W.heap.size 2 _ _ _ Xr.out
            have x3:=cell_of_row wr W.heap.size 3 _ _ _ Xr.out
            have x4:=cell_of_row wr W.heap.size 4 _ _ _ Xr.out
            have x5:=cell_of_row wr W.heap.size 5 _ _ _ Xr.out
            simp only [List.getElem?_toArray,List.getElem?_cons_zero,List.getElem?_cons_succ] at b0 x0 x1 x2 x3 x4 x5
            by_cases hlt:i<c.ifs.length
            ·have hltI:(i:Int)<(c.ifs.length:Int):=by omega
             obtain ⟨t,ht⟩:∃ t,c.ifs[i]?=some t:=⟨_,List.getElem?_eq_getElem hlt⟩
             obtain ⟨h1,h2⟩:=List.getElem?_eq_some_iff.1 ht
             rw [List.drop_eq_getElem_cons h1,h2,rifN] at Er
             have HN3:Hid (Calls Tryz.prog 57 #[.pointer (some ⟨b,0,none⟩),.string ⟨t.toArray⟩] wr fun e w'=>e=.returned (.int .i64 (nmdI (ByteArray.mk t.toArray).toList cs 0))∧w'=wr):=HNm.out ⟨t.toArray⟩ wr Br.out
             obtain ⟨bk,o,rfl,hcell⟩:∃ bk o,ai=some ⟨bk,o,none⟩∧wr.cell? ⟨bk,o+i,none⟩=some (.string ⟨t.toArray⟩):=by
              obtain ⟨ao,cap',e,_,_,h5⟩:=(HCI.out.keep Br.out).ifs
              simp only [Value.slice.injEq] at e
              obtain ⟨bk,o,e2,_,h6⟩:=h5 (fun e3=>by rw [e3] at hlt;exact absurd hlt (Nat.not_lt_zero _))
              exact ⟨bk,o,e.1.trans e2,h6 i t ht⟩
             clear h1 h2 ht
             by_cases hz3:nmdI (ByteArray.mk t.toArray).toList cs 0<0
             ·replace Er:Hid (Z=20):=Er.out.trans (if_pos hz3)
              clear HNm HIf HOp HAT HRW HCI EW
              generalize nmdI (ByteArray.mk t.toArray).toList cs 0=z3 at *
              go_wp2_with (go_at_call 57;refine HN3.out.mono ?_;rintro e w9 ⟨rfl,hw9⟩;rw [hw9];clear hw9 w9)
              refine bodyPost_ret (results_tmp2 rfl _ _ _) rfl ?_
              rw [Er.out]
              exact HNo.out 20 _ Br.out (by decide)
             ·replace Er:Hid (Z=_):=Er.out.trans (if_neg hz3)
              obtain ⟨k2,p2,hk2,hkL2,hkp2⟩:=Zej HL.out hz3
              clear hz3
              rw [hk2] at HN3 Er
              have HI3:Hid (Calls Tryz.prog 58 #[.pointer (some ⟨b,0,none⟩),.int .i64 (k2:Int)] wr fun e w'=>e=.returned (.bool (ifcC cs (k2:Int)))∧w'=wr):=HIf.out (k2:Int) wr Br.out
              generalize ifcC cs (k2:Int)=R4 at *
              cases R4 with
              | false =>
                replace Er:Hid (Z=23):=Er.out
                clear HNm HIf HOp HAT HRW HCI EW
                go_wp2_with (first|(go_at_call 57;refine HN3.out.mono ?_;rintro e w9 ⟨rfl,hw9⟩;rw [hw9];clear hw9 w9)|(go_at_call 58;refine HI3.out.mono ?_;rintro e w9 ⟨rfl,hw9⟩;rw [hw9];clear hw9 w9))
                refine bodyPost_ret (results_tmp2 rfl _ _ _) rfl ?_
                rw [Er.out]
                exact HNo.out 23 _ Br.out (by decide)
              | true =>
                obtain ⟨g2,cap2,ui2,um2,b0',hblr,hglr,c0,c1,c2,c3,c4,c5,_⟩:=(HAT.out wr Br.out).cells hkp2
                have hxlr:W.heap.size<wr.heap.size:=(Array.getElem?_eq_some_iff.1 Xr.out).1
                rw [HL.out,b0] at b0'
                simp only [Option.some.injEq,Value.slice.injEq,Addr.mk.injEq,and_true,true_and] at b0'
                obtain ⟨rfl,rfl⟩:=b0'
                have ho:ropI cs c (k2:Int)=(hasI p2.fl 1||togB c p2):=by rw [ropI,Yj,hkp2]
                rw [ho] at Er
                have HO3:Hid (∀ w:World,Calls Tryz.prog 60 #[.agg #[.string c.nm,.string c.su,.slice (some ⟨bk,o,none⟩) c.ifs.length ci,.int .i64 c.fl,.int .i64 c.ld,.slice am c.ms.length cm],.agg #[.string p2.nm,.string p2.su,ui2,.int .i64 p2.fl,.int .i64 p2.ld,um2]] w fun e w'=>e=.returned (.bool (hasI p2.fl 1||togB c p2))∧Bw w w'):=fun w=>HOp.out p2 ui2 um2 w (List.mem_of_getElem? hkp2)
                generalize (hasI p2.fl 1||togB c p2)=R5 at *
                have hkI:(k2:Int)<(L:Int):=by omega
                clear ho hkp2 HNm HIf HOp HAT HRW HCI EW
                cases R5
                all_goals
                 go_upto_region 22 with (first|(go_at_call 57;refine HN3.out.mono ?_;rintro e w9 ⟨rfl,hw9⟩;rw [hw9];clear hw9 w9)|(go_at_call 58;refine HI3.out.mono ?_;rintro e w9 ⟨rfl,hw9⟩;rw [hw9];clear hw9 w9))
                 go_region_held3 (fun w'=>w'.cell? ⟨b,0,none⟩=some (.slice (some ⟨g,0,none⟩) L cv)∧w'.cell? ⟨W.heap.size,0,none⟩=some (.string c.nm)∧w'.cell? ⟨W.heap.size,1,none⟩=some (.string c.su)∧w'.cell? ⟨W.heap.size,2,none⟩=some (.slice (some ⟨bk,o,none⟩) c.ifs.length ci)∧w'.cell? ⟨W.heap.size,3,none⟩=some (.int .i64 c.fl)∧w'.cell? ⟨W.heap.size,4,none⟩=some (.int .i64 c.ld)∧w'.cell? ⟨W.heap.size,5,none⟩=some (.slice am c.ms.length cm)∧w'.cell? ⟨g,k2 * 6,none⟩=some (.string p2.nm)∧w'.cell? ⟨g,k2 * 6+1,none⟩=some (.string p2.su)∧w'.cell? ⟨g,k2 * 6+2,none⟩=some (ui2)∧w'.cell? ⟨g,k2 * 6+3,none⟩=some (.int .i64 p2.fl)∧w'.cell? ⟨g,k2 * 6+4,none⟩=some (.int .i64 p2.ld)∧w'.cell? ⟨g,k2 * 6+5,none⟩=some (um2)) (go_keep) (first|(go_at_call 60;refine (HO3.out _).mono ?_;rintro e w2 ⟨rfl,hb2⟩;have hb1':Bw wr w2:=((Below.refl _ wr).drew.trans hb2);have y0:=(hb1'.cell (p:=⟨b,0,none⟩) hblr).trans b0;have y1:=(hb1'.cell (p:=⟨W.heap.size,0,none⟩) hxlr).trans x0;have y2:=(hb1'.cell (p:=⟨W.heap.size,1,none⟩) hxlr).trans x1;have y3:=(hb1'.cell (p:=⟨W.heap.size,2,none⟩) hxlr).trans x2;have y4:=(hb1'.cell (p:=⟨W.heap.size,3,none⟩) hxlr).trans x3;have y5:=(hb1'.cell (p:=⟨W.heap.size,4,none⟩) hxlr).trans x4;have y6:=(hb1'.cell (p:=⟨W.heap.size,5,none⟩) hxlr).trans x5;have y7:=(hb1'.cell (p:=⟨g,k2 * 6,none⟩) hglr).trans c0;have y8:=(hb1'.cell (p:=⟨g,k2 * 6+1,none⟩) hglr).trans c1;have y9:=(hb1'.cell (p:=⟨g,k2 * 6+2,none⟩) hglr).trans c2;have y10:=(hb1'.cell (p:=⟨g,k2 * 6+3,none⟩) hglr).trans c3;have y11:=(hb1'.cell (p:=⟨g,k2 * 6+4,none⟩) hglr).trans c4;have y12:=(hb1'.cell (p:=⟨g,k2 * 6+5,none⟩) hglr).trans c5;have B2:Hid (Bw W w2):=Za Br.out hb1';have X2:Hid (w2.heap[W.heap.size]?=some (.cells #[.string c.nm,.string c.su,.slice (some ⟨bk,o,none⟩) c.ifs.length ci,.int .i64 c.fl,.int .i64 c.ld,.slice am c.ms.length cm] 55 (0,0))):=(hb1'.block _ hxlr).trans Xr.out;clear hb2 hb1'))
                ·replace Er:Hid (Z=22):=Er.out
                 go_wp2
                 refine bodyPost_ret (results_tmp2 rfl _ _ _) rfl ?_
                 rw [Er.out]
                 exact HNo.out 22 _ B2.out (by decide)
                ·replace Er:Hid (Z=rifN cs c (c.ifs.drop (i+1))):=Er.out
                 go_wp2
                 go_roundw
                 case rel=>exact ⟨i+1,by go_num,by omega,B2,X2,Er⟩
                 case measure=>simp [intOf];omega
            ·have hlI:¬ (i:Int)<(c.ifs.length:Int):=by omega
             have EZ:Hid (Z=0):=by rw [Hid,Er.out,List.drop_of_length_le (by omega)];rfl
             obtain ⟨d1,d2,d3⟩:=Xh HBC.out
             obtain ⟨r1,pm,r2,r3,r4⟩:=HCI.out.rdw
             have hlen:pm.length=c.ms.length:=by
              have:=congrArg List.length r2
              simpa [hcOf] using this
             have HCp:Hid (∀ w:World,Bw W w→Calls Tryz.prog 52 #[.agg #[.string c.nm,.string c.su,.slice ai c.ifs.length ci,.int .i64 c.fl,.int .i64 c.ld,.slice am c.ms.length cm]] w fun e w'=>∃ vi' vm' qm,e=.returned (.agg #[.string c.nm,.string c.su,vi',.int .i64 c.fl,.int .i64 c.ld,vm'])∧OwnC w' w.heap.size vi' c.ifs.length (X0 c.ifs) vm' qm∧qm.map Prod.fst=pm.map Prod.fst∧Bw w w'):=fun w hb=>Zj0 c.nm c.su c.fl c.ld _ _ c.ifs.length (X0 c.ifs) pm w (r1.keep hb) (Zcq _) (by omega) (r3.keep hb) (by omega) (fun p hp=>⟨(r4 p hp).keep hb,by
              have hp1:p.1∈(hcOf c).ms:=by rw [← r2];exact List.mem_map_of_mem hp
              obtain ⟨m,hm,e⟩:=List.mem_map.1 hp1
              rw [← e]
              exact ⟨Zbg _,show m.code.length≤1599289640354 by have:=d3 m hm;omega⟩⟩)
             have HPM:Hid (pm.map Prod.fst=(hcOf c).ms):=r2
             obtain ⟨iC,hiC,hzC,hsC,hbC⟩:=info_parts Tryz.hinfoC
             have hszr:=Br.out.size
             have hxlr:W.heap.size<wr.heap.size:=(Array.getElem?_eq_some_iff.1 Xr.out).1
             have hL3:L<300:=by omega
             clear r1 r2 r3 r4 hlen d1 d2 d3 Er HNm HIf HOp HAT HCI EW HNo HBC
             go_upto_region 24 with (fail)
             go_region_law
              (first
               | (refine J8 rfl 52 callCp (.tmp 86) 55 rfl (.agg #[.string c.nm,.string c.su,.slice ai c.ifs.length ci,.int .i64 c.fl,.int .i64 c.ld,.slice am c.ms.length cm]) (by simp [Act.eval]) (HCp.out _ Br.out.drew) ?_;rintro e w3 ⟨vi',vm',qm,rfl,ho,hq,hb3⟩;refine ⟨_,rfl,?_⟩;obtain ⟨ai',ci',rfl⟩:=ownv ho.ifs;obtain ⟨am',cm',rfl⟩:=ownv ho.ms;have O3:Hid (CrO w3 N ⟨c,.slice ai' c.ifs.length ci',.slice am' qm.length cm'⟩):=copy_cr HPM.out (show N≤wr.heap.size from Nat.le_trans hN hszr) ho hq;have B3:Hid (Bw wr w3):=((Below.refl _ wr).drew.trans hb3);have v0:=(B3.out.cell (p:=⟨b,0,none⟩) (show b<wr.heap.size by omega)).trans b0;have hbn3:¬ b=w3.heap.size:=(by have h1:=B3.out.size;omega);have hbl3:b<w3.heap.size:=(by have h1:=B3.out.size;omega);clear ho hq hb3 HCp)
               | (refine step_append_lies _ rfl (.tmp 85) (.tmp 88) 22 rfl N 55 iC _ 6 96 Tryz.underlying22 hiC hzC hsC hbC rfl (by decide) (.slice (some ⟨g,0,none⟩) L cv) L (Zae rs) (by simp [Act.eval]) ((by have:=(HRW.out w3 (Za Br.out B3.out)).row;rw [hLr] at this;exact this:w3.ownsRow N 55 6 (.slice (some ⟨g,0,none⟩) L cv) L (Zae rs)).alloc _) ⟨w3.heap.size,0,none⟩ 1 1 (crC ⟨c,.slice ai' c.ifs.length ci',.slice am' qm.length cm'⟩) (by simp [Act.eval]) rfl (World.news_of_block (heap_alloc_new w3 _)) ?_ (by decide) ?_ ?_ ?_ _ rfl ?_;(intro u hu;simp [crC] at hu;rcases hu with rfl|rfl|rfl|rfl|rfl|rfl <;> rfl);(unfold maxLen;omega);omega;(have h1:=B3.out.size;simp;omega);intro g3 cap3 w5 hown hgrow _ _;have hA:=RW.add (HRW.out w3 (Za Br.out B3.out)) O3.out ((Below.refl _ w3).alloc (Nat.le_refl _) _) hgrow (by rw [hLr];exact hown);have BN:Hid (Below N W (w5.setCell ⟨b,0,none⟩ (.slice (some ⟨g3,0,none⟩) (L+1) cap3))):=((Below.grown (w:=_) (((Za Br.out B3.out).mono hN).alloc (by have h1:=B3.out.size;omega) _) hgrow (by have h1:=B3.out.size;simp;omega) (fun k hk=>row_ge (HRW.out w3 (Za Br.out B3.out)).row hk)).setCell (p:=⟨b,0,none⟩) hNb _);have z0:=cell_of_row w5 b 0 _ _ _ hA.1;have zf:=frozen_of_row w5 b 0 _ _ hA.1;simp only [List.getElem?_toArray,List.getElem?_cons_zero] at z0;have Q2:Hid (RW (w5.setCell ⟨b,0,none⟩ (.slice (some ⟨g3,0,none⟩) (L+1) cap3)) N b (.slice (some ⟨g3,0,none⟩) (L+1) cap3) (rs++[⟨c,.slice ai' c.ifs.length ci',.slice am' qm.length cm'⟩])):=hA.2;have FR:Hid (∀ (j:Nat) (o:Obj),W.heap[j]?=some o→j≠b→(∀ xs,o≠.cells xs 55 (0,0))→(w5.setCell ⟨b,0,none⟩ (.slice (some ⟨g3,0,none⟩) (L+1) cap3)).heap[j]?=some o):=(fun j o hj hjb hno=>RW.frame (HRW.out w3 (Za Br.out B3.out)) ((Below.refl _ w3).alloc (Nat.le_refl _) _) hgrow j o (((Za Br.out B3.out).block j (Array.getElem?_eq_some_iff.1 hj).1).trans hj) hjb hno);clear hA hown hgrow))
             all_goals
              have k1:=cell_of_row _ b 0 _ _ _ Q2.out.hb
              simp only [List.getElem?_toArray,List.getElem?_cons_zero] at k1
              generalize w5.setCell ⟨b,0,none⟩ (.slice (some ⟨g3,0,none⟩) (L+1) cap3)=w6 at *
              go_wp2
              refine bodyPost_ret (results_tmp2 rfl _ _ _) rfl ?_
              rw [EZ.out]
              refine ⟨?_,⟨_,_,Q2.out,?_⟩,BN.out,FR.out⟩
              ·rw [rdfV,if_pos rfl,HL.out]
               simp
              ·rw [rdfC,if_pos rfl,List.map_append,hcs'];rfl
end Go.Proofs.YtlnojhhddinjkaaGreat
