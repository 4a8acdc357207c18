import Derived.Test.YtenpnkkkjjdccaaGreatMxE
import Derived.Test.YtenpnkkkjjdccaaGreatAcE
import Derived.Test.YtenpnkkkjjdccaaGreatHrT
import Derived.Test.YtenpnkkkjjdccaaGreatHrH
import Derived.Test.YtenpnkkkjjdccaaGreatWdB
import Derived.Test.YtenpnkkkjjdccaaGreatMxC
import Derived.Deep.DeepCutAuto
set_option maxRecDepth 100000
namespace Go.Proofs.YtenpnkkkjjdccaaGreat
open Go.RowKit Go.Maps
structure CpR (W wr:World) (nm su:ByteArray) (fl ld:Int) (ai0 am0 ai:Option Addr) (ni ci0 capi M cm0 gm:Nat) (xi:List Value) (pm qm:List (HM×Value)) (k:Nat):Prop where
  bc:wr.heap[W.heap.size]?=some (.cells #[.string nm,.string su,.slice ai0 ni ci0,.int .i64 fl,.int .i64 ld,.slice am0 M cm0] 29 (0,0))
  br:wr.heap[W.heap.size+1]?=some (.cells #[.string ⟨#[]⟩,.string ⟨#[]⟩,.slice none 0 0,.int .i64 0,.int .i64 0,.slice none 0 0] 29 (0,0))
  bd:wr.heap[W.heap.size+1+1]?=some (.cells #[.string nm,.string su,.slice ai ni capi,.int .i64 fl,.int .i64 ld,.slice (some ⟨gm,0,none⟩) M M] 29 (0,0))
  ifs:wr.ownsRow (W.heap.size+1+1+1) 9 1 (.slice ai ni capi) ni xi
  len:qm.length=M
  ms:wr.ownsRow (W.heap.size+1+1+1) 127 6 (.slice (some ⟨gm,0,none⟩) M M) M (flatH qm)
  eq:∀ j<k,(qm[j]?).map Prod.fst=(pm[j]?).map Prod.fst
  old:∀ j p,qm[j]?=some p→j<k→wr.ownsRow (W.heap.size+1+1+1) 171 7 p.2 p.1.n p.1.xs
  below:Below W.heap.size W wr
def hm0:HM×Value:=(⟨⟨#[]⟩,⟨#[]⟩,0,0,0,0,[]⟩,.slice none 0 0)
theorem made_flat (M:Nat):(madeCells (Value.agg #[.string ⟨#[]⟩,.string ⟨#[]⟩,.int .i64 0,.int .i64 0,.int .i64 0,.slice none 0 0]).cells (M * 6)).toList=flatH (List.replicate M hm0):=by
  refine List.ext_getElem? fun j=>?_
  by_cases hj:j<M * 6
  · have hq:j / 6<M:=by omega
    have h:=flatH_at (List.replicate M hm0) (j / 6) hm0 (by simp [hq]) (j % 6) (Nat.mod_lt _ (by decide))
    rw [show j / 6 * 6+j % 6=j by omega] at h
    rw [h]
    have e:∀ r,r<6→(hmC hm0)[r]?=some ((Value.agg #[.string ⟨#[]⟩,.string ⟨#[]⟩,.int .i64 0,.int .i64 0,.int .i64 0,.slice none 0 0]).cells[r]!):=fun r hr=>by
      match r,hr with
      | 0,_=>rfl
      | 1,_=>rfl
      | 2,_=>rfl
      | 3,_=>rfl
      | 4,_=>rfl
      | 5,_=>rfl
    rw [e _ (Nat.mod_lt _ (by decide))]
    simp [madeCells,hj]
    rfl
  · rw [List.getElem?_eq_none (by simp [size_madeCells];omega),List.getElem?_eq_none (by rw [flatH_length];simp;omega)]
theorem flatH_put (l:List (HM×Value)) (k:Nat) (m:HM) (u:Value) (hk:k<l.length):((((((flatH l).set (k * 6) (.string m.nm)).set (k * 6+1) (.string m.ds)).set (k * 6+2) (.int .i64 m.fl)).set (k * 6+3) (.int .i64 m.lo)).set (k * 6+4) (.int .i64 m.st)).set (k * 6+5) u=flatH (l.set k (m,u)):=by
  induction l generalizing k with
  | nil=>simp at hk
  | cons t ts ih =>
    have e:∀ a b,flatH (a::b)=hmC a++flatH b:=fun a b=>by simp [flatH]
    cases k with
    | zero=>rw [List.set_cons_zero,e,e];simp [hmC]
    | succ k =>
      rw [List.set_cons_succ,e,e,← ih k (by simpa using hk)]
      have hs:∀ (r:Nat) (v:Value) (L:List Value),(hmC t++L).set ((k+1) * 6+r) v=hmC t++L.set (k * 6+r) v:=fun r v L=>by
        rw [List.set_append_right _ _ (by simp [hmC];omega)]
        congr 2
        simp [hmC];omega
      have h0:=hs 0
      simp only [Nat.add_zero] at h0
      rw [h0,hs 1,hs 2,hs 3,hs 4,hs 5]
theorem CpR.put {W wr:World} {nm su:ByteArray} {fl ld:Int} {ai0 am0 ai:Option Addr} {ni ci0 capi M cm0 g:Nat} {xi:List Value} {pm qm:List (HM×Value)} {k:Nat} (h:CpR W wr nm su fl ld ai0 am0 ai ni ci0 capi M cm0 g xi pm qm k) (hk:k<M) (m:HM) (u:Value) :
    CpR W ((((((wr.setCell ⟨g,k * 6,none⟩ (.string m.nm)).setCell ⟨g,k * 6+1,none⟩ (.string m.ds)).setCell ⟨g,k * 6+2,none⟩ (.int .i64 m.fl)).setCell ⟨g,k * 6+3,none⟩ (.int .i64 m.lo)).setCell ⟨g,k * 6+4,none⟩ (.int .i64 m.st)).setCell ⟨g,k * 6+5,none⟩ u).drew nm su fl ld ai0 am0 ai ni ci0 capi M cm0 g xi pm (qm.set k (m,u)) k:=by
  obtain ⟨hgN,hglt⟩:=h.ms.lt g rfl
  obtain ⟨cur,hcur⟩:=row_cur h.ms
  obtain ⟨s0,_⟩:=h.ms.stored (k * 6) (.string m.nm)
  obtain ⟨s1,_⟩:=s0.stored (k * 6+1) (.string m.ds)
  obtain ⟨s2,_⟩:=s1.stored (k * 6+2) (.int .i64 m.fl)
  obtain ⟨s3,_⟩:=s2.stored (k * 6+3) (.int .i64 m.lo)
  obtain ⟨s4,_⟩:=s3.stored (k * 6+4) (.int .i64 m.st)
  obtain ⟨s5,_⟩:=s4.stored (k * 6+5) u
  rw [flatH_put qm k m u (by rw [h.len];exact hk)] at s5
  have G:wr.grownBy ((((((wr.setCell ⟨g,k * 6,none⟩ (.string m.nm)).setCell ⟨g,k * 6+1,none⟩ (.string m.ds)).setCell ⟨g,k * 6+2,none⟩ (.int .i64 m.fl)).setCell ⟨g,k * 6+3,none⟩ (.int .i64 m.lo)).setCell ⟨g,k * 6+4,none⟩ (.int .i64 m.st)).setCell ⟨g,k * 6+5,none⟩ u) (some g) :=
    (grown_set _ g _ _).trans ((grown_set _ g _ _).trans ((grown_set _ g _ _).trans ((grown_set _ g _ _).trans ((grown_set _ g _ _).trans (grown_set _ g _ _)))))
  generalize ((((((wr.setCell ⟨g,k * 6,none⟩ (.string m.nm)).setCell ⟨g,k * 6+1,none⟩ (.string m.ds)).setCell ⟨g,k * 6+2,none⟩ (.int .i64 m.fl)).setCell ⟨g,k * 6+3,none⟩ (.int .i64 m.lo)).setCell ⟨g,k * 6+4,none⟩ (.int .i64 m.st)).setCell ⟨g,k * 6+5,none⟩ u)=w6 at *
  have B6:Below W.heap.size W w6:=h.below.grown G h.below.size (fun k hk=>by cases hk;omega)
  refine ⟨(G.block _ (Array.getElem?_eq_some_iff.1 h.bc).1 (by simp;omega)).trans h.bc,(G.block _ (Array.getElem?_eq_some_iff.1 h.br).1 (by simp;omega)).trans h.br,(G.block _ (Array.getElem?_eq_some_iff.1 h.bd).1 (by simp;omega)).trans h.bd,(h.ifs.kept G (row_kind_ne h.ifs hcur (by decide))).drew,by rw [List.length_set];exact h.len,s5.drew,?_,?_,B6.drew⟩
  · intro j hj
    rw [List.getElem?_set_ne (by omega)]
    exact h.eq j hj
  · intro j p hj hjk
    rw [List.getElem?_set_ne (by omega)] at hj
    have:=h.old j p hj hjk
    exact (this.kept G (row_kind_ne this hcur (by decide))).drew
theorem CpR.next {W wr w5:World} {nm su:ByteArray} {fl ld:Int} {ai0 am0 ai:Option Addr} {ni ci0 capi M cm0 g:Nat} {xi:List Value} {pm qm:List (HM×Value)} {k:Nat} {m:HM} {u u0 v':Value} (h:CpR W wr nm su fl ld ai0 am0 ai ni ci0 capi M cm0 g xi pm qm k) (hq:qm[k]?=some (m,u)) (hp:pm[k]?=some (m,u0)) (hb:Below wr.heap.size wr w5) (ho:w5.ownsRow (W.heap.size+1+1+1) 171 7 v' m.n m.xs) :
    CpR W (w5.setCell ⟨g,k * 6+5,none⟩ v') nm su fl ld ai0 am0 ai ni ci0 capi M cm0 g xi pm (qm.set k (m,v')) (k+1):=by
  have hms:=rowBelow h.ms hb
  obtain ⟨hgN,hglt⟩:=hms.lt g rfl
  obtain ⟨cur,hcur⟩:=row_cur hms
  obtain ⟨s5,G⟩:=hms.stored (k * 6+5) v'
  rw [flatH_set qm k m u v' hq] at s5
  have hif:=rowBelow h.ifs hb
  have hkq:k<qm.length:=(List.getElem?_eq_some_iff.1 hq).1
  refine ⟨(G.block _ (Nat.lt_of_lt_of_le (Array.getElem?_eq_some_iff.1 h.bc).1 hb.size) (by simp;omega)).trans ((hb.block _ (Array.getElem?_eq_some_iff.1 h.bc).1).trans h.bc),(G.block _ (Nat.lt_of_lt_of_le (Array.getElem?_eq_some_iff.1 h.br).1 hb.size) (by simp;omega)).trans ((hb.block _ (Array.getElem?_eq_some_iff.1 h.br).1).trans h.br),(G.block _ (Nat.lt_of_lt_of_le (Array.getElem?_eq_some_iff.1 h.bd).1 hb.size) (by simp;omega)).trans ((hb.block _ (Array.getElem?_eq_some_iff.1 h.bd).1).trans h.bd),(hif.kept G (row_kind_ne hif hcur (by decide))),by rw [List.length_set];exact h.len,s5,?_,?_,((h.below.trans (hb.mono h.below.size)).grown G (Nat.le_trans h.below.size hb.size) (fun k hk=>by cases hk;omega))⟩
  · intro j hj
    by_cases e:j=k
    · subst e
      rw [List.getElem?_set_self hkq,hp];rfl
    · rw [List.getElem?_set_ne (fun e2=>e e2.symm)]
      exact h.eq j (by omega)
  · intro j p hj hjk
    by_cases e:j=k
    · subst e
      rw [List.getElem?_set_self hkq] at hj
      cases hj
      exact (ho.kept G (row_kind_ne ho hcur (by decide)))
    · rw [List.getElem?_set_ne (fun e2=>e e2.symm)] at hj
      have:=rowBelow (h.old j p hj (by omega)) hb
      exact (this.kept G (row_kind_ne this hcur (by decide)))
set_option maxHeartbeats 1000000 in
theorem rCopy_any (nm su:ByteArray) (fl ld:Int) (vi vm:Value) (ni:Nat) (xi:List Value) (pm:List (HM×Value)) (W:World) (hi:Rdw W vi ni 1 xi) (hi1:∀ u∈xi,u.oneCell'=true) (hni:ni≤8796093022208)
    (hm:Rdw W vm pm.length 6 (flatH pm)) (hnm:pm.length≤1759218604390) (hc:∀ p∈pm,Rdw W p.2 p.1.n 7 p.1.xs∧(∀ u∈p.1.xs,u.oneCell'=true)∧p.1.n≤1599289640354) :
    Calls Tryz.prog 23 #[.agg #[.string nm,.string su,vi,.int .i64 fl,.int .i64 ld,vm]] W fun e w'=>∃ vi' vm' qm,e=.returned (.agg #[.string nm,.string su,vi',.int .i64 fl,.int .i64 ld,vm'])∧OwnC w' W.heap.size vi' ni xi vm' qm∧qm.map Prod.fst=pm.map Prod.fst∧Below W.heap.size W w':=by
  obtain ⟨ai0,ci0,rfl⟩:=hi.slice
  obtain ⟨am0,cm0,rfl⟩:=hm.slice
  obtain ⟨i0,hi0,hz0,hz1,hz2⟩:=info_parts Tryz.hinfo9
  have HI:Hid (Rdw W (.slice ai0 ni ci0) ni 1 xi):=hi
  have HM':Hid (Rdw W (.slice am0 pm.length cm0) pm.length 6 (flatH pm)):=hm
  have HC:Hid (∀ p∈pm,Rdw W p.2 p.1.n 7 p.1.xs∧(∀ u∈p.1.xs,u.oneCell'=true)∧p.1.n≤1599289640354):=hc
  have HI1:Hid (∀ u∈xi,u.oneCell'=true):=hi1
  obtain ⟨M,hM⟩:∃ M,pm.length=M:=⟨_,rfl⟩
  have HML:Hid (pm.length=M):=hM
  rw [hM] at hnm ⊢
  clear hi hm hc hM hi1
  go_enter Tryz.func23,Tryz.ntmps23
  go_wp2_with (at_builtin;refine wpList_append_rdw rfl _ _ 26 rfl (W.heap.size+1+1+1) 9 i0 (.string ⟨#[]⟩) 1 16 Tryz.underlying26 hi0 hz0 hz1 hz2 rfl (by decide) (.slice (some ⟨W.heap.size+1+1+1,0,none⟩) 0 0) 0 [] rfl (own_empty _ _ (by simp) _ _ _ (by simp)) (.slice ai0 ni ci0) ni xi rfl (HI.out.keep (by repeat (first|exact Below.refl _ _|refine Below.setCell ?_ (by simp;try omega) _|refine Below.alloc ?_ (by simp;try omega) _|refine Below.drew ?_))) HI1.out ?c1 ?c2 ?c3 ?_)
  case c1=>unfold maxLen;omega
  case c2=>omega
  case c3=>simp
  intro v' w1 hown hgrow
  obtain ⟨ai,capi,rfl⟩:=ownv hown
  have sz1:=hgrow.size
  simp only [World.size_alloc] at sz1
  have ob:∀ j,j<W.heap.size+1+1+1→some j≠(Value.slice (some ⟨W.heap.size+1+1+1,0,none⟩) 0 0).ownBlock:=fun j hj=>by simp [Value.ownBlock];omega
  have hbc:w1.heap[W.heap.size]?=some (.cells #[.string nm,.string su,.slice ai0 ni ci0,.int .i64 fl,.int .i64 ld,.slice am0 M cm0] 29 (0,0)):=by
    rw [hgrow.block _ (by simp;try omega) (ob _ (by omega))]
    exact (Below.heap_alloc _ _ _ (by simp;try omega)).trans ((Below.heap_alloc _ _ _ (by simp;try omega)).trans (heap_alloc2_old W _ _))
  have hbr:w1.heap[W.heap.size+1]?=some (.cells #[.string ⟨#[]⟩,.string ⟨#[]⟩,.slice none 0 0,.int .i64 0,.int .i64 0,.slice none 0 0] 29 (0,0)):=by
    rw [hgrow.block _ (by simp;try omega) (ob _ (by omega))]
    exact (Below.heap_alloc _ _ _ (by simp;try omega)).trans ((Below.heap_alloc _ _ _ (by simp)).trans (heap_alloc2_new W _ _))
  have hbd:w1.heap[W.heap.size+1+1]?=some (.cells #[.string nm,.string su,.slice ai0 ni ci0,.int .i64 fl,.int .i64 ld,.slice am0 M cm0] 29 (0,0)):=by
    rw [hgrow.block _ (by simp) (ob _ (by omega))]
    refine (Below.heap_alloc _ _ _ (by simp)).trans ?_
    have:=halloc1 ((W.alloc (.cells #[.string nm,.string su,.slice ai0 ni ci0,.int .i64 fl,.int .i64 ld,.slice am0 M cm0] 29)).alloc (.cells #[.string ⟨#[]⟩,.string ⟨#[]⟩,.slice none 0 0,.int .i64 0,.int .i64 0,.slice none 0 0] 29)) (.cells #[.string nm,.string su,.slice ai0 ni ci0,.int .i64 fl,.int .i64 ld,.slice am0 M cm0] 29)
    simpa using this
  have B1:Hid (Below W.heap.size W w1):=by
    refine Below.grown (w:=_) ?_ hgrow (by simp;try omega) (fun k hk=>by simp [Value.ownBlock] at hk;omega)
    exact (by repeat (first|exact Below.refl _ _|refine Below.setCell ?_ (by simp;try omega) _|refine Below.alloc ?_ (by simp;try omega) _|refine Below.drew ?_))
  have O1:Hid (w1.ownsRow (W.heap.size+1+1+1) 9 1 (.slice ai ni capi) ni xi):=hown
  have hc5:=cell_of_row w1 W.heap.size 5 _ _ _ hbc
  have d0:=cell_of_row w1 (W.heap.size+1+1) 0 _ _ _ hbd
  have e0:=frozen_of_row w1 (W.heap.size+1+1) 0 _ _ hbd
  have d1:=cell_of_row w1 (W.heap.size+1+1) 1 _ _ _ hbd
  have e1:=frozen_of_row w1 (W.heap.size+1+1) 1 _ _ hbd
  have d2:=cell_of_row w1 (W.heap.size+1+1) 2 _ _ _ hbd
  have e2:=frozen_of_row w1 (W.heap.size+1+1) 2 _ _ hbd
  have d3:=cell_of_row w1 (W.heap.size+1+1) 3 _ _ _ hbd
  have e3:=frozen_of_row w1 (W.heap.size+1+1) 3 _ _ hbd
  have d4:=cell_of_row w1 (W.heap.size+1+1) 4 _ _ _ hbd
  have e4:=frozen_of_row w1 (W.heap.size+1+1) 4 _ _ hbd
  have d5:=cell_of_row w1 (W.heap.size+1+1) 5 _ _ _ hbd
  have e5:=frozen_of_row w1 (W.heap.size+1+1) 5 _ _ hbd
  simp only [List.getElem?_toArray,List.getElem?_cons_zero,List.getElem?_cons_succ] at hc5 d0 d1 d2 d3 d4 d5
  have HBC:Hid _:=hbc
  have HBR:Hid _:=hbr
  have HBD:Hid _:=hbd
  clear hown hgrow ob hbc hbr hbd HI HI1
  obtain ⟨iM,hiM,hzM,hsM,hbM⟩:=info_parts Tryz.hinfo58
  have hmk:∀ w:World,(Instr.makeSlice 27 (.int .i64 (M:Int)) (.int .i64 (M:Int))).run Tryz.prog w=.ok (.slice (some ⟨w.heap.size,0,none⟩) M M) (w.alloc (.cells (madeCells (Value.agg #[.string ⟨#[]⟩,.string ⟨#[]⟩,.int .i64 0,.int .i64 0,.int .i64 0,.slice none 0 0]).cells (M * 6)) 127)):=fun w=>by
    have:=run_make w (P:=Tryz.prog) 27 127 iM _ Tryz.underlying27 hiM hzM .i64 .i64 (M:Int) (M:Int) (by omega) (Int.le_refl _) (by rw [hbM];omega) (by omega)
    rw [hsM,Int.toNat_natCast] at this
    exact this
  have hn2:¬ W.heap.size+1+1=w1.heap.size:=by omega
  have hl2:W.heap.size+1+1<w1.heap.size:=by omega
  have hn0:¬ W.heap.size=w1.heap.size:=by omega
  have hz:=made_flat M
  have HZ:Hid _:=hz
  generalize madeCells (Value.agg #[.string ⟨#[]⟩,.string ⟨#[]⟩,.int .i64 0,.int .i64 0,.int .i64 0,.slice none 0 0]).cells (M * 6)=ZC at *
  have hl1:W.heap.size+1<w1.heap.size:=by omega
  have hl0:W.heap.size<w1.heap.size:=by omega
  have HR0:Hid (CpR W (((w1.setCell ⟨W.heap.size+1+1,2,none⟩ (.slice ai ni capi)).setCell ⟨W.heap.size+1+1,5,none⟩ (.slice (some ⟨w1.heap.size,0,none⟩) M M)).alloc (.cells ZC 127)) nm su fl ld ai0 am0 ai ni ci0 capi M cm0 w1.heap.size xi pm (List.replicate M hm0) 0):=by
    have hne0:W.heap.size≠W.heap.size+1+1:=by omega
    have hne1:W.heap.size+1≠W.heap.size+1+1:=by omega
    have hd1:=heap_setCell_same w1 (W.heap.size+1+1) 2 _ 29 (.slice ai ni capi) HBD.out
    have hd2:=heap_setCell_same _ (W.heap.size+1+1) 5 _ 29 (.slice (some ⟨w1.heap.size,0,none⟩) M M) hd1
    have szs:((w1.setCell ⟨W.heap.size+1+1,2,none⟩ (.slice ai ni capi)).setCell ⟨W.heap.size+1+1,5,none⟩ (.slice (some ⟨w1.heap.size,0,none⟩) M M)).heap.size=w1.heap.size:=by simp
    refine ⟨?_,?_,?_,?_,by simp,?_,fun j hj=>absurd hj (Nat.not_lt_zero _),fun j p _ hj=>absurd hj (Nat.not_lt_zero _),?_⟩
    · exact (Below.heap_alloc _ _ _ (by rw [szs];exact hl0)).trans ((heap_setCell_other _ _ _ _ hne0).trans ((heap_setCell_other _ _ _ _ hne0).trans HBC.out))
    · exact (Below.heap_alloc _ _ _ (by rw [szs];exact hl1)).trans ((heap_setCell_other _ _ _ _ hne1).trans ((heap_setCell_other _ _ _ _ hne1).trans HBR.out))
    · exact (Below.heap_alloc _ _ _ (by rw [szs];exact hl2)).trans (hd2.trans rfl)
    · exact (ownsRow_setCell_below (a:=⟨W.heap.size+1+1,5,none⟩) (ownsRow_setCell_below (a:=⟨W.heap.size+1+1,2,none⟩) O1.out (by simp) _) (by simp) _).alloc _
    · have h:=World.ownsRow_lit (base:=W.heap.size+1+1+1) (e:=127) (size:=6) ((w1.setCell ⟨W.heap.size+1+1,2,none⟩ (.slice ai ni capi)).setCell ⟨W.heap.size+1+1,5,none⟩ (.slice (some ⟨w1.heap.size,0,none⟩) M M)) ZC M (by rw [szs];omega) (by unfold maxLen;omega) (by have:=congrArg List.length HZ.out;rw [flatH_length] at this;simpa using this)
      rw [szs,HZ.out] at h
      exact h
    · exact (((B1.out.setCell (p:=⟨W.heap.size+1+1,2,none⟩) (show W.heap.size≤W.heap.size+1+1 by omega) _).setCell (p:=⟨W.heap.size+1+1,5,none⟩) (show W.heap.size≤W.heap.size+1+1 by omega) _).alloc (by rw [szs];omega) _)
  go_wp2
  clear d0 d1 d2 d3 d4 d5 e0 e1 e2 e3 e4 e5 HBC HBR HBD O1 hc5 hmk HZ hz
  go_loopw [4] (fun kv wr=>∃ (k:Nat) (qm:List (HM×Value)),kv=.int .i64 k∧k≤M∧Hid (CpR W wr nm su fl ld ai0 am0 ai ni ci0 capi M cm0 w1.heap.size xi pm qm k)) (fun kv _=>M - (intOf kv).toNat)
  case atStart=>exact ⟨0,_,rfl,Nat.zero_le _,HR0⟩
  case round =>
    obtain ⟨k,qm,rfl,hk,hR⟩:=hrel
    clear HR0
    have c5:=cell_of_row wr W.heap.size 5 _ _ _ hR.out.bc
    have d5:=cell_of_row wr (W.heap.size+1+1) 5 _ _ _ hR.out.bd
    simp only [List.getElem?_toArray,List.getElem?_cons_zero,List.getElem?_cons_succ] at c5 d5
    generalize w1.heap.size=g at *
    by_cases hlt:k<M
    · obtain ⟨⟨m,u⟩,hku⟩:∃ p,pm[k]?=some p:=⟨_,List.getElem?_eq_getElem (by rw [HML.out];exact hlt)⟩
      have hmem:=List.mem_of_getElem? hku
      obtain ⟨hcr,hc1,hcn⟩:=HC.out _ hmem
      simp only at hcr hc1 hcn
      obtain ⟨ua,uc,hu⟩:=hcr.slice
      subst hu
      obtain ⟨bk,o,rfl,hbk,hcell⟩:∃ bk o,am0=some ⟨bk,o,none⟩∧bk<W.heap.size∧∀ j,j<6→W.cell? ⟨bk,o+k * 6+j,none⟩=(hmC (m,.slice ua m.n uc))[j]?:=by
        rcases HM'.out with h|⟨e,_⟩
        · rcases h.val with ⟨_,e⟩|⟨bk,o,cap,e,_,_,h3,h4⟩
          · rw [HML.out] at e;omega
          · simp only [Value.slice.injEq] at e
            refine ⟨bk,o,e.1,h3,fun j hj=>?_⟩
            have:=flatH_at pm k _ hku j hj
            have hs:∃ z,(hmC (m,.slice ua m.n uc))[j]?=some z:=⟨_,List.getElem?_eq_getElem (by simp [hmC];omega)⟩
            obtain ⟨z,hz⟩:=hs
            rw [hz,Nat.add_assoc]
            exact h4 _ z (this.trans hz)
        · rw [HML.out] at e;omega
      have q0:wr.cell? ⟨bk,o+k * 6,none⟩=some (.string m.nm):=(hR.out.below.cell (p:=⟨bk,o+k * 6,none⟩) hbk).trans (hcell 0 (by omega))
      have q1:wr.cell? ⟨bk,o+k * 6+1,none⟩=some (.string m.ds):=(hR.out.below.cell (p:=⟨bk,o+k * 6+1,none⟩) hbk).trans (hcell 1 (by omega))
      have q2:wr.cell? ⟨bk,o+k * 6+2,none⟩=some (.int .i64 m.fl):=(hR.out.below.cell (p:=⟨bk,o+k * 6+2,none⟩) hbk).trans (hcell 2 (by omega))
      have q3:wr.cell? ⟨bk,o+k * 6+3,none⟩=some (.int .i64 m.lo):=(hR.out.below.cell (p:=⟨bk,o+k * 6+3,none⟩) hbk).trans (hcell 3 (by omega))
      have q4:wr.cell? ⟨bk,o+k * 6+4,none⟩=some (.int .i64 m.st):=(hR.out.below.cell (p:=⟨bk,o+k * 6+4,none⟩) hbk).trans (hcell 4 (by omega))
      have q5:wr.cell? ⟨bk,o+k * 6+5,none⟩=some (.slice ua m.n uc):=(hR.out.below.cell (p:=⟨bk,o+k * 6+5,none⟩) hbk).trans (hcell 5 (by omega))
      obtain ⟨hgN,hglt⟩:=hR.out.ms.lt g rfl
      obtain ⟨⟨m',u'⟩,hqk⟩:∃ p,qm[k]?=some p:=⟨_,List.getElem?_eq_getElem (by rw [hR.out.len];exact hlt)⟩
      have hat:=fun j hj=>(hR.out.ms.cellAt (k * 6+j) (by omega)).trans (flatH_at qm k _ hqk j hj)
      have t0:wr.cell? ⟨g,k * 6,none⟩=some (.string m'.nm):=hat 0 (by omega)
      have t1:wr.cell? ⟨g,k * 6+1,none⟩=some (.string m'.ds):=hat 1 (by omega)
      have t2:wr.cell? ⟨g,k * 6+2,none⟩=some (.int .i64 m'.fl):=hat 2 (by omega)
      have t3:wr.cell? ⟨g,k * 6+3,none⟩=some (.int .i64 m'.lo):=hat 3 (by omega)
      have t4:wr.cell? ⟨g,k * 6+4,none⟩=some (.int .i64 m'.st):=hat 4 (by omega)
      have t5:wr.cell? ⟨g,k * 6+5,none⟩=some u':=hat 5 (by omega)
      have f0:=hR.out.ms.frozenAt (k * 6)
      have f1:=hR.out.ms.frozenAt (k * 6+1)
      have f2:=hR.out.ms.frozenAt (k * 6+2)
      have f3:=hR.out.ms.frozenAt (k * 6+3)
      have f4:=hR.out.ms.frozenAt (k * 6+4)
      have f5:=hR.out.ms.frozenAt (k * 6+5)
      have hkI:(k:Int)<(M:Int):=by omega
      have hnc:¬ W.heap.size=g:=by omega
      have hnd:¬ W.heap.size+1+1=g:=by omega
      have hnb:¬ bk=g:=by have:=hbk;omega
      clear hcell hat hmem
      go_wp2
      go_region
      have hR2:=hR.out.put hlt m (.slice ua m.n uc)
      generalize ((((((wr.setCell ⟨g,k * 6,none⟩ (.string m.nm)).setCell ⟨g,k * 6+1,none⟩ (.string m.ds)).setCell ⟨g,k * 6+2,none⟩ (.int .i64 m.fl)).setCell ⟨g,k * 6+3,none⟩ (.int .i64 m.lo)).setCell ⟨g,k * 6+4,none⟩ (.int .i64 m.st)).setCell ⟨g,k * 6+5,none⟩ (.slice ua m.n uc)).drew=W2 at *
      have HR2:Hid (CpR W W2 nm su fl ld ai0 (some ⟨bk,o,none⟩) ai ni ci0 capi M cm0 g xi pm (qm.set k (m,.slice ua m.n uc)) k):=hR2
      have hq2:(qm.set k (m,Value.slice ua m.n uc))[k]?=some (m,.slice ua m.n uc):=List.getElem?_set_self (by rw [hR.out.len];exact hlt)
      have c5':=cell_of_row W2 W.heap.size 5 _ _ _ hR2.bc
      have d5':=cell_of_row W2 (W.heap.size+1+1) 5 _ _ _ hR2.bd
      simp only [List.getElem?_toArray,List.getElem?_cons_zero,List.getElem?_cons_succ] at c5' d5'
      have q5':W2.cell? ⟨bk,o+k * 6+5,none⟩=some (.slice ua m.n uc):=(hR2.below.cell (p:=⟨bk,o+k * 6+5,none⟩) hbk).trans ((hR.out.below.cell (p:=⟨bk,o+k * 6+5,none⟩) hbk).symm.trans q5)
      obtain ⟨hgN2,hglt2⟩:=hR2.ms.lt g rfl
      have HQ2:Hid ((qm.set k (m,Value.slice ua m.n uc))[k]?=some (m,.slice ua m.n uc)):=hq2
      have hb2:W.heap.size+1+1+1≤W2.heap.size:=by omega
      have hbk2:bk<W2.heap.size:=by omega
      have hld2:W.heap.size+1+1<W2.heap.size:=by omega
      have hlc2:W.heap.size<W2.heap.size:=by omega
      obtain ⟨iI,hiI,hzI,hsI,hbI⟩:=info_parts Tryz.hinfo81
      have HCR:Hid (∀ w:World,Below W2.heap.size W2 w→Rdw w (.slice ua m.n uc) m.n 7 m.xs):=fun w hb=>hcr.keep (bstep HR2.out.below hb)
      have HC1:Hid (∀ u∈m.xs,u.oneCell'=true):=hc1
      have HKU:Hid (pm[k]?=some (m,.slice ua m.n uc)):=hku
      clear hq2 hR2 q0 q1 q2 q3 q4 q5 t0 t1 t2 t3 t4 t5 f0 f1 f2 f3 f4 f5 c5 d5 hqk hcr hc1 hku hR HM'
      go_wp2
      go_region_law
        (first
          | (refine step_append_rdw rfl (.tmp 35) (.tmp 41) 125 rfl (W.heap.size+1+1+1) 171 iI _ 7 _ Tryz.underlying125 hiI hzI hsI hbI rfl (by decide) (.slice (some ⟨W2.heap.size,0,none⟩) 0 0) 0 [] (by simp [Act.eval]) ((own_empty W2 _ rfl _ _ _ hb2).drew) (.slice ua m.n uc) m.n m.xs (by simp [Act.eval]) (HCR.out _ ((Below.refl _ W2).alloc (Nat.le_refl _) _).drew) HC1.out (by unfold maxLen;omega) (by omega) (by simp;omega) ?_;intro v' w5 hown hgrow;obtain ⟨ac,cc,rfl⟩:=ownv hown;simp only [Nat.zero_add,List.nil_append] at hown ⊢;have B5:Hid (Below W2.heap.size W2 w5):=(Below.grown (w:=_) ((Below.refl _ W2).alloc (Nat.le_refl _) _).drew hgrow (by simp) (fun k hk=>by simp [Value.ownBlock] at hk;omega));have O5:Hid (w5.ownsRow (W.heap.size+1+1+1) 171 7 (.slice ac m.n cc) m.n m.xs):=hown;have y5:w5.cell? ⟨W.heap.size+1+1,5,none⟩=some (.slice (some ⟨g,0,none⟩) M M):=(B5.out.cell (p:=⟨W.heap.size+1+1,5,none⟩) hld2).trans d5';have x5:w5.cell? ⟨g,k * 6+5,none⟩=some (.slice ua m.n uc):=(B5.out.cell (p:=⟨g,k * 6+5,none⟩) hglt2).trans ((HR2.out.ms.cellAt (k * 6+5) (by omega)).trans (flatH_at _ k _ HQ2.out 5 (by omega)));have z5:w5.frozen? ⟨g,k * 6+5,none⟩=false:=(rowBelow HR2.out.ms B5.out).frozenAt (k * 6+5);clear hown hgrow))
      all_goals
        go_wp2
        go_roundw
        case rel=>exact ⟨k+1,_,by go_num,by omega,HR2.out.next HQ2.out HKU.out B5.out O5.out⟩
        case measure=>simp [intOf];omega
    · have h1:=hR.out.br
      have h2:=hR.out.bd
      have d0:=cell_of_row wr (W.heap.size+1) 0 _ _ _ h1
      have e0:=frozen_of_row wr (W.heap.size+1) 0 _ _ h1
      have g0:=cell_of_row wr (W.heap.size+1+1) 0 _ _ _ h2
      have d1:=cell_of_row wr (W.heap.size+1) 1 _ _ _ h1
      have e1:=frozen_of_row wr (W.heap.size+1) 1 _ _ h1
      have g1:=cell_of_row wr (W.heap.size+1+1) 1 _ _ _ h2
      have d2:=cell_of_row wr (W.heap.size+1) 2 _ _ _ h1
      have e2:=frozen_of_row wr (W.heap.size+1) 2 _ _ h1
      have g2:=cell_of_row wr (W.heap.size+1+1) 2 _ _ _ h2
      have d3:=cell_of_row wr (W.heap.size+1) 3 _ _ _ h1
      have e3:=frozen_of_row wr (W.heap.size+1) 3 _ _ h1
      have g3:=cell_of_row wr (W.heap.size+1+1) 3 _ _ _ h2
      have d4:=cell_of_row wr (W.heap.size+1) 4 _ _ _ h1
      have e4:=frozen_of_row wr (W.heap.size+1) 4 _ _ h1
      have g4:=cell_of_row wr (W.heap.size+1+1) 4 _ _ _ h2
      have d5:=cell_of_row wr (W.heap.size+1) 5 _ _ _ h1
      have e5:=frozen_of_row wr (W.heap.size+1) 5 _ _ h1
      have g5:=cell_of_row wr (W.heap.size+1+1) 5 _ _ _ h2
      simp only [List.getElem?_toArray,List.getElem?_cons_zero,List.getElem?_cons_succ] at d0 d1 d2 d3 d4 d5 g0 g1 g2 g3 g4 g5
      have hkk:¬ (k:Int)<(M:Int):=by omega
      have hne:¬ W.heap.size+1+1=W.heap.size+1:=by omega
      have hkM:k=M:=by omega
      clear h1 h2
      go_wp2
      have hR6:=hR.out
      refine bodyPost_ret (v:=.agg #[.string nm,.string su,.slice ai ni capi,.int .i64 fl,.int .i64 ld,.slice (some ⟨g,0,none⟩) M M]) (by simp [results,Tryz.results23,go_sem, *]) rfl ⟨_,_,rfl,qm,⟨?_,?_,?_⟩,?_,?_⟩
      · refine Go.Joins.ownsRow_le (base:=W.heap.size+1+1+1) ?_ (by omega)
        repeat (refine ownsRow_setCell_below ?_ (by simp) _)
        exact hR6.ifs
      · refine Go.Joins.ownsRow_le (base:=W.heap.size+1+1+1) ?_ (by omega)
        repeat (refine ownsRow_setCell_below ?_ (by simp) _)
        rw [hR6.len]
        exact hR6.ms
      · intro p hp
        obtain ⟨j,hj⟩:=List.getElem?_of_mem hp
        have hjl:=(List.getElem?_eq_some_iff.1 hj).1
        rw [hR6.len] at hjl
        refine Go.Joins.ownsRow_le (base:=W.heap.size+1+1+1) ?_ (by omega)
        repeat (refine ownsRow_setCell_below ?_ (by simp) _)
        exact hR6.old j p hj (by omega)
      · refine List.ext_getElem? fun j=>?_
        rw [List.getElem?_map,List.getElem?_map]
        by_cases hj:j<M
        · exact hR6.eq j (by omega)
        · rw [List.getElem?_eq_none (by rw [hR6.len];omega),List.getElem?_eq_none (by rw [HML.out];omega)]
      · repeat (refine Below.setCell ?_ (by simp) _)
        exact hR6.below
def NmW (ps:List Plc):Prop:=∀ k q,ps[k]?=some q→lookL ps (nameL q)=some k∧validL (nameL q)=true
theorem cls_name {c:Cls} (h:clsB c=true):validL c.nm.data.toList=true:=by
  unfold clsB at h
  simp only [Bool.and_eq_true] at h
  exact h.1.1.1.1.1.1.1.1.1
theorem nmW (l:List Cls) (hl:∀ c∈l,ClsW c):NmW (wld l):=by
  refine wld_ind (P:=NmW) (fun k q hk=>?_) (fun ps c h hc=>?_) l hl
  · match k,hk with
    | 0,hk=>simp [P3] at hk;subst hk;exact ⟨by decide,by decide⟩
    | 1,hk=>simp [P3] at hk;subst hk;exact ⟨by decide,by decide⟩
    | 2,hk=>simp [P3] at hk;subst hk;exact ⟨by decide,by decide⟩
    | (k+3),hk=>simp [P3] at hk
  · cases hd:defN ps c with
    | error e=>exact h
    | ok p =>
      obtain ⟨h1,_,hn,s,l,_,_,rfl⟩:=def_ok hd
      intro k q hk
      have hk2:(ps++[(⟨hcOf c,s,gathL (ps.map Plc.cl) s l⟩:Plc)])[k]?=some q:=hk
      show lookL (ps++[_]) (nameL q)=some k∧_
      by_cases hlt:k<ps.length
      · rw [List.getElem?_append_left hlt] at hk2
        obtain ⟨h2,h3⟩:=h k q hk2
        exact ⟨look_snoc h2 hn,h3⟩
      · rw [List.getElem?_append_right (by omega)] at hk2
        have he:k - ps.length=0:=by
          have:=(List.getElem?_eq_some_iff.1 hk2).1
          simp at this;omega
        rw [he] at hk2
        simp at hk2
        subst hk2
        refine ⟨?_,cls_name h1⟩
        rw [lookL,lookF_snoc,if_pos rfl]
        congr 1;omega
def ClsZ (c:Cls):Prop:=c.ifs.length≤8796093022208∧c.ms.length≤1759218604390∧∀ m∈c.ms,m.code.length≤1599289640354
theorem own_shp {w:World} {N e s:Nat} {v:Value} {n:Nat} {xs:List Value} (h:w.ownsRow N e s v n xs):Shp v:=by
  rcases h.2 with ⟨rfl,_⟩|⟨g,cap,cur,rfl,_⟩
  · exact .inl rfl
  · exact .inr ⟨_,_,_,rfl⟩
theorem copy_in {w:World} {N:Nat} {c:Cls} {vi vm:Value} {qm:List (HM×Value)} (ho:OwnC w N vi c.ifs.length (strsV c.ifs) vm qm) (hq:qm.map Prod.fst=c.ms.map hmOf) (hw:ClsW c):ClsIn w vi vm c:=by
  refine ⟨rds_strs (own_rds ho.ifs),own_mths ho hq,own_shp ho.ifs,own_shp ho.ms,fun bk o n cap e k hk v hv=>?_,hw⟩
  have hlen:qm.length=c.ms.length:=by have:=congrArg List.length hq;simpa using this
  obtain ⟨p,hp⟩:∃ p,qm[k]?=some p:=⟨_,List.getElem?_eq_getElem (by omega)⟩
  rcases (own_rds ho.ms).val with ⟨e1,e2⟩|⟨bk',o',cap',e1,h1,h2,h3,h4⟩
  · rw [e1] at e;cases e
  · have e3:=e1.symm.trans e
    injection e3 with e4
    injection e4 with e5
    injection e5 with e6 e7
    subst e6 e7
    have h5:=h4 (k * 6+5) p.2 ((flatH_at qm k p hp 5 (by omega)).trans rfl)
    rw [← Nat.add_assoc,hv] at h5
    rw [Option.some.inj h5]
    exact own_shp (ho.cod p (List.mem_of_getElem? hp))
theorem copy_call (c:Cls) (vi vm:Value) (W:World) (hc:ClsIn W vi vm c) (hz:ClsZ c):Calls Tryz.prog 23 #[.agg #[.string c.nm,.string c.su,vi,.int .i64 c.fl,.int .i64 c.ld,vm]] W fun e w'=>(∃ vi' vm',e=.returned (.agg #[.string c.nm,.string c.su,vi',.int .i64 c.fl,.int .i64 c.ld,vm'])∧ClsIn w' vi' vm' c)∧Below W.heap.size W w':=by
  obtain ⟨r1,pm,r2,r3,r4⟩:=hc.rdw
  have hlen:pm.length=c.ms.length:=by
    have:=congrArg List.length r2
    simpa [hcOf] using this
  refine (rCopy_any c.nm c.su c.fl c.ld vi vm c.ifs.length (strsV c.ifs) pm W r1 (strs_one _) hz.1 r3 (by rw [hlen];exact hz.2.1) (fun p hp=>⟨r4 p hp,?_⟩)).mono ?_
  · have hp1:p.1∈(hcOf c).ms:=by rw [← r2];exact List.mem_map_of_mem hp
    obtain ⟨m,hm,e⟩:=List.mem_map.1 hp1
    rw [← e]
    exact ⟨flatI_one _,hz.2.2 m hm⟩
  · rintro e w' ⟨vi',vm',qm,rfl,ho,hq,hb⟩
    exact ⟨⟨vi',vm',rfl,copy_in ho (hq.trans r2) hc.ok⟩,hb⟩
theorem clss_keep {w w':World} {v:Value} {l:List Cls} (h:IsClss w v l) (hb:Below w.heap.size w w'):IsClss w' v l:=by
  obtain ⟨ao,cap,rfl,h1,h2,h3⟩:=h
  refine ⟨ao,cap,rfl,h1,h2,fun hne=>?_⟩
  obtain ⟨bk,o,e,hlt,hc⟩:=h3 hne
  refine ⟨bk,o,e,Nat.lt_of_lt_of_le hlt hb.size,fun k c hk=>?_⟩
  obtain ⟨vi,vm,h4,h5⟩:=hc k c hk
  exact ⟨vi,vm,fun j u hj=>(hb.cell hlt).trans (h4 j u hj),h5.keep hb⟩
def clsA:Cls:=⟨⟨#[65]⟩,⟨#[79,98,106,101,99,116]⟩,[],1,0,[]⟩
theorem defA:dfV P3.length (defN P3 clsA)=.tuple #[.int .i64 3,.int .i64 0]:=by kernel_rfl
theorem extA:extI P3 2 0=true:=by kernel_rfl
theorem clsA_in (w:World):ClsIn w (.slice none 0 0) (.slice none 0 0) clsA :=
  ⟨⟨none,0,rfl,Nat.le_refl _,by unfold maxLen;omega,fun h=>absurd rfl h⟩,⟨none,0,rfl,Nat.le_refl _,by unfold maxLen;omega,fun h=>absurd rfl h⟩,.inl rfl,.inl rfl,(fun _ _ _ _ h=>by cases h),⟨by unfold maxLen;decide,by unfold maxLen;decide,(fun p hp=>by cases hp),by decide,by decide,(fun m hm=>by cases hm)⟩⟩
set_option maxHeartbeats 4000000 in
theorem awakeT_n (W:World) (HN:Hid (∀ w:World,Calls Tryz.prog 20 #[] w fun e w'=>∃ b,e=.returned (.pointer (some ⟨b,0,none⟩))∧(∃ vp pv,HW w' w.heap.size b w.heap.size P3 vp pv)∧Below w.heap.size w w'))
    (HL:Hid (∀ b w,WAt b P3 w→Calls Tryz.prog 21 #[.pointer (some ⟨b,0,none⟩)] w fun e w'=>e=.returned (.int .i64 3)∧w'=w))
    (HX:Hid (∀ b w,WAt b P3 w→Calls Tryz.prog 9 #[.pointer (some ⟨b,0,none⟩),.int .i64 2,.int .i64 0] w fun e w'=>e=.returned (.bool true)∧Below w.heap.size w w'))
    (HD:Hid (∀ N b w,N≤w.heap.size→(∃ vp pv,HW w N b N P3 vp pv)→Calls Tryz.prog 22 #[.pointer (some ⟨b,0,none⟩),.agg #[.string ⟨#[65]⟩,.string ⟨#[79,98,106,101,99,116]⟩,.slice none 0 0,.int .i64 1,.int .i64 0,.slice none 0 0]] w fun e w'=>e=.returned (.tuple #[.int .i64 3,.int .i64 0])∧Below N w w')):Calls Tryz.prog 5 #[] W fun e w'=>e=.returned (.bool true)∧Below W.heap.size W w':=by
  go_enter Tryz.func5,Tryz.ntmps5
  go_wp2_with (first
    | (go_at_call 20;refine (HN.out _).mono ?_;rintro e w1 ⟨b,rfl,hw,hb⟩;have H1:Hid (∃ vp pv,HW w1 W.heap.size b W.heap.size P3 vp pv):=hw;have H2:Hid (WAt b P3 w1):=(by obtain ⟨vp,pv,hw⟩:=hw;exact hw.wat);have B1:Hid (Below W.heap.size W w1):=hb;clear hw hb HN)
    | (go_at_call 21;refine (HL.out _ _ H2.out).mono ?_;rintro e w9 ⟨rfl,hw9⟩;rw [hw9];clear hw9 w9 HL)
    | (go_at_call 9;refine (HX.out _ _ H2.out).mono ?_;rintro e w2 ⟨rfl,hb⟩;have H3:Hid (∃ vp pv,HW w2 W.heap.size b W.heap.size P3 vp pv):=(by obtain ⟨vp,pv,hw⟩:=H1.out;exact ⟨vp,pv,hw.below hb⟩);have B2:Hid (Below W.heap.size W w2):=bstep B1.out hb;clear hb HX H1 H2)
    | (go_at_call 22;refine (HD.out _ _ _ B2.out.size H3.out).mono ?_;rintro e w3 ⟨rfl,hb⟩;have B3:Hid (Below W.heap.size W w3):=B2.out.trans hb;clear hb HD H3))
  all_goals go_ret
  all_goals exact ⟨retB (by simp),B3.out⟩
theorem awakeT_c (W:World):Calls Tryz.prog 5 #[] W fun e w'=>e=.returned (.bool true)∧Below W.heap.size W w' :=
  awakeT_n W (fun w=>(new_any w).mono fun e w' zz=>⟨_,zz.1,zz.2.1,zz.2.2⟩) (fun b w hw=>len_c hw) (fun b w hw=>(extends_c hw wi3 2 0).mono fun e w' zz=>⟨by rw [zz.1,extA],zz.2⟩) (fun N b w hN hw=>by
    obtain ⟨vp,pv,hw⟩:=hw
    exact (define_any N b N P3 vp pv clsA _ _ w hw hN (clsA_in w) wi3.nm).mono fun e w' zz=>⟨by rw [zz.1,defA],zz.2.2.1⟩)
set_option maxHeartbeats 4000000 in
theorem builtT_c (v:Value) (l:List Cls) (W:World) (h:IsClss W v l) (hz:∀ c∈l,ClsZ c):Calls Tryz.prog 6 #[v] W fun e w'=>(∃ b,e=.returned (.pointer (some ⟨b,0,none⟩))∧WAt b (wld l) w')∧Below W.heap.size W w':=by
  have hCW:=clss_w h
  have HZ:Hid (∀ c∈l,ClsZ c):=hz
  clear hz
  obtain ⟨ao,cap,rfl,h1,h2,h3⟩:=h
  unfold maxLen at h2
  obtain ⟨L,hL⟩:∃ L,l.length=L:=⟨_,rfl⟩
  have HL:Hid (l.length=L):=hL
  have HI:Hid _:=h3
  have HCW:Hid (∀ c∈l,ClsW c):=hCW
  rw [hL] at h1 ⊢
  clear hL h3 hCW
  have HN:Hid (∀ w:World,Calls Tryz.prog 20 #[] w fun e w'=>e=.returned (.pointer (some ⟨w.heap.size+1,0,none⟩))∧(∃ vp pv,HW w' w.heap.size (w.heap.size+1) w.heap.size P3 vp pv)∧Below w.heap.size w w'):=new_any
  go_enter Tryz.func6,Tryz.ntmps6
  go_wp2_with (first
    | (go_at_call 20;refine (HN.out _).mono ?_;rintro e w2 ⟨rfl,hw,hb⟩;have H2:Hid (∃ vp pv,HW w2 W.heap.size (W.heap.size+1) W.heap.size P3 vp pv):=hw;have B2:Hid (Below W.heap.size W w2):=hb;clear hb hw HN))
  go_loopw [4] (fun iv wr=>∃ (i:Nat),iv=.int .i64 i∧i≤L∧Hid (∃ vp pv,HW wr W.heap.size (W.heap.size+1) W.heap.size (wld (l.take i)) vp pv)∧Hid (Below W.heap.size W wr)) (fun iv _=>L - (intOf iv).toNat)
  case atStart=>exact ⟨0,rfl,Nat.zero_le _,H2,B2⟩
  case round =>
    clear H2 B2
    obtain ⟨i,rfl,hi,hHW,hB⟩:=hrel
    by_cases hlt:i<L
    · obtain ⟨c,hc⟩:∃ c,l[i]?=some c:=⟨_,List.getElem?_eq_getElem (by rw [HL.out];exact hlt)⟩
      obtain ⟨bk,o,rfl,hbk,hcl⟩:=HI.out (fun e=>by rw [e] at hc;simp at hc)
      obtain ⟨vi,vm,hcell,hin⟩:=hcl i c hc
      have bel:Below W.heap.size W wr:=hB.out
      have p0:wr.cell? ⟨bk,o+i * 6,none⟩=some (.string c.nm):=(bel.cell (p:=⟨bk,o+i * 6,none⟩) hbk).trans (hcell 0 _ rfl)
      have p1:wr.cell? ⟨bk,o+i * 6+1,none⟩=some (.string c.su):=(bel.cell (p:=⟨bk,o+i * 6+1,none⟩) hbk).trans (hcell 1 _ rfl)
      have p2:wr.cell? ⟨bk,o+i * 6+2,none⟩=some vi:=(bel.cell (p:=⟨bk,o+i * 6+2,none⟩) hbk).trans (hcell 2 _ rfl)
      have p3:wr.cell? ⟨bk,o+i * 6+3,none⟩=some (.int .i64 c.fl):=(bel.cell (p:=⟨bk,o+i * 6+3,none⟩) hbk).trans (hcell 3 _ rfl)
      have p4:wr.cell? ⟨bk,o+i * 6+4,none⟩=some (.int .i64 c.ld):=(bel.cell (p:=⟨bk,o+i * 6+4,none⟩) hbk).trans (hcell 4 _ rfl)
      have p5:wr.cell? ⟨bk,o+i * 6+5,none⟩=some vm:=(bel.cell (p:=⟨bk,o+i * 6+5,none⟩) hbk).trans (hcell 5 _ rfl)
      have hWI:WI (wld (l.take i)):=wld_wi _ (fun c hc=>HCW.out c (List.mem_of_mem_take hc))
      have hmem:c∈l:=List.mem_of_getElem? hc
      have HC:Hid (Calls Tryz.prog 23 #[.agg #[.string c.nm,.string c.su,vi,.int .i64 c.fl,.int .i64 c.ld,vm]] wr fun e w'=>(∃ vi' vm',e=.returned (.agg #[.string c.nm,.string c.su,vi',.int .i64 c.fl,.int .i64 c.ld,vm'])∧ClsIn w' vi' vm' c)∧Below wr.heap.size wr w'):=copy_call c vi vm wr (hin.keep bel) (HZ.out c hmem)
      have HD:Hid (∀ (w:World) (vi' vm':Value),Below wr.heap.size wr w→ClsIn w vi' vm' c→Calls Tryz.prog 22 #[.pointer (some ⟨W.heap.size+1,0,none⟩),.agg #[.string c.nm,.string c.su,vi',.int .i64 c.fl,.int .i64 c.ld,vm']] w fun e w'=>(∃ u,e=.returned u)∧Hid (∃ vp pv,HW w' W.heap.size (W.heap.size+1) W.heap.size (wld (l.take (i+1))) vp pv)∧Hid (Below W.heap.size W w')):=by
        intro w vi' vm' hb hci
        obtain ⟨vp,pv,hw⟩:=hHW.out
        refine (define_any W.heap.size (W.heap.size+1) W.heap.size _ vp pv c vi' vm' w (hw.below hb) (Nat.le_trans hB.out.size hb.size) hci hWI.nm).mono ?_
        rintro e w' ⟨rfl,hw',hb',_⟩
        rw [wld_at hc]
        exact ⟨⟨_,rfl⟩,hw',(bstep hB.out hb).trans hb'⟩
      clear hcl hcell hin hc bel hWI hHW hB HI
      go_wp2_with (first
        | (go_at_call 23;refine HC.out.mono ?_;rintro e w4 ⟨⟨vi4,vm4,rfl,hci⟩,hb4⟩;have CI:Hid (ClsIn w4 vi4 vm4 c):=hci;have B4:Hid (Below wr.heap.size wr w4):=hb4;clear hci hb4 HC)
        | (go_at_call 22;refine (HD.out _ _ _ B4.out CI.out).mono ?_;rintro e w3 ⟨⟨u3,rfl⟩,hw3,hb3⟩;clear HD))
      go_roundw
      case rel=>exact ⟨i+1,by go_num,by omega,hw3,hb3⟩
      case measure=>simp [intOf];omega
    · have e:i=L:=by omega
      subst e
      have HF:Hid (WAt (W.heap.size+1) (wld l) wr):=by
        obtain ⟨vp,pv,hw⟩:=hHW.out
        rw [List.take_of_length_le (by rw [HL.out];exact Nat.le_refl _)] at hw
        exact hw.wat
      clear hHW HI
      go_wp2
      exact bodyPost_ret (results_tmp rfl _ _ _) rfl ⟨⟨_,rfl,HF.out⟩,hB.out⟩
theorem cand_mem {ps:List Plc} {nm ds:ByteArray} {cl:List Nat} {m:Int×Int} (h:m∈candL ps nm ds cl):∃ i∈cl,m.1=(i:Int)∧fndI ps i nm ds=(m.2,0)∧hasS ps i m.2 10=false:=by
  rw [candL,List.mem_flatMap] at h
  obtain ⟨i,hi,hm⟩:=h
  rw [cand1] at hm
  split at hm
  next hc =>
    simp only [List.mem_singleton] at hm
    subst hm
    exact ⟨i,hi,rfl,Prod.ext rfl hc.1,hc.2⟩
  next=>simp at hm
def overB (ps:List Plc) (l:List (Int×Int)) (m:Int×Int):Bool:=l.any fun o=>!(o.1 == m.1)&&extI ps o.1 m.1
def maxL (ps:List Plc) (l:List (Int×Int)):List (Int×Int):=l.filter fun m=>!overB ps l m
theorem max_mem {ps:List Plc} {l:List (Int×Int)} {m:Int×Int} (h:m∈maxL ps l):m∈l:=(List.mem_filter.1 h).1
theorem extI_nat {ps:List Plc} {a b:Nat} (ha:a<ps.length) (hb:b<ps.length):extI ps (a:Int) (b:Int)=extB (ps.map nd) a b:=by
  rw [extI,plcI_nat,plcI_nat,List.getElem?_eq_getElem ha,List.getElem?_eq_getElem hb];rfl
theorem cand_facts {ps:List Plc} (hW:WI ps) {k:Nat} {q:Plc} (hq:ps[k]?=some q) {nm ds:ByteArray} {m:Int×Int} (h:m∈candL ps nm ds q.cl):(∃ i:Nat,m.1=(i:Int)∧i<ps.length)∧ifcI ps m.1=true∧extI ps (k:Int) m.1=true∧∃ x,methI ps m.1 m.2=some x∧x.nm.toList=nm.toList∧x.ds.toList=ds.toList∧hasI x.fl 10=false:=by
  obtain ⟨i,hi,h1,h2,h3⟩:=cand_mem h
  have hk:=(List.getElem?_eq_some_iff.1 hq).1
  have hcl:i∈clO (ps.map nd) k:=by rw [clO,nd_at' hq];exact hi
  obtain ⟨hlt,_,p,hp,hpi,_⟩:=cl_facts hW.wo hcl
  have hil:i<ps.length:=by omega
  have hpi2:ps[i]?=some ps[i]:=List.getElem?_eq_getElem hil
  have hpn:p=nd ps[i]:=by
    rw [nd_at' hpi2] at hp;exact (Option.some.inj hp).symm
  refine ⟨⟨i,h1,hil⟩,?_,?_,?_⟩
  · rw [h1,ifcI,plcI_nat,hpi2]
    rw [hpn] at hpi;exact hpi
  · rw [h1,extI_nat hk hil,ext_iff];exact .inr hcl
  · rw [fndI,plcI_nat,hpi2] at h2
    simp only at h2
    rcases findH_range nm ds ps[i].c.ms 0 with e|⟨j,x,e,hj,hn,hd⟩
    · rw [e,if_pos (by decide)] at h2
      have:=congrArg Prod.snd h2
      simp at this
    · rw [e,if_neg (by omega)] at h2
      have hm2:m.2=(j:Int):=by have:=congrArg Prod.fst h2;simp at this;omega
      have hme:methI ps m.1 m.2=some x:=by
        rw [methI,h1,hm2,plcI_nat,hpi2]
        show methP ps[i] (j:Int)=some x
        rw [methP,if_pos (Int.natCast_nonneg j)];exact hj
      refine ⟨x,hme,hn,hd,?_⟩
      rw [h1] at hme
      rw [hasS,hme] at h3
      exact h3
def oneL (ps:List Plc) (l:List (Int×Int)):List (Int×Int):=(maxL ps l).filter fun m=>!hasS ps m.1 m.2 1024
def oneV (ps:List Plc) (l:List (Int×Int)):(Int×Int)×Int:=match oneL ps l with
  | []=>((0,0),24)
  | [m]=>(m,0)
  | _=>((0,0),23)
def overP (ps:List Plc) (m o:Int×Int):Bool:=!(o.1 == m.1)&&extI ps o.1 m.1
set_option maxHeartbeats 1000000 in
theorem maxIn_c {b:Nat} {ps:List Plc} {W:World} (h:WAt b ps W) (hi:WI ps) (bm bw:Nat) (m o:Int×Int) (hm:W.cell? ⟨bm,0,none⟩=some (.int .i64 m.1)) (hw:W.cell? ⟨bw,0,none⟩=some (.pointer (some ⟨b,0,none⟩))):Calls Tryz.prog 301 (#[.agg #[.int .i64 o.1,.int .i64 o.2]]++#[.pointer (some ⟨bm,0,none⟩),.pointer (some ⟨bw,0,none⟩)]) W fun e w'=>e=.returned (.bool (overP ps m o))∧Below W.heap.size W w':=by
  show Calls Tryz.prog 301 #[.agg #[.int .i64 o.1,.int .i64 o.2],.pointer (some ⟨bm,0,none⟩),.pointer (some ⟨bw,0,none⟩)] W _
  have hlm:bm<W.heap.size:=World.block_lt_of_cell? W _ hm
  have hlw:bw<W.heap.size:=World.block_lt_of_cell? W _ hw
  have n1:¬ bm=W.heap.size:=by omega
  have n2:¬ bw=W.heap.size:=by omega
  have HE:Hid (∀ w,Below W.heap.size W w→Calls Tryz.prog 9 #[.pointer (some ⟨b,0,none⟩),.int .i64 o.1,.int .i64 m.1] w fun e w'=>e=.returned (.bool (extI ps o.1 m.1))∧Below W.heap.size W w'):=fun w hb=>(extends_c (h.below hb) hi o.1 m.1).mono fun e w' zz=>⟨zz.1,bstep hb zz.2⟩
  have HR:Hid (overP ps m o=(!(o.1 == m.1)&&extI ps o.1 m.1)):=rfl
  generalize overP ps m o=R at *
  generalize extI ps o.1 m.1=E at *
  obtain ⟨o1,o2⟩:=o
  obtain ⟨m1,m2⟩:=m
  simp only at HE HR hm
  clear h hi
  by_cases hq:o1=m1
  · have hR:R=false:=by rw [HR.out,hq];simp
    subst hR
    subst hq
    go_enter Tryz.func301,Tryz.ntmps301
    go_wp2
    exact bodyPost_ret (results_tmp rfl _ _ _) rfl ⟨rfl,(by repeat (first|exact Below.refl _ _|refine Below.setCell ?_ (by simp;try omega) _|refine Below.alloc ?_ (by simp;try omega) _|refine Below.drew ?_))⟩
  · have hR:R=E:=by
      have e:(o1 == m1)=false:=by simpa using hq
      rw [HR.out,e];simp
    subst hR
    clear HR
    have hne:(o1 != m1)=true:=by simpa using hq
    go_enter Tryz.func301,Tryz.ntmps301
    go_wp2_with (go_at_call 9;refine (HE.out _ (by repeat (first|exact Below.refl _ _|refine Below.setCell ?_ (by simp;try omega) _|refine Below.alloc ?_ (by simp;try omega) _|refine Below.drew ?_))).mono ?_;rintro e w1 ⟨rfl,hb⟩;have B1:Hid (Below W.heap.size W w1):=hb;clear hb HE)
    exact bodyPost_ret (results_tmp rfl _ _ _) rfl ⟨rfl,B1.out⟩
theorem callMx (vs:Array Value) (w:World):(callFunc 301 vs).run Tryz.prog w=.ok (.enter 301 vs) w:=by simp [go_sem]
theorem callMy (vs:Array Value) (w:World):(callFunc 299 vs).run Tryz.prog w=.ok (.enter 299 vs) w:=by simp [go_sem]
set_option maxHeartbeats 1000000 in
theorem maxOver_c {b:Nat} {ps:List Plc} {W:World} (h:WAt b ps W) (hi:WI ps) (ba bw N:Nat) (v:Value) (l:List (Int×Int)) (m:Int×Int) (ho:W.ownsRow N 45 2 v l.length (flatD l)) (hn:l.length≤1000000) (ha:W.cell? ⟨ba,0,none⟩=some v) (hw:W.cell? ⟨bw,0,none⟩=some (.pointer (some ⟨b,0,none⟩))):Calls Tryz.prog 299 (#[.agg #[.int .i64 m.1,.int .i64 m.2]]++#[.pointer (some ⟨ba,0,none⟩),.pointer (some ⟨bw,0,none⟩)]) W fun e w'=>e=.returned (.bool (overB ps l m))∧Below W.heap.size W w':=by
  show Calls Tryz.prog 299 #[.agg #[.int .i64 m.1,.int .i64 m.2],.pointer (some ⟨ba,0,none⟩),.pointer (some ⟨bw,0,none⟩)] W _
  have hla:ba<W.heap.size:=World.block_lt_of_cell? W _ ha
  have hlw:bw<W.heap.size:=World.block_lt_of_cell? W _ hw
  have n1:¬ ba=W.heap.size:=by omega
  have HC:Hid (∀ w,w=W.alloc (.cells #[.int .i64 m.1,.int .i64 m.2] 45)→Calls Tryz.prog 300 #[v,.func (.func 301) #[] #[.pointer (some ⟨W.heap.size,0,none⟩),.pointer (some ⟨bw,0,none⟩)]] w fun e w'=>e=.returned (.bool (overB ps l m))∧Below w.heap.size w w'):=by
    intro w hwe
    have hb0:Below W.heap.size W w:=by rw [hwe];exact (Below.refl _ _).alloc (Nat.le_refl _) _
    refine conD_any 301 callMx _ (overP ps m) N l v w (rowBelow ho hb0) hn (fun o _ w2 hb=>?_)
    have c0:w.cell? ⟨W.heap.size,0,none⟩=some (.int .i64 m.1):=by rw [hwe];simp [go_sem]
    exact maxIn_c (h.below (bstep hb0 hb)) hi W.heap.size bw m o ((hb.cell (p:=⟨W.heap.size,0,none⟩) (World.block_lt_of_cell? w _ c0)).trans c0) (((bstep hb0 hb).cell (p:=⟨bw,0,none⟩) hlw).trans hw)
  generalize overB ps l m=R at *
  obtain ⟨va,vn,rfl⟩:=ownv ho
  clear h hi ho
  go_enter Tryz.func299,Tryz.ntmps299
  go_wp2_with (go_at_call 300;refine (HC.out _ rfl).mono ?_;rintro e w1 ⟨rfl,hb⟩;have B1:Hid (Below W.heap.size W w1):=bstep (by repeat (first|exact Below.refl _ _|refine Below.setCell ?_ (by simp;try omega) _|refine Below.alloc ?_ (by simp;try omega) _|refine Below.drew ?_)) hb;clear hb HC)
  exact bodyPost_ret (results_tmp rfl _ _ _) rfl ⟨rfl,B1.out⟩
theorem max_pred {b:Nat} {ps:List Plc} {W w1 w2:World} {N:Nat} {va:Option Addr} {vn:Nat} {l:List (Int×Int)} (h:WAt b ps W) (hi:WI ps) (O1:w1.ownsRow N 45 2 (.slice va l.length vn) l.length (flatD l)) (c0:w1.cell? ⟨W.heap.size,0,none⟩=some (.pointer (some ⟨b,0,none⟩))) (hn:l.length≤1000000) (B1:Below W.heap.size W w1) (B2:Below (w1.heap.size+1) (w1.alloc (.cells #[.slice va l.length vn] 52)) w2):PredD 299 #[.pointer (some ⟨w1.heap.size,0,none⟩),.pointer (some ⟨W.heap.size,0,none⟩)] (overB ps l) l (w1.heap.size+1) w2:=by
  intro m _ w hb
  have hU:Below (w1.alloc (.cells #[.slice va l.length vn] 52)).heap.size (w1.alloc (.cells #[.slice va l.length vn] 52)) w:=by
    have:=B2.trans hb
    simpa using this
  have hl:W.heap.size<w1.heap.size:=World.block_lt_of_cell? w1 _ c0
  exact maxOver_c (h.below (bstep (B1.alloc B1.size _) hU)) hi w1.heap.size W.heap.size N _ l m (rowBelow (O1.alloc _) hU) hn ((hU.cell (p:=⟨w1.heap.size,0,none⟩) (by simp)).trans (by simp [go_sem])) ((hU.cell (p:=⟨W.heap.size,0,none⟩) (by simp;omega)).trans (Lib.cell?_alloc_some _ c0))
set_option maxHeartbeats 1000000 in
theorem max_yes {b:Nat} {ps:List Plc} {W:World} (h:WAt b ps W) (hi:WI ps) (k:Nat) (q:Plc) (hq:ps[k]?=some q) (nm ds:ByteArray):Calls Tryz.prog 263 #[.pointer (some ⟨b,0,none⟩),.int .i64 (k:Int),.string nm,.string ds] W fun e w'=>(∃ v,e=.returned (.tuple #[v,.int .i64 0])∧w'.ownsRow W.heap.size 45 2 v (maxL ps (candL ps nm ds q.cl)).length (flatD (maxL ps (candL ps nm ds q.cl))))∧Below W.heap.size W w':=by
  have hKb:(candL ps nm ds q.cl).length≤1000000:=by
    obtain ⟨N,mb,vp,pv,h⟩:=h
    have hwf:=h.wf q (List.mem_of_getElem? hq)
    have:=nodup_lt_len _ _ hwf.2 hwf.1
    have:=candL_len ps nm ds q.cl
    have:=hi.hi
    omega
  have HC:Hid (∀ w,Below W.heap.size W w→Calls Tryz.prog 296 #[.pointer (some ⟨b,0,none⟩),.int .i64 (k:Int),.string nm,.string ds] w fun e w'=>(∃ v,e=.returned (.tuple #[v,.int .i64 0])∧w'.ownsRow w.heap.size 45 2 v (candL ps nm ds q.cl).length (flatD (candL ps nm ds q.cl)))∧Below w.heap.size w w'):=fun w hb=>cand_yes (h.below hb) hi.pb hi.hi k q hq nm ds
  have HW0:Hid (WAt b ps W):=h
  have HWI:Hid (WI ps):=hi
  obtain ⟨l,hl⟩:∃ l,candL ps nm ds q.cl=l:=⟨_,rfl⟩
  rw [hl] at hKb HC ⊢
  have HKb:Hid (l.length≤1000000):=hKb
  clear h hi hq hl
  have HCL:Hid (∀ (N:Nat) (v:Value) (w:World),w.ownsRow N 45 2 v l.length (flatD l)→Calls Tryz.prog 298 #[v] w fun e w'=>∃ v',e=.returned v'∧w'.ownsRow w.heap.size 45 2 v' l.length (flatD l)∧Below w.heap.size w w'):=fun N v w ho=>cloD_any N l v w ho hKb
  go_enter Tryz.func263,Tryz.ntmps263
  go_wp2_with (first
    | (go_at_call 296;refine (HC.out _ (by repeat (first|exact Below.refl _ _|refine Below.setCell ?_ (by simp;try omega) _|refine Below.alloc ?_ (by simp;try omega) _|refine Below.drew ?_))).mono ?_;rintro e w1 ⟨⟨v,rfl,ho⟩,hb⟩;obtain ⟨va,vn,rfl⟩:=ownv ho;have O1:Hid (w1.ownsRow (W.heap.size+1) 45 2 (.slice va l.length vn) l.length (flatD l)):=Go.Joins.ownsRow_le ho (by simp);have c0:w1.cell? ⟨W.heap.size,0,none⟩=some (.pointer (some ⟨b,0,none⟩)):=(hb.cell (p:=⟨W.heap.size,0,none⟩) (by simp)).trans (by simp [go_sem]);have hl1:W.heap.size<w1.heap.size:=World.block_lt_of_cell? w1 _ c0;have B1:Hid (Below W.heap.size W w1):=bstep (by repeat (first|exact Below.refl _ _|refine Below.setCell ?_ (by simp;try omega) _|refine Below.alloc ?_ (by simp;try omega) _|refine Below.drew ?_)) hb;clear hb HC ho)
    | (go_at_call 298;refine (HCL.out _ _ _ (O1.out.alloc _)).mono ?_;rintro e w2 ⟨v2,rfl,ho,hb⟩;obtain ⟨va2,vn2,rfl⟩:=ownv ho;have O2:Hid (w2.ownsRow (w1.heap.size+1) 45 2 (.slice va2 l.length vn2) l.length (flatD l)):=Go.Joins.ownsRow_le ho (by simp);have B2:Hid (Below (w1.heap.size+1) (w1.alloc (.cells #[.slice va l.length vn] 52)) w2):=hb.mono (by simp);clear hb HCL ho)
    | (go_at_call 264;have hpd:=max_pred HW0.out HWI.out O1.out c0 HKb.out B1.out B2.out;refine (delD_any 299 callMy #[.pointer (some ⟨w1.heap.size,0,none⟩),.pointer (some ⟨W.heap.size,0,none⟩)] (overB ps l) (w1.heap.size+1) l _ w2 O2.out (by have:=B2.out.size;simpa using this) HKb.out hpd).mono ?_;rintro e w3 ⟨v3,rfl,ho,hb⟩;obtain ⟨va3,vn3,rfl⟩:=ownv ho;have O3:Hid (w3.ownsRow (w1.heap.size+1) 45 2 (.slice va3 (maxL ps l).length vn3) (maxL ps l).length (flatD (maxL ps l))):=ho;have B3:Hid (Below (w1.heap.size+1) w2 w3):=hb;clear hb ho hpd))
  refine bodyPost_ret (results_tmp2 rfl _ _ _) rfl ⟨⟨.slice va3 (maxL ps l).length vn3,rfl,Go.Joins.ownsRow_le O3.out (by omega)⟩,?_⟩
  have hb3:=B2.out.trans B3.out
  exact (B1.out.alloc B1.out.size _).trans (hb3.mono (by omega))
theorem max_no {b:Nat} {ps:List Plc} {W:World} (h:WAt b ps W) (c:Int) (hc:plcI ps c=none) (nm ds:ByteArray):Calls Tryz.prog 263 #[.pointer (some ⟨b,0,none⟩),.int .i64 c,.string nm,.string ds] W fun e w'=>e=.returned (.tuple #[.slice none 0 0,.int .i64 3])∧Below W.heap.size W w':=by
  have HC:Hid (∀ w,Below W.heap.size W w→Calls Tryz.prog 296 #[.pointer (some ⟨b,0,none⟩),.int .i64 c,.string nm,.string ds] w fun e w'=>e=.returned (.tuple #[.slice none 0 0,.int .i64 3])∧Below w.heap.size w w'):=fun w hb=>cand_no (h.below hb) c hc nm ds
  clear h hc
  go_enter Tryz.func263,Tryz.ntmps263
  go_wp2_with (go_at_call 296;refine (HC.out _ (by repeat (first|exact Below.refl _ _|refine Below.setCell ?_ (by simp;try omega) _|refine Below.alloc ?_ (by simp;try omega) _|refine Below.drew ?_))).mono ?_;rintro e w1 ⟨rfl,hb⟩;have B1:Hid (Below W.heap.size W w1):=bstep (by repeat (first|exact Below.refl _ _|refine Below.setCell ?_ (by simp;try omega) _|refine Below.alloc ?_ (by simp;try omega) _|refine Below.drew ?_)) hb;clear hb HC)
  exact bodyPost_ret (results_tmp2 rfl _ _ _) rfl ⟨rfl,B1.out.alloc B1.out.size _⟩
end Go.Proofs.YtenpnkkkjjdccaaGreat
