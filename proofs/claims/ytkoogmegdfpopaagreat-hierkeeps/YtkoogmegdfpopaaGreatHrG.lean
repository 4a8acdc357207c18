import Derived.Test.YtkoogmegdfpopaaGreatHrD
import Derived.Deep.AppendLies
set_option maxHeartbeats 4000000
set_option maxRecDepth 100000
namespace Go.Proofs.YtkoogmegdfpopaaGreat
open Go.RowKit Go.Maps
structure HC where
 nm:ByteArray
 su:ByteArray
 ni:Nat
 xi:List Value
 fl:Int
 ld:Int
 ms:List HM
structure Plc where
 c:HC
 sp:Nat
 cl:List Nat
def Zdi {H:Type} (D:DataW H) (k:Nat):List Plc→DataW H
 | []=>D
 | p::r=>Zdi (D.put (.string p.c.nm.data.toList) (.lit (.int .i64 (k:Int)))) (k+1) r
theorem Zgv {H:Type} (D:DataW H) (k:Nat) (l:List Plc) (p:Plc):Zdi D k (l++[p])=(Zdi D k l).put (.string p.c.nm.data.toList) (.lit (.int .i64 ((k+l.length:Nat):Int))):=by
 induction l generalizing D k with
 | nil=>rfl
 | cons x l ih =>
   have e:k+(x::l).length=k+1+l.length:=by rw [List.length_cons];omega
   rw [e]
   exact ih _ _
def Yy (ps:List Plc):DataW Unit:=Zdi (.map []) 0 ps
theorem Zgw (l:List Plc) (p:Plc):Yy (l++[p])=(Yy l).put (.string p.c.nm.data.toList) (.lit (.int .i64 (l.length:Int))):=by
 rw [Yy,Zgv,Nat.zero_add];rfl
structure PlcAt (w:World) (N:Nat) (p:PV) (q:Plc):Prop where
 nm:p.nm=q.c.nm
 su:p.su=q.c.su
 fl:p.fl=q.c.fl
 ld:p.ld=q.c.ld
 sp:p.sp=q.sp
 own:∃ qm,qm.map Prod.fst=q.c.ms∧OwnC w N p.vi q.c.ni q.c.xi p.vm qm
 clo:w.ownsRow N 3 1 p.vc q.cl.length (q.cl.map numV)
def PW (ps:List Plc):Prop:=∀ q∈ps,(∀ i∈q.cl,i<ps.length)∧q.cl.Nodup
structure HW (w:World) (N b mb:Nat) (ps:List Plc) (vp:Value) (pv:List PV):Prop where
 hb:w.heap[b]?=some (.cells #[vp,.map (some mb)] 70 (0,0))
 row:w.ownsRow N 84 8 vp pv.length (Xv pv)
 len:pv.length=ps.length
 pl:∀ (k:Nat) (p:PV) (q:Plc),pv[k]?=some p→ps[k]?=some q→PlcAt w N p q
 map:w.ownsMap Tryz.prog 9 (plainElem (H:=Unit) Tryz.prog 3) mb ps.length (Yy ps)
 lb:N≤b
 lm:N≤mb
 wf:PW ps
theorem PlcAt.kept {w w':World} {N:Nat} {p:PV} {q:Plc} {r:Option Nat} (h:PlcAt w N p q) (hg:w.grownBy w' r) (hr:∀ (e s:Nat) (v:Value) (n:Nat) (xs:List Value),e=9∨e=48∨e=56∨e=3→w.ownsRow N e s v n xs→v.ownBlock=none∨v.ownBlock≠r):PlcAt w' N p q:=by
 obtain ⟨qm,h1,h2⟩:=h.own
 exact ⟨h.nm,h.su,h.fl,h.ld,h.sp,⟨qm,h1,h2.ifs.kept hg (hr _ _ _ _ _ (by decide) h2.ifs),h2.ms.kept hg (hr _ _ _ _ _ (by decide) h2.ms),fun x hx=>(h2.cod x hx).kept hg (hr _ _ _ _ _ (by decide) (h2.cod x hx))⟩,h.clo.kept hg (hr _ _ _ _ _ (by decide) h.clo)⟩
theorem PlcAt.below {w w':World} {N:Nat} {p:PV} {q:Plc} (h:PlcAt w N p q) (hb:Bw w w'):PlcAt w' N p q :=
 h.kept (below_grown hb none) (fun _ _ v _ _ _ _=>by cases v.ownBlock <;> simp)
theorem HW.below {w w':World} {N b mb:Nat} {ps:List Plc} {vp:Value} {pv:List PV} (h:HW w N b mb ps vp pv) (hb:Bw w w'):HW w' N b mb ps vp pv :=
 ⟨(hb.block b (Array.getElem?_eq_some_iff.1 h.hb).1).trans h.hb,Zi h.row hb,h.len,fun k p q h1 h2=>(h.pl k p q h1 h2).below hb,h.map.kept (below_grown hb none) (by simp),h.lb,h.lm,h.wf⟩
theorem Yj:∀ (n:Nat) (l:List Nat),l.Nodup→(∀ i∈l,i<n)→l.length≤n
 | 0,l,_,h=>by
   cases l with
   | nil=>exact Nat.le_refl _
   | cons x r=>exact absurd (h x (by simp)) (by omega)
 | n+1,l,hd,h=>by
   have h1:=Yj n (l.erase n) (hd.erase n) (fun i hi=>by
    have h2:=h i (List.mem_of_mem_erase hi)
    have h3:i≠n:=fun e=>by subst e;exact hd.not_mem_erase hi
    omega)
   have h2:=List.length_erase_le (a:=n) (l:=l)
   by_cases hm:n∈l
   ·have:=List.length_erase_of_mem hm
    omega
   ·rw [List.erase_of_not_mem hm] at h1;omega
theorem Yd (cl a:List Nat) (h:cl.Nodup):(Zg cl a).Nodup:=by
 induction a generalizing cl with
 | nil=>exact h
 | cons x a ih =>
   refine ih _ ?_
   split
   ·exact h
   ·rename_i hx
    rw [List.nodup_append]
    refine ⟨h,by simp,fun y hy z hz=>?_⟩
    simp at hz
    subst hz
    intro e
    subst e
    exact hx (List.contains_iff_mem.2 hy)
theorem Zag (cl a:List Nat) (i:Nat) (h:i∈Zg cl a):i∈cl∨i∈a:=by
 induction a generalizing cl with
 | nil=>exact .inl h
 | cons x a ih =>
   rcases ih _ h with h1|h1
   ·split at h1
    ·exact .inl h1
    ·rcases List.mem_append.1 h1 with h2|h2
     ·exact .inl h2
     ·simp at h2;exact .inr (by rw [h2];simp)
   ·exact .inr (List.mem_cons_of_mem _ h1)
theorem gath_wf (cls:List (List Nat)) (n sup:Nat) (ifs:List Nat) (hc:∀ c∈cls,∀ i∈c,i<n) (hi:∀ i∈ifs,i<n):(∀ i∈Zz cls sup ifs,i<n)∧(Zz cls sup ifs).Nodup:=by
 have hgd:∀ k,∀ i∈cls.getD k [],i<n:=fun k i hk=>by
  rw [List.getD_eq_getElem?_getD] at hk
  cases e:cls[k]? with
  | none=>rw [e] at hk;simp at hk
  | some c=>rw [e] at hk;exact hc c (List.mem_of_getElem? e) i hk
 have key:∀ (l:List Nat) (c:List Nat),(∀ i∈l,i<n)→(∀ i∈c,i<n)→c.Nodup→(∀ i∈l.foldl (gathF cls) c,i<n)∧(l.foldl (gathF cls) c).Nodup:=by
  intro l
  induction l with
  | nil=>exact fun c _ h2 h3=>⟨h2,h3⟩
  | cons x l ih =>
    intro c h1 h2 h3
    refine ih _ (fun i hi=>h1 i (List.mem_cons_of_mem _ hi)) (fun i hi=>?_) (Yd _ _ (Yd _ _ h3))
    rcases Zag _ _ _ hi with h4|h4
    ·rcases Zag _ _ _ h4 with h5|h5
     ·exact h2 i h5
     ·exact hgd _ i h5
    ·simp at h4;rw [h4];exact h1 x (by simp)
 exact key ifs _ hi (fun i hi=>by
  rcases Zag _ _ _ hi with h4|h4
  ·simp at h4
  ·exact hgd _ i h4) (Yd _ _ (by simp))
theorem Za9 {P:Program} {ops:Array Oper} {o:Oper} {a:Act} {w:World} {K:Act→World→Prop} {Q:Exit→Act→World→Prop} {E:Prop} (hg:o.guard=none) (f:Nat) (hf:∀ (vs:Array Value) (w:World),(callFunc f vs).run P w=.ok (.enter f vs) w) (x:Operand) (t:TypeId)
 (hop:o.op=Op.call { callee:=Callee.value (Operand.func f),args:=#[x],argTypes:=#[t] }) {R:Ending→World→Prop} (v:Value) (hv:a.eval x=v) (h:Calls P f #[v] w R) (hR:∀ e w',R e w'→∃ u,e=.returned u∧K (a.put o.dst u) w') :
 if Region.wanted o (yielded ops a.tmps)=true then Oper.wp P o a w K Q else E:=by
 have hw:Region.wanted o (yielded ops a.tmps)=true:=by simp [Region.wanted,hg]
 rw [if_pos hw]
 unfold Oper.wp
 have e:(execOp a.eval o).run P w=.ok (.enter f #[v]) w:=by
  simp [execOp,hop,resolve,invoke,hv]
  simp [go_sem,hf]
 rw [e,Oper.upon_enter]
 exact h.mono (fun e w' hr=>by obtain ⟨u,rfl,hk⟩:=hR e w' hr;exact hk)
theorem Zf8 {P:Program} {ops:Array Oper} {o:Oper} {a:Act} {w:World} {K:Act→World→Prop} {Q:Exit→Act→World→Prop} {E:Prop} (hg:o.guard=none) (f:Nat) (hf:∀ (vs:Array Value) (w:World),(callFunc f vs).run P w=.ok (.enter f vs) w) (x y z:Operand) (t1 t2 t3:TypeId)
 (hop:o.op=Op.call { callee:=Callee.value (Operand.func f),args:=#[x,y,z],argTypes:=#[t1,t2,t3] }) {R:Ending→World→Prop} (v1 v2 v3:Value) (hv1:a.eval x=v1) (hv2:a.eval y=v2) (hv3:a.eval z=v3) (h:Calls P f #[v1,v2,v3] w R) (hR:∀ e w',R e w'→∃ u,e=.returned u∧K (a.put o.dst u) w') :
 if Region.wanted o (yielded ops a.tmps)=true then Oper.wp P o a w K Q else E:=by
 have hw:Region.wanted o (yielded ops a.tmps)=true:=by simp [Region.wanted,hg]
 rw [if_pos hw]
 unfold Oper.wp
 have e:(execOp a.eval o).run P w=.ok (.enter f #[v1,v2,v3]) w:=by
  simp [execOp,hop,resolve,invoke,hv1,hv2,hv3]
  simp [go_sem,hf]
 rw [e,Oper.upon_enter]
 exact h.mono (fun e w' hr=>by obtain ⟨u,rfl,hk⟩:=hR e w' hr;exact hk)
theorem call48 (vs:Array Value) (w:World):(callFunc 37 vs).run Tryz.prog w=.ok (.enter 37 vs) w:=by simp [go_sem]
theorem call86 (vs:Array Value) (w:World):(callFunc 48 vs).run Tryz.prog w=.ok (.enter 48 vs) w:=by simp [go_sem]
theorem row_ne {w:World} {n1 n2 e1 e2 s1 s2:Nat} {v1 v2:Value} {l1 l2:Nat} {x1 x2:List Value} (h1:w.ownsRow n1 e1 s1 v1 l1 x1) (h2:w.ownsRow n2 e2 s2 v2 l2 x2) (hne:e1≠e2):v1.ownBlock=none∨v1.ownBlock≠v2.ownBlock:=by
 rcases h1.2 with ⟨rfl,_⟩|⟨g,cap,cur,rfl,_,hg,_⟩
 ·exact .inl rfl
 ·refine .inr fun e=>?_
  rcases h2.2 with ⟨rfl,_⟩|⟨g2,cap2,cur2,rfl,_,hg2,_⟩
  ·simp [Value.ownBlock] at e
  ·simp [Value.ownBlock] at e
   subst e
   rw [hg] at hg2
   simp only [Option.some.injEq,Obj.cells.injEq] at hg2
   exact hne hg2.2.1
theorem Xx {w:World} {n1 e1 s1:Nat} {v1:Value} {l1:Nat} {x1:List Value} (h1:w.ownsRow n1 e1 s1 v1 l1 x1) {b:Nat} {es:Array MapEntry} {t:Nat} (hb:w.heap[b]?=some (.map es t)):v1.ownBlock=none∨v1.ownBlock≠some b:=by
 rcases h1.2 with ⟨rfl,_⟩|⟨g,cap,cur,rfl,_,hg,_⟩
 ·exact .inl rfl
 ·refine .inr fun e=>?_
  simp [Value.ownBlock] at e
  subst e
  rw [hg] at hb
  simp at hb
theorem Zip (a b:List PV):Xv (a++b)=Xv a++Xv b:=List.flatMap_append
def NewP (w':World) (n:Nat) (vp:Value) (pv:List PV) (vp':Value) (pv':List PV) (q:Plc):Prop:=∃ p,pv'=pv++[p]∧PlcAt w' n p q∧∀ g,vp'.ownBlock=some g→vp.ownBlock=some g∨n≤g
theorem PlcAt.le {w:World} {n n0:Nat} {p:PV} {q:Plc} (h:PlcAt w n p q) (hn:n0≤n):PlcAt w n0 p q:=by
 obtain ⟨qm,h1,h2⟩:=h.own
 exact ⟨h.nm,h.su,h.fl,h.ld,h.sp,⟨qm,h1,⟨Go.Joins.ownsRow_le h2.ifs hn,Go.Joins.ownsRow_le h2.ms hn,fun x hx=>Go.Joins.ownsRow_le (h2.cod x hx) hn⟩⟩,Go.Joins.ownsRow_le h.clo hn⟩
theorem NewP.le {w':World} {n n0:Nat} {vp vp':Value} {pv pv':List PV} {q:Plc} (h:NewP w' n vp pv vp' pv' q) (hn:n0≤n):NewP w' n0 vp pv vp' pv' q:=by
 obtain ⟨p,h1,h2,h3⟩:=h
 exact ⟨p,h1,h2.le hn,fun g hg=>(h3 g hg).imp id (Nat.le_trans hn)⟩
structure HWm (w:World) (N b mb:Nat) (ps:List Plc) (vp:Value) (pv:List PV) (k:Nat) (D:DataW Unit):Prop where
 hb:w.heap[b]?=some (.cells #[vp,.map (some mb)] 70 (0,0))
 row:w.ownsRow N 84 8 vp pv.length (Xv pv)
 len:pv.length=ps.length
 pl:∀ (k:Nat) (p:PV) (q:Plc),pv[k]?=some p→ps[k]?=some q→PlcAt w N p q
 map:w.ownsMap Tryz.prog 9 (plainElem (H:=Unit) Tryz.prog 3) mb k D
 lb:N≤b
 lm:N≤mb
theorem HW.add1 {w2 U w5:World} {N b mb:Nat} {ps:List Plc} {vp vp':Value} {pv:List PV} {p:PV} {q:Plc} (h:HW w2 N b mb ps vp pv) (hp:PlcAt w2 N p q) (hst:Bw w2 U) (hg:U.grownBy w5 vp.ownBlock) (ho:w5.ownsRow N 84 8 vp' (pv.length+1) (Xv pv++pvC p)) :
 w5.heap[b]?=some (.cells #[vp,.map (some mb)] 70 (0,0))∧HWm (w5.setCell ⟨b,0,none⟩ vp') N b mb (ps++[q]) vp' (pv++[p]) ps.length (Yy ps):=by
 have hU:=h.below hst
 have hpU:=hp.below hst
 have hbne:some b≠vp.ownBlock:=by
  rcases Ze hU.row hU.hb (by decide) with e|e
  ·rw [e];simp
  ·exact fun e2=>e e2.symm
 have hb5:w5.heap[b]?=some (.cells #[vp,.map (some mb)] 70 (0,0)):=(hg.block b (Array.getElem?_eq_some_iff.1 hU.hb).1 hbne).trans hU.hb
 obtain ⟨es,ck,hmb,_⟩:=id hU.map
 have hmne:some mb≠vp.ownBlock:=by
  rcases Xx hU.row hmb with e|e
  ·rw [e];simp
  ·exact fun e2=>e e2.symm
 have map5:=hU.map.kept hg hmne
 have mbb:mb≠b:=fun e=>by rw [e,hU.hb] at hmb;simp at hmb
 have pl5:∀ {p:PV} {q:Plc},PlcAt U N p q→PlcAt w5 N p q:=fun hx=>hx.kept hg (fun e s v n xs he hv=>row_ne hv hU.row (by rcases he with rfl|rfl|rfl|rfl <;> decide))
 have pl6:∀ {p:PV} {q:Plc},PlcAt w5 N p q→PlcAt (w5.setCell ⟨b,0,none⟩ vp') N p q:=fun hx=>hx.kept (Zn w5 b 0 vp') (fun e s v n xs he hv=>Ze hv hb5 (by rcases he with rfl|rfl|rfl|rfl <;> decide))
 refine ⟨hb5,heap_setCell_same w5 b 0 _ 70 _ hb5,?_,by rw [List.length_append,List.length_append,h.len];rfl,?_,map5.setCell mbb _,h.lb,h.lm⟩
 ·rw [Zip,List.length_append]
  have e:Xv [p]=pvC p:=by simp [Xv]
  rw [e]
  exact ho.kept (Zn w5 b 0 vp') (Ze ho hb5 (by decide))
 ·intro k p' q' h1 h2
  by_cases hk:k<pv.length
  ·rw [List.getElem?_append_left hk] at h1
   rw [List.getElem?_append_left (by rw [← h.len];exact hk)] at h2
   exact pl6 (pl5 (hU.pl k p' q' h1 h2))
  ·rw [List.getElem?_append_right (by omega)] at h1
   rw [List.getElem?_append_right (by rw [← h.len];omega)] at h2
   have e0:k - pv.length=0:=by
    have:=(List.getElem?_eq_some_iff.1 h1).1
    simp at this
    omega
   rw [e0] at h1
   rw [← h.len,e0] at h2
   simp at h1 h2
   subst h1 h2
   exact pl6 (pl5 hpU)
theorem HW.new1 {w2 U w5:World} {N n b mb:Nat} {ps:List Plc} {vp vp':Value} {pv:List PV} {p:PV} {q:Plc} (h:HW w2 N b mb ps vp pv) (hp:PlcAt w2 n p q) (hst:Bw w2 U) (hg:U.grownBy w5 vp.ownBlock):PlcAt (w5.setCell ⟨b,0,none⟩ vp') n p q:=by
 have hU:=h.below hst
 have hbne:some b≠vp.ownBlock:=by
  rcases Ze hU.row hU.hb (by decide) with e|e
  ·rw [e];simp
  ·exact fun e2=>e e2.symm
 have hb5:w5.heap[b]?=some (.cells #[vp,.map (some mb)] 70 (0,0)):=(hg.block b (Array.getElem?_eq_some_iff.1 hU.hb).1 hbne).trans hU.hb
 exact ((hp.below hst).kept hg (fun e s v n xs he hv=>row_ne hv hU.row (by rcases he with rfl|rfl|rfl|rfl <;> decide))).kept (Zn w5 b 0 vp') (fun e s v n xs he hv=>Ze hv hb5 (by rcases he with rfl|rfl|rfl|rfl <;> decide))
theorem HWm.new2 {w6 w7:World} {N n b mb:Nat} {ps:List Plc} {vp:Value} {pv:List PV} {k:Nat} {D:DataW Unit} {p:PV} {q:Plc} (h:HWm w6 N b mb ps vp pv k D) (hp:PlcAt w6 n p q) (hg:w6.grownBy w7 (some mb)):PlcAt w7 n p q:=by
 obtain ⟨es,ck,hmb,_⟩:=id h.map
 exact hp.kept hg (fun e s v n xs _ hv=>Xx hv hmb)
theorem HWm.add2 {w6 w7:World} {N b mb:Nat} {ps:List Plc} {vp:Value} {pv:List PV} {k:Nat} {D D':DataW Unit} (h:HWm w6 N b mb ps vp pv k D) (hg:w6.grownBy w7 (some mb)) (hm:w7.ownsMap Tryz.prog 9 (plainElem (H:=Unit) Tryz.prog 3) mb ps.length D') (hD:D'=Yy ps) (hwf:PW ps):HW w7 N b mb ps vp pv:=by
 obtain ⟨es,ck,hmb,_⟩:=id h.map
 have mbb:b≠mb:=fun e=>by rw [← e,h.hb] at hmb;simp at hmb
 subst hD
 exact ⟨(hg.block b (Array.getElem?_eq_some_iff.1 h.hb).1 (by simpa using mbb)).trans h.hb,h.row.kept hg (Xx h.row hmb),h.len,fun k p q h1 h2=>(h.pl k p q h1 h2).kept hg (fun e s v n xs _ hv=>Xx hv hmb),hm,h.lb,h.lm,hwf⟩
theorem Tryz.hinfo91:(Tryz.prog.info? 84).map (fun i=>(i.zero,i.size,i.bytes))=some (some (.agg #[.string ⟨#[]⟩,.string ⟨#[]⟩,.slice none 0 0,.int .i64 0,.int .i64 0,.slice none 0 0,.int .i64 0,.slice none 0 0]),8,128):=by kernel_rfl
theorem law9:Keyed Tryz.prog 9:=string_keyed Tryz.underlying9
theorem add_row {W w2:World} {N b mb:Nat} {ps:List Plc} {vp:Value} {pv:List PV} (h:HW W N b mb ps vp pv) (hl:pv.length=ps.length) (hb:Bw W w2):w2.ownsRow N 84 8 vp ps.length (Xv pv):=by rw [← hl];exact (h.below hb).row
theorem add_rel {W Wc w1 w2 w5:World} {N b mb:Nat} {ps:List Plc} {ap:Option Addr} {cp:Nat} {pv:List PV} {c:HC} {pm qm:List (HM×Value)} {ai am ac:Option Addr} {ci cm cc sup g2 cap2:Nat} {cl:List Nat} {cs cs2:Array Value}
 (h:HW W N b mb ps (.slice ap ps.length cp) pv) (hl:pv.length=ps.length) (hpm:pm.map Prod.fst=c.ms) (hN:N≤W.heap.size) (hWc:Bw W Wc) (hWs:Wc.heap.size=W.heap.size+1) (hcb:Wc.heap[W.heap.size]?=some (.cells cs 33 (0,0))) (o1:OwnC w1 Wc.heap.size (.slice ai c.ni ci) c.ni c.xi (.slice am qm.length cm) qm) (q1:qm.map Prod.fst=pm.map Prod.fst) (b1:Bw Wc w1)
 (o2:w2.ownsRow w1.heap.size 3 1 (.slice ac cl.length cc) cl.length (cl.map numV)) (b2:Bw w1 w2) (hg:(w2.alloc (.cells cs2 84)).grownBy w5 (Value.slice ap ps.length cp).ownBlock) (ho:w5.ownsRow N 84 8 (.slice (some ⟨g2,0,none⟩) (ps.length+1) cap2) (ps.length+1) (Xv pv++pvC ⟨c.nm,c.su,.slice ai c.ni ci,c.fl,c.ld,.slice am qm.length cm,sup,.slice ac cl.length cc⟩)) :
 w5.heap[b]?=some (.cells #[.slice ap ps.length cp,.map (some mb)] 70 (0,0))∧HWm (w5.setCell ⟨b,0,none⟩ (.slice (some ⟨g2,0,none⟩) (ps.length+1) cap2)) N b mb (ps++[⟨c,sup,cl⟩]) (.slice (some ⟨g2,0,none⟩) (ps.length+1) cap2) (pv++[⟨c.nm,c.su,.slice ai c.ni ci,c.fl,c.ld,.slice am qm.length cm,sup,.slice ac cl.length cc⟩]) ps.length (Yy ps)∧w5.heap[W.heap.size]?=some (.cells cs 33 (0,0))∧Below N W (w5.setCell ⟨b,0,none⟩ (.slice (some ⟨g2,0,none⟩) (ps.length+1) cap2))∧(∀ j<W.heap.size,j≠b→some j≠(Value.slice ap ps.length cp).ownBlock→(w5.setCell ⟨b,0,none⟩ (.slice (some ⟨g2,0,none⟩) (ps.length+1) cap2)).heap[j]?=W.heap[j]?)∧PlcAt (w5.setCell ⟨b,0,none⟩ (.slice (some ⟨g2,0,none⟩) (ps.length+1) cap2)) W.heap.size ⟨c.nm,c.su,.slice ai c.ni ci,c.fl,c.ld,.slice am qm.length cm,sup,.slice ac cl.length cc⟩ ⟨c,sup,cl⟩:=by
 have hb2:Bw W w2:=Zj (Zj hWc b1) b2
 have h2:=h.below hb2
 have s1:=b1.size
 have s2:=b2.size
 have hst:Bw w2 (w2.alloc (.cells cs2 84)):=(Below.refl _ _).alloc (Nat.le_refl _) _
 have hpn:PlcAt w2 W.heap.size ⟨c.nm,c.su,.slice ai c.ni ci,c.fl,c.ld,.slice am qm.length cm,sup,.slice ac cl.length cc⟩ ⟨c,sup,cl⟩ :=
  ⟨rfl,rfl,rfl,rfl,rfl,⟨qm,q1.trans hpm,⟨Go.Joins.ownsRow_le (Zi o1.ifs b2) (by omega),Go.Joins.ownsRow_le (Zi o1.ms b2) (by omega),fun x hx=>Go.Joins.ownsRow_le (Zi (o1.cod x hx) b2) (by omega)⟩⟩,Go.Joins.ownsRow_le o2 (by omega)⟩
 have hp:PlcAt w2 N ⟨c.nm,c.su,.slice ai c.ni ci,c.fl,c.ld,.slice am qm.length cm,sup,.slice ac cl.length cc⟩ ⟨c,sup,cl⟩ :=
  ⟨rfl,rfl,rfl,rfl,rfl,⟨qm,q1.trans hpm,⟨Go.Joins.ownsRow_le (Zi o1.ifs b2) (by omega),Go.Joins.ownsRow_le (Zi o1.ms b2) (by omega),fun x hx=>Go.Joins.ownsRow_le (Zi (o1.cod x hx) b2) (by omega)⟩⟩,Go.Joins.ownsRow_le o2 (by omega)⟩
 rw [← hl] at ho
 obtain ⟨r1,r2⟩:=h2.add1 hp hst hg ho
 rw [hl] at r2
 have hc2:(w2.alloc (.cells cs2 84)).heap[W.heap.size]?=some (.cells cs 33 (0,0)):=by
  rw [heap_alloc_old _ _ (by omega),b2.block _ (by omega),b1.block _ (by omega)];exact hcb
 refine ⟨r1,r2,(hg.block _ (by simp;omega) (fun e=>?_)).trans hc2,?_,fun j hj hjb hjv=>?_,h2.new1 hpn hst hg⟩
 ·rcases Ze (h2.below hst).row hc2 (by decide) with e2|e2
  ·rw [e2] at e;cases e
  ·exact e2 e.symm
 ·have hNW:Below N W (w2.alloc (.cells cs2 84)):=(hb2.mono hN).alloc (by omega) _
  exact (hNW.grown hg (by simp;omega) (fun k hk=>(h2.row.lt k hk).1)).setCell (p:=⟨b,0,none⟩) h.lb _
 ·rw [heap_setCell_other _ _ _ _ hjb,hg.block j (by simp;omega) hjv,heap_alloc_old _ _ (by omega),hb2.block j hj]
theorem Zf0 (N b mb:Nat) (ps:List Plc) (vp:Value) (pv:List PV) (c:HC) (vi vm:Value) (pm:List (HM×Value)) (sup:Nat) (vif:Value) (ifs:List Nat) (W:World)
 (hW:HW W N b mb ps vp pv) (hN:N≤W.heap.size) (hi:Rdw W vi c.ni 1 c.xi) (hi1:∀ u∈c.xi,u.oneCell'=true) (hni:c.ni≤1000000)
 (hm:Rdw W vm pm.length 6 (Zm pm)) (hpm:pm.map Prod.fst=c.ms) (hnm:pm.length≤1000000) (hc:∀ p∈pm,Rdw W p.2 p.1.n 7 p.1.xs∧(∀ u∈p.1.xs,u.oneCell'=true)∧p.1.n≤1000000)
 (hif:Rds W vif ifs.length 1 (ifs.map numV)) (hil:∀ i∈ifs,i<ps.length) (hni2:ifs.length≤1000) (hsup:sup≤300) (hn:ps.length<300) (hnz:c.nm.size≤maxLen) :
 Calls Tryz.prog 26 #[.pointer (some ⟨b,0,none⟩),.agg #[.string c.nm,.string c.su,vi,.int .i64 c.fl,.int .i64 c.ld,vm],.int .i64 (sup:Int),vif] W fun e w'=>e=.returned (.int .i64 (ps.length:Int))∧(∃ vp' pv',HW w' N b mb (ps++[⟨c,sup,Zz (ps.map Plc.cl) sup ifs⟩]) vp' pv'∧NewP w' W.heap.size vp pv vp' pv' ⟨c,sup,Zz (ps.map Plc.cl) sup ifs⟩)∧Below N W w'∧∀ j<W.heap.size,j≠b→j≠mb→some j≠vp.ownBlock→w'.heap[j]?=W.heap[j]?:=by
 have HHW:Hid (HW W N b mb ps vp pv):=hW
 have hcl:Clos W pv (ps.map Plc.cl):=by
  refine ⟨by rw [List.length_map,hW.len],fun k p cl h1 h2=>?_⟩
  rw [List.getElem?_map] at h2
  cases hq:ps[k]? with
  | none=>rw [hq] at h2;cases h2
  | some q =>
    rw [hq] at h2
    cases h2
    obtain ⟨h3,h4⟩:=hW.wf q (List.mem_of_getElem? hq)
    rw [hW.len]
    exact ⟨Go.Joins.ownsRow_le (hW.pl k p q h1 hq).clo (Nat.zero_le _),h3,Yj _ _ h4 h3⟩
 have hwf:PW (ps++[⟨c,sup,Zz (ps.map Plc.cl) sup ifs⟩]):=by
  intro q hq
  rw [List.length_append,List.length_singleton]
  rcases List.mem_append.1 hq with h1|h1
  ·exact ⟨fun i hi=>Nat.lt_succ_of_lt ((hW.wf q h1).1 i hi),(hW.wf q h1).2⟩
  ·simp at h1
   subst h1
   obtain ⟨h2,h3⟩:=gath_wf (ps.map Plc.cl) ps.length sup ifs (fun cl hcl i hi=>by
    obtain ⟨q,hq,rfl⟩:=List.mem_map.1 hcl
    exact (hW.wf q hq).1 i hi) hil
   exact ⟨fun i hi=>Nat.lt_succ_of_lt (h2 i hi),h3⟩
 have HWF:Hid (PW (ps++[⟨c,sup,Zz (ps.map Plc.cl) sup ifs⟩])):=hwf
 have HCC:Hid (∀ w:World,Bw W w→Calls Tryz.prog 37 #[.agg #[.string c.nm,.string c.su,vi,.int .i64 c.fl,.int .i64 c.ld,vm]] w fun e w'=>∃ vi' vm' qm,e=.returned (.agg #[.string c.nm,.string c.su,vi',.int .i64 c.fl,.int .i64 c.ld,vm'])∧OwnC w' w.heap.size vi' c.ni c.xi vm' qm∧qm.map Prod.fst=pm.map Prod.fst∧Bw w w'):=fun w hb =>
  Zbq c.nm c.su c.fl c.ld vi vm c.ni c.xi pm w (hi.keep hb) hi1 hni (hm.keep hb) hnm (fun p hp=>⟨(hc p hp).1.keep hb,(hc p hp).2⟩)
 have HGG:Hid (∀ w:World,Bw W w→Calls Tryz.prog 48 #[.pointer (some ⟨b,0,none⟩),.int .i64 (sup:Int),vif] w fun e w'=>∃ v',e=.returned v'∧w'.ownsRow w.heap.size 3 1 v' (Zz (ps.map Plc.cl) sup ifs).length ((Zz (ps.map Plc.cl) sup ifs).map numV)∧Bw w w'):=fun w hb =>
  Zg2 b vp (.map (some mb)) pv (ps.map Plc.cl) sup vif ifs w (hW.below hb).hb (Zw (hW.below hb).row) ⟨hcl.1,fun k p cl h1 h2=>⟨Zi (hcl.2 k p cl h1 h2).1 hb,(hcl.2 k p cl h1 h2).2⟩⟩ (hif.keep hb) (fun i hi=>by rw [hW.len];exact hil i hi) (by rw [hW.len];omega) hni2 hsup
 obtain ⟨ai0,ci0,rfl⟩:∃ a k,vi=.slice a c.ni k:=hi.slice
 obtain ⟨am0,cm0,rfl⟩:∃ a k,vm=.slice a pm.length k:=hm.slice
 obtain ⟨cl,hcle⟩:∃ l,l=Zz (ps.map Plc.cl) sup ifs:=⟨_,rfl⟩
 rw [← hcle] at HWF HGG
 rw [← hcle]
 have HPM:Hid (pm.map Prod.fst=c.ms):=hpm
 obtain ⟨ap,cp,rfl⟩:=ownv hW.row
 have hPL:pv.length=ps.length:=hW.len
 obtain ⟨Wc,hWc⟩:∃ x,x=W.alloc (.cells #[.string c.nm,.string c.su,.slice ai0 c.ni ci0,.int .i64 c.fl,.int .i64 c.ld,.slice am0 pm.length cm0] 33):=⟨_,rfl⟩
 have HWc:Hid (Bw W Wc):=by rw [hWc];exact (Below.refl _ _).alloc (Nat.le_refl _) _
 have hWs:Wc.heap.size=W.heap.size+1:=by rw [hWc];simp
 have hcb:Wc.heap[W.heap.size]?=some (.cells #[.string c.nm,.string c.su,.slice ai0 c.ni ci0,.int .i64 c.fl,.int .i64 c.ld,.slice am0 pm.length cm0] 33 (0,0)):=by rw [hWc];exact heap_alloc_new W _
 have HCB:Hid _:=hcb
 have HWE:Hid (Wc=W.alloc (.cells #[.string c.nm,.string c.su,.slice ai0 c.ni ci0,.int .i64 c.fl,.int .i64 c.ld,.slice am0 pm.length cm0] 33)):=hWc
 have hblt:b<W.heap.size:=(Array.getElem?_eq_some_iff.1 hW.hb).1
 have hbb:=(HWc.out.block b hblt).trans HHW.out.hb
 have c0:=cell_of_row Wc W.heap.size 0 _ _ _ hcb
 have y0:=frozen_of_row Wc W.heap.size 0 _ _ hcb
 have c1:=cell_of_row Wc W.heap.size 1 _ _ _ hcb
 have y1:=frozen_of_row Wc W.heap.size 1 _ _ hcb
 have c2:=cell_of_row Wc W.heap.size 2 _ _ _ hcb
 have y2:=frozen_of_row Wc W.heap.size 2 _ _ hcb
 have c3:=cell_of_row Wc W.heap.size 3 _ _ _ hcb
 have y3:=frozen_of_row Wc W.heap.size 3 _ _ hcb
 have c4:=cell_of_row Wc W.heap.size 4 _ _ _ hcb
 have y4:=frozen_of_row Wc W.heap.size 4 _ _ hcb
 have c5:=cell_of_row Wc W.heap.size 5 _ _ _ hcb
 have y5:=frozen_of_row Wc W.heap.size 5 _ _ hcb
 simp only [List.getElem?_toArray,List.getElem?_cons_zero,List.getElem?_cons_succ] at c0 c1 c2 c3 c4 c5
 have b0:=cell_of_row Wc b 0 _ _ _ hbb
 have b1:=cell_of_row Wc b 1 _ _ _ hbb
 simp only [List.getElem?_toArray,List.getElem?_cons_zero,List.getElem?_cons_succ] at b0 b1
 obtain ⟨i0,hi91,hz0,hz1,hz2⟩:=info_parts Tryz.hinfo91
 have HBB:Hid (Wc.heap[b]?=some (.cells #[.slice ap ps.length cp,.map (some mb)] 70 (0,0))):=by rw [Hid,hbb,hPL]
 have wb0:=cell_of_row W b 0 _ _ _ HHW.out.hb
 simp only [List.getElem?_toArray,List.getElem?_cons_zero] at wb0
 rw [hPL] at wb0 b0
 have HH2:Hid (HW W N b mb ps (.slice ap ps.length cp) pv):=by rw [Hid,← hPL];exact HHW.out
 have hPM:=hpm
 generalize pm.length=PM at *
 clear hW hcl hwf hi hi1 hm hpm hc hif hil hcle hWc hbb hcb hni hnm hni2
 go_enter Tryz.func26,Tryz.ntmps26
 go_wp2
 rw [← HWE.out]
 clear wb0
 go_region_law
  (first
   | (refine Za9 rfl 37 call48 (.tmp 20) 33 rfl (.agg #[.string c.nm,.string c.su,.slice ai0 c.ni ci0,.int .i64 c.fl,.int .i64 c.ld,.slice am0 PM cm0]) (by simp [Act.eval]) (HCC.out _ HWc.out.drew) ?_;rintro e w1 ⟨vi',vm',qm,rfl,hown,hq,hb1⟩;refine ⟨_,rfl,?_⟩;obtain ⟨ai,ci,rfl⟩:=ownv hown.ifs;obtain ⟨am,cm,rfl⟩:=ownv hown.ms;have O1:Hid (OwnC w1 Wc.heap.size (.slice ai c.ni ci) c.ni c.xi (.slice am qm.length cm) qm):=hown;have Q1:Hid (qm.map Prod.fst=pm.map Prod.fst):=hq;have B1:Hid (Bw Wc w1):=((Below.refl _ Wc).drew).trans hb1;have hbb1:=(hb1.block b (by simp;omega)).trans HBB.out;have v0:=cell_of_row w1 b 0 _ _ _ hbb1;simp only [List.getElem?_toArray,List.getElem?_cons_zero] at v0;clear hown hq hb1 hbb1 HCC)
   | (refine Zf8 rfl 48 call86 (.tmp 23) (.tmp 24) (.tmp 25) 24 3 57 rfl (.pointer (some ⟨b,0,none⟩)) (.int .i64 (sup:Int)) vif (by simp [Act.eval]) (by simp [Act.eval]) (by simp [Act.eval]) (HGG.out _ (Zj HWc.out B1.out)) ?_;rintro e w2 ⟨vc,rfl,hown,hb2⟩;refine ⟨_,rfl,?_⟩;obtain ⟨ac,cc,rfl⟩:=ownv hown;have O2:Hid (w2.ownsRow w1.heap.size 3 1 (.slice ac cl.length cc) cl.length (cl.map numV)):=hown;have B2:Hid (Bw w1 w2):=hb2;have hblt2:b<w2.heap.size:=(by have h1:=B1.out.size;have h2:=hb2.size;omega);have hbb2:=(hb2.block b (by have:=B1.out.size;omega)).trans ((B1.out.block b (by omega)).trans HBB.out);have u0:=cell_of_row w2 b 0 _ _ _ hbb2;simp only [List.getElem?_toArray,List.getElem?_cons_zero] at u0;clear hown hb2 hbb2 HGG)
   | (refine step_append_lies _ rfl (.tmp 19) (.tmp 28) 68 rfl N 84 i0 (.agg #[.string ⟨#[]⟩,.string ⟨#[]⟩,.slice none 0 0,.int .i64 0,.int .i64 0,.slice none 0 0,.int .i64 0,.slice none 0 0]) 8 128 Tryz.underlying68 hi91 hz0 hz1 hz2 rfl (by decide) (.slice ap ps.length cp) ps.length (Xv pv) (by simp [Act.eval]) ((add_row HH2.out hPL (Zj (Zj HWc.out B1.out) B2.out)).alloc _) ⟨w2.heap.size,0,none⟩ 1 1 (pvC ⟨c.nm,c.su,.slice ai c.ni ci,c.fl,c.ld,.slice am qm.length cm,sup,.slice ac cl.length cc⟩) (by simp [Act.eval]) rfl (World.news_of_block (heap_alloc_new w2 _)) ?_ (by decide) ?_ ?_ ?_ _ rfl ?_;(intro u hu;simp [pvC] at hu;rcases hu with rfl|rfl|rfl|rfl|rfl|rfl|rfl|rfl <;> rfl);(unfold maxLen;omega);omega;(have h1:=B1.out.size;have h2:=B2.out.size;simp;omega);intro g2 cap2 w5 hown' hgrow hg2 _;obtain ⟨q1,q2,q3,q4,q5,q6⟩:=add_rel HH2.out hPL HPM.out hN HWc.out hWs HCB.out O1.out Q1.out B1.out O2.out B2.out hgrow hown';have z0:=cell_of_row w5 b 0 _ _ _ q1;have zf:=frozen_of_row w5 b 0 _ _ q1;simp only [List.getElem?_toArray,List.getElem?_cons_zero] at z0;have Q2:Hid _:=q2;have Q3:Hid (w5.heap[W.heap.size]?=_):=q3;have Q4:Hid (Below N W _):=q4;have Q5:Hid (∀ j<W.heap.size,j≠b→some j≠(Value.slice ap ps.length cp).ownBlock→(w5.setCell ⟨b,0,none⟩ (.slice (some ⟨g2,0,none⟩) (ps.length+1) cap2)).heap[j]?=W.heap[j]?):=q5;have Q6:Hid (PlcAt _ W.heap.size _ _):=q6;have Q7:Hid ((Value.slice ap ps.length cp).ownBlock=some g2∨W.heap.size≤g2):=hg2.imp id (fun e=>by have h1:=B1.out.size;have h2:=B2.out.size;rw [e];simp;omega);clear q1 q2 q3 q4 q5 q6 hg2 hown' hgrow))
 all_goals
  go_wp2
  obtain ⟨w6,h6⟩:∃ x,x=w5.setCell ⟨b,0,none⟩ (.slice (some ⟨g2,0,none⟩) (ps.length+1) cap2):=⟨_,rfl⟩
  have hc6:w6.heap[W.heap.size]?=some (.cells #[.string c.nm,.string c.su,.slice ai0 c.ni ci0,.int .i64 c.fl,.int .i64 c.ld,.slice am0 PM cm0] 33 (0,0)):=by rw [h6];exact (heap_setCell_other _ _ _ _ (Nat.ne_of_gt hblt)).trans Q3.out
  rw [← h6] at Q2 Q4 Q5 Q6 ⊢
  have k1:=cell_of_row w6 b 1 _ _ _ Q2.out.hb
  have k2:=cell_of_row w6 W.heap.size 0 _ _ _ hc6
  simp only [List.getElem?_toArray,List.getElem?_cons_zero,List.getElem?_cons_succ] at k1 k2
  obtain ⟨w7,hrun,r1,r2⟩:=(World.ownsMap.drew Q2.out.map).update law9 Tryz.underlying67 (by unfold maxLen;omega) (Go.WideMaps.keyOf_string_mk Tryz.underlying9 hnz) (plainElem_int (H:=Unit) Tryz.underlying3 (a:=(ps.length:Int)) (WalkArith.wf_i64 (by omega)))
  have R1:Hid _:=r1
  have R2:Hid (w6.grownBy w7 (some mb)):=⟨r2.os,r2.tape,r2.output,r2.size,r2.block⟩
  clear r1 r2 h6 hc6 z0 zf Q3
  go_region
  all_goals
   go_wp2
   refine bodyPost_ret (results_tmp rfl _ _ _) rfl ⟨rfl,⟨_,_,Q2.out.add2 R2.out (by rw [List.length_append,List.length_singleton];exact R1.out) (by rw [Zgw]) HWF.out,_,rfl,Q2.out.new2 Q6.out R2.out,fun g hg=>by cases hg;exact Q7.out.imp (fun x=>by rw [hPL];exact x) id⟩,Q4.out.grown R2.out (Nat.le_trans hN ?_) (fun k hk=>by cases hk;exact Q2.out.lm),fun j h1 h2 h3 h4=>(R2.out.block j (Nat.lt_of_lt_of_le h1 Q4.out.size) (by simpa using h3)).trans (Q5.out j h1 h2 (by rw [hPL] at h4;exact h4))⟩
   exact Q4.out.size
theorem addw_any (N b mb:Nat) (ps:List Plc) (vp:Value) (pv:List PV) (c:HC) (vi vm:Value) (pm:List (HM×Value)) (sup:Nat) (vif:Value) (ifs:List Nat) (W:World)
 (hW:HW W N b mb ps vp pv) (hN:N≤W.heap.size) (hi:Rdw W vi c.ni 1 c.xi) (hi1:∀ u∈c.xi,u.oneCell'=true) (hni:c.ni≤1000000)
 (hm:Rdw W vm pm.length 6 (Zm pm)) (hpm:pm.map Prod.fst=c.ms) (hnm:pm.length≤1000000) (hc:∀ p∈pm,Rdw W p.2 p.1.n 7 p.1.xs∧(∀ u∈p.1.xs,u.oneCell'=true)∧p.1.n≤1000000)
 (hif:Rds W vif ifs.length 1 (ifs.map numV)) (hil:∀ i∈ifs,i<ps.length) (hni2:ifs.length≤1000) (hsup:sup≤300) (hn:ps.length<300) (hnz:c.nm.size≤maxLen) :
 Calls Tryz.prog 26 #[.pointer (some ⟨b,0,none⟩),.agg #[.string c.nm,.string c.su,vi,.int .i64 c.fl,.int .i64 c.ld,vm],.int .i64 (sup:Int),vif] W fun e w'=>e=.returned (.int .i64 (ps.length:Int))∧(∃ vp' pv',HW w' N b mb (ps++[⟨c,sup,Zz (ps.map Plc.cl) sup ifs⟩]) vp' pv')∧Below N W w'∧∀ j<W.heap.size,j≠b→j≠mb→some j≠vp.ownBlock→w'.heap[j]?=W.heap[j]?:=by
 refine (Zf0 N b mb ps vp pv c vi vm pm sup vif ifs W hW hN hi hi1 hni hm hpm hnm hc hif hil hni2 hsup hn hnz).mono ?_
 rintro e w' ⟨h1,⟨vp',pv',h2,_⟩,h3⟩
 exact ⟨h1,⟨vp',pv',h2⟩,h3⟩
theorem add_any (N b mb:Nat) (ps:List Plc) (vp:Value) (pv:List PV) (c:HC) (vi vm:Value) (pm:List (HM×Value)) (sup:Nat) (vif:Value) (ifs:List Nat) (W:World)
 (hW:HW W N b mb ps vp pv) (hN:N≤W.heap.size) (hi:Rds W vi c.ni 1 c.xi) (hi1:∀ u∈c.xi,u.oneCell'=true) (hni:c.ni≤1000000)
 (hm:Rds W vm pm.length 6 (Zm pm)) (hpm:pm.map Prod.fst=c.ms) (hnm:pm.length≤1000000) (hc:∀ p∈pm,Rds W p.2 p.1.n 7 p.1.xs∧(∀ u∈p.1.xs,u.oneCell'=true)∧p.1.n≤1000000)
 (hif:Rds W vif ifs.length 1 (ifs.map numV)) (hil:∀ i∈ifs,i<ps.length) (hni2:ifs.length≤1000) (hsup:sup≤300) (hn:ps.length<300) (hnz:c.nm.size≤maxLen) :
 Calls Tryz.prog 26 #[.pointer (some ⟨b,0,none⟩),.agg #[.string c.nm,.string c.su,vi,.int .i64 c.fl,.int .i64 c.ld,vm],.int .i64 (sup:Int),vif] W fun e w'=>e=.returned (.int .i64 (ps.length:Int))∧(∃ vp' pv',HW w' N b mb (ps++[⟨c,sup,Zz (ps.map Plc.cl) sup ifs⟩]) vp' pv')∧Below N W w'∧∀ j<W.heap.size,j≠b→j≠mb→some j≠vp.ownBlock→w'.heap[j]?=W.heap[j]? :=
 addw_any N b mb ps vp pv c vi vm pm sup vif ifs W hW hN (.inl hi) hi1 hni (.inl hm) hpm hnm (fun p hp=>⟨.inl (hc p hp).1,(hc p hp).2⟩) hif hil hni2 hsup hn hnz
def insL (op n:Int):List Value:=[.int .i64 op,.int .i64 n,.string ⟨#[]⟩,.bool false,.string ⟨#[]⟩,.string ⟨#[]⟩,.string ⟨#[]⟩]
def tObj:ByteArray:=⟨#[79,98,106,101,99,116]⟩
def Zet:List HM:=[⟨⟨#[60,105,110,105,116,62]⟩,⟨#[40,41,86]⟩,1,1,0,1,insL 38 0⟩,⟨⟨#[105,100]⟩,⟨#[40,41,73]⟩,1,1,1,2,insL 1 7++insL 36 0⟩,⟨⟨#[107,105,110]⟩,⟨#[40,41,76,79,98,106,101,99,116,59]⟩,4,1,1,2,insL 4 0++insL 37 0⟩]
theorem Zfh (w:World) (m:Nat) (hm:w.heap.size=m) (cs:Array Value) (t:TypeId) (n k:Nat) (hl:cs.toList.length=n * k) (hn:n≤maxLen):Rds (w.alloc (.cells cs t)) (.slice (some ⟨m,0,none⟩) n n) n k cs.toList:=by
 subst hm
 refine ⟨hl,.inr ⟨w.heap.size,0,n,rfl,Nat.le_refl _,hn,by simp,fun j u hj=>?_⟩⟩
 rw [Nat.zero_add,cell_of_row _ w.heap.size j _ _ _ (heap_alloc_new w _)]
 simpa using hj
theorem Zes (W:World):Calls Tryz.prog 46 #[] W fun e w'=>∃ g pm,e=.returned (.agg #[.string tObj,.string ⟨#[]⟩,.slice none 0 0,.int .i64 33,.int .i64 0,.slice (some ⟨g,0,none⟩) 3 3])∧Rds w' (.slice (some ⟨g,0,none⟩) 3 3) 3 6 (Zm pm)∧pm.map Prod.fst=Zet∧(∀ p∈pm,Rds w' p.2 p.1.n 7 p.1.xs∧(∀ u∈p.1.xs,u.oneCell'=true)∧p.1.n≤1000000)∧Bw W w':=by
 go_enter Tryz.func46,Tryz.ntmps46
 go_wp2
 refine bodyPost_ret (v:=.agg #[.string tObj,.string ⟨#[]⟩,.slice none 0 0,.int .i64 33,.int .i64 0,.slice (some ⟨W.heap.size+1+1+1+1,0,none⟩) 3 3]) (by simp [results,Tryz.results46,go_sem,tObj]) rfl ⟨_,[(⟨⟨#[60,105,110,105,116,62]⟩,⟨#[40,41,86]⟩,1,1,0,1,insL 38 0⟩,.slice (some ⟨W.heap.size+1,0,none⟩) 1 1),(⟨⟨#[105,100]⟩,⟨#[40,41,73]⟩,1,1,1,2,insL 1 7++insL 36 0⟩,.slice (some ⟨W.heap.size+1+1,0,none⟩) 2 2),(⟨⟨#[107,105,110]⟩,⟨#[40,41,76,79,98,106,101,99,116,59]⟩,4,1,1,2,insL 4 0++insL 37 0⟩,.slice (some ⟨W.heap.size+1+1+1,0,none⟩) 2 2)],rfl,?_,rfl,?_,?_⟩
 ·exact Zfh _ _ (by simp) _ 48 3 6 rfl (by decide)
 ·intro p hp
  simp only [List.mem_cons,List.not_mem_nil,or_false] at hp
  have one:∀ a b:Int,∀ u∈insL a b,u.oneCell'=true:=fun a b u hu=>by
   simp only [insL,List.mem_cons,List.not_mem_nil,or_false] at hu
   rcases hu with rfl|rfl|rfl|rfl|rfl|rfl|rfl <;> rfl
  rcases hp with rfl|rfl|rfl
  ·refine ⟨(Zfh _ _ (by simp) _ 56 1 7 rfl (by decide)).keep ((((Below.refl _ _).alloc (Nat.le_refl _) _).alloc (by simp) _).alloc (by simp only [World.size_alloc];omega) _),one _ _,show (1:Nat)≤1000000 by decide⟩
  ·refine ⟨(Zfh _ _ (by simp) _ 56 2 7 rfl (by decide)).keep (((Below.refl _ _).alloc (Nat.le_refl _) _).alloc (by simp) _),fun u hu=>?_,show (2:Nat)≤1000000 by decide⟩
   rcases List.mem_append.1 hu with h|h <;> exact one _ _ u h
  ·refine ⟨(Zfh _ _ (by simp) _ 56 2 7 rfl (by decide)).keep ((Below.refl _ _).alloc (Nat.le_refl _) _),fun u hu=>?_,show (2:Nat)≤1000000 by decide⟩
   rcases List.mem_append.1 hu with h|h <;> exact one _ _ u h
 ·exact (((((Below.refl _ _).alloc (Nat.le_refl _) _).alloc (by simp) _).alloc (by simp;omega) _).alloc (by simp;omega) _).alloc (by simp;omega) _
theorem Zbj (nm:ByteArray) (W:World):Calls Tryz.prog 47 #[.string nm] W fun e w'=>e=.returned (.agg #[.string nm,.string tObj,.slice none 0 0,.int .i64 1537,.int .i64 0,.slice none 0 0])∧Bw W w':=by
 go_enter Tryz.func47,Tryz.ntmps47
 go_wp2
 exact bodyPost_ret (v:=.agg #[.string nm,.string tObj,.slice none 0 0,.int .i64 1537,.int .i64 0,.slice none 0 0]) (by simp [results,Tryz.results47,go_sem,tObj]) rfl ⟨rfl,(Below.refl _ _).alloc (Nat.le_refl _) _⟩
def tClo:ByteArray:=⟨#[67,108,111,110,101,97,98,108,101]⟩
def tSer:ByteArray:=⟨#[83,101,114,105,97,108,105,122,97,98,108,101]⟩
theorem Zg3 (W:World):Calls Tryz.prog 25 #[] W fun e w'=>∃ f g pm,e=.returned (.slice (some ⟨f,0,none⟩) 3 3)∧w'.heap[f]?=some (.cells #[.string tObj,.string ⟨#[]⟩,.slice none 0 0,.int .i64 33,.int .i64 0,.slice (some ⟨g,0,none⟩) 3 3,.string tClo,.string tObj,.slice none 0 0,.int .i64 1537,.int .i64 0,.slice none 0 0,.string tSer,.string tObj,.slice none 0 0,.int .i64 1537,.int .i64 0,.slice none 0 0] 33 (0,0))∧Rds w' (.slice (some ⟨g,0,none⟩) 3 3) 3 6 (Zm pm)∧pm.map Prod.fst=Zet∧(∀ p∈pm,Rds w' p.2 p.1.n 7 p.1.xs∧(∀ u∈p.1.xs,u.oneCell'=true)∧p.1.n≤1000000)∧Bw W w':=by
 have HO:Hid (∀ w:World,Calls Tryz.prog 46 #[] w fun e w'=>∃ g pm,e=.returned (.agg #[.string tObj,.string ⟨#[]⟩,.slice none 0 0,.int .i64 33,.int .i64 0,.slice (some ⟨g,0,none⟩) 3 3])∧Rds w' (.slice (some ⟨g,0,none⟩) 3 3) 3 6 (Zm pm)∧pm.map Prod.fst=Zet∧(∀ p∈pm,Rds w' p.2 p.1.n 7 p.1.xs∧(∀ u∈p.1.xs,u.oneCell'=true)∧p.1.n≤1000000)∧Bw w w'):=Zes
 have H1:Hid (∀ w:World,Calls Tryz.prog 47 #[.string tClo] w fun e w'=>e=.returned (.agg #[.string tClo,.string tObj,.slice none 0 0,.int .i64 1537,.int .i64 0,.slice none 0 0])∧Bw w w'):=Zbj tClo
 have H2:Hid (∀ w:World,Calls Tryz.prog 47 #[.string tSer] w fun e w'=>e=.returned (.agg #[.string tSer,.string tObj,.slice none 0 0,.int .i64 1537,.int .i64 0,.slice none 0 0])∧Bw w w'):=Zbj tSer
 go_enter Tryz.func25,Tryz.ntmps25
 go_wp2_with (first
  | (go_at_call 46;refine (HO.out _).mono ?_;rintro e w1 ⟨g,pm,rfl,hr,hq,hc,hb⟩;have R1:Hid (Rds w1 (.slice (some ⟨g,0,none⟩) 3 3) 3 6 (Zm pm)):=hr;have Q1:Hid (pm.map Prod.fst=Zet):=hq;have C1:Hid (∀ p∈pm,Rds w1 p.2 p.1.n 7 p.1.xs∧(∀ u∈p.1.xs,u.oneCell'=true)∧p.1.n≤1000000):=hc;have B1:Hid (Bw W w1):=hb;clear hr hq hc hb HO)
  | (have h9:=H1;clear h9;go_at_call 47;refine (H1.out _).mono ?_;rintro e w2 ⟨rfl,hb⟩;have B2:Hid (Bw w1 w2):=hb;clear hb H1)
  | (have h9:=B2;clear h9;go_at_call 47;refine (H2.out _).mono ?_;rintro e w3 ⟨rfl,hb⟩;have B3:Hid (Bw w1 w3):=Zj B2.out hb;clear hb H2))
 have B4:Bw w1 (w3.alloc (.cells #[.string tObj,.string ⟨#[]⟩,.slice none 0 0,.int .i64 33,.int .i64 0,.slice (some ⟨g,0,none⟩) 3 3,.string tClo,.string tObj,.slice none 0 0,.int .i64 1537,.int .i64 0,.slice none 0 0,.string tSer,.string tObj,.slice none 0 0,.int .i64 1537,.int .i64 0,.slice none 0 0] 33)):=B3.out.alloc B3.out.size _
 exact bodyPost_ret (results_tmp rfl _ _ _) rfl ⟨w3.heap.size,g,pm,rfl,heap_alloc_new w3 _,R1.out.keep B4,Q1.out,fun p hp=>⟨(C1.out p hp).1.keep B4,(C1.out p hp).2⟩,Zj B1.out B4⟩
def objH:HC:=⟨tObj,⟨#[]⟩,0,[],33,0,Zet⟩
def cloH:HC:=⟨tClo,tObj,0,[],1537,0,[]⟩
def serH:HC:=⟨tSer,tObj,0,[],1537,0,[]⟩
def P3:List Plc:=[⟨objH,0,[]⟩,⟨cloH,0,[]⟩,⟨serH,0,[]⟩]
theorem HW.new (w:World):HW ((w.alloc (.map #[] 0)).alloc (.cells #[.slice none 0 0,.map (some w.heap.size)] 70)) w.heap.size (w.heap.size+1) w.heap.size [] (.slice none 0 0) []:=by
 have h1:=heap_alloc2_new w (.map #[] 0) (.cells #[.slice none 0 0,.map (some w.heap.size)] 70)
 exact ⟨h1,World.ownsRow_nil _ _ _ _,rfl,fun k p q h=>by simp at h,(World.ownsMap_made w _ _ _).alloc _,by omega,Nat.le_refl _,fun q hq=>by simp at hq⟩
theorem Zic (W:World):Calls Tryz.prog 5 #[] W fun e w'=>e=.returned (.pointer (some ⟨W.heap.size+1,0,none⟩))∧(∃ vp pv,HW w' W.heap.size (W.heap.size+1) W.heap.size P3 vp pv)∧Bw W w':=by
 have HF:Hid (∀ w:World,Calls Tryz.prog 25 #[] w fun e w'=>∃ f g pm,e=.returned (.slice (some ⟨f,0,none⟩) 3 3)∧w'.heap[f]?=some (.cells #[.string tObj,.string ⟨#[]⟩,.slice none 0 0,.int .i64 33,.int .i64 0,.slice (some ⟨g,0,none⟩) 3 3,.string tClo,.string tObj,.slice none 0 0,.int .i64 1537,.int .i64 0,.slice none 0 0,.string tSer,.string tObj,.slice none 0 0,.int .i64 1537,.int .i64 0,.slice none 0 0] 33 (0,0))∧Rds w' (.slice (some ⟨g,0,none⟩) 3 3) 3 6 (Zm pm)∧pm.map Prod.fst=Zet∧(∀ p∈pm,Rds w' p.2 p.1.n 7 p.1.xs∧(∀ u∈p.1.xs,u.oneCell'=true)∧p.1.n≤1000000)∧Bw w w'):=Zg3
 have hmm:=@run_makeMap Tryz.prog
 obtain ⟨Wc,hWc⟩:∃ x,x=(W.alloc (.map #[] 0)).alloc (.cells #[.slice none 0 0,.map (some W.heap.size)] 70):=⟨_,rfl⟩
 have HW0:Hid (HW Wc W.heap.size (W.heap.size+1) W.heap.size [] (.slice none 0 0) []):=by rw [hWc];exact HW.new W
 have HB0:Hid (Bw W Wc):=by rw [hWc];exact ((Below.refl _ _).alloc (Nat.le_refl _) _).alloc (by simp) _
 have HWE:Hid (Wc=(W.alloc (.map #[] 0)).alloc (.cells #[.slice none 0 0,.map (some W.heap.size)] 70)):=hWc
 have hWs:Wc.heap.size=W.heap.size+2:=by rw [hWc];simp
 clear hWc
 go_enter Tryz.func5,Tryz.ntmps5
 go_wp2_with (go_at_call 25;rw [← HWE.out];refine (HF.out _).mono ?_;rintro e w1 ⟨f,g,pm,rfl,hf,hr,hq,hc,hb⟩;have F1:Hid (w1.heap[f]?=_):=hf;have R1:Hid (Rds w1 (.slice (some ⟨g,0,none⟩) 3 3) 3 6 (Zm pm)):=hr;have Q1:Hid (pm.map Prod.fst=Zet):=hq;have C1:Hid (∀ p∈pm,Rds w1 p.2 p.1.n 7 p.1.xs∧(∀ u∈p.1.xs,u.oneCell'=true)∧p.1.n≤1000000):=hc;have H1:Hid (HW w1 W.heap.size (W.heap.size+1) W.heap.size [] (.slice none 0 0) []):=HW0.out.below hb;have B1:Hid (Bw W w1):=Zj HB0.out hb;clear hf hr hq hc hb HF HW0 HB0 HWE)
 have HPL:Hid (pm.length=3):=by have h9:=congrArg List.length Q1.out;rw [List.length_map] at h9;exact h9
 have hfl:f<w1.heap.size:=(Array.getElem?_eq_some_iff.1 F1.out).1
 have HA:Hid (∀ (k:Nat) (q:Plc) (vm:Value) (pm':List (HM×Value)) (w:World) (vp:Value) (pv:List PV),P3[k]?=some q→HW w W.heap.size (W.heap.size+1) W.heap.size (P3.take k) vp pv→W.heap.size≤w.heap.size→Rds w vm pm'.length 6 (Zm pm')→pm'.map Prod.fst=q.c.ms→pm'.length≤3→(∀ p∈pm',Rds w p.2 p.1.n 7 p.1.xs∧(∀ u∈p.1.xs,u.oneCell'=true)∧p.1.n≤1000000) →
  Calls Tryz.prog 26 #[.pointer (some ⟨W.heap.size+1,0,none⟩),.agg #[.string q.c.nm,.string q.c.su,.slice none 0 0,.int .i64 q.c.fl,.int .i64 q.c.ld,vm],.int .i64 0,.slice none 0 0] w fun e w'=>e=.returned (.int .i64 (k:Int))∧(∃ vp' pv',HW w' W.heap.size (W.heap.size+1) W.heap.size (P3.take (k+1)) vp' pv')∧Below W.heap.size w w'∧∀ j<w.heap.size,j≠W.heap.size+1→j≠W.heap.size→some j≠vp.ownBlock→w'.heap[j]?=w.heap[j]?):=by
  intro k q vm pm' w vp pv hq hw hs hr he hl hc
  have hk:k<3:=(List.getElem?_eq_some_iff.1 hq).1
  have hlen:(P3.take k).length=k:=by rw [List.length_take];show min k 3=k;omega
  have hcs:q.sp=0∧q.cl=[]∧q.c.ni=0∧q.c.xi=[]∧q.c.nm.size≤maxLen:=by
   have:q∈P3:=List.mem_of_getElem? hq
   simp only [P3,List.mem_cons,List.not_mem_nil,or_false] at this
   rcases this with rfl|rfl|rfl <;> exact ⟨rfl,rfl,rfl,rfl,by decide⟩
  have hg:Zz ((P3.take k).map Plc.cl) 0 []=[]:=by
   have:∀ j,j<3→Zz ((P3.take j).map Plc.cl) 0 []=[]:=fun j hj=>by
    match j,hj with
    | 0,_=>rfl
    | 1,_=>rfl
    | 2,_=>rfl
   exact this k hk
  have h:=add_any W.heap.size (W.heap.size+1) W.heap.size (P3.take k) vp pv q.c (.slice none 0 0) vm pm' 0 (.slice none 0 0) [] w hw hs ⟨by rw [hcs.2.2.2.1,hcs.2.2.1];rfl,.inl ⟨rfl,hcs.2.2.1⟩⟩ (by rw [hcs.2.2.2.1];simp) (by rw [hcs.2.2.1];omega) hr he (by omega) hc ⟨rfl,.inl ⟨rfl,rfl⟩⟩ (by simp) (by simp) (by omega) (by rw [hlen];omega) hcs.2.2.2.2
  rw [hlen,hg] at h
  have e:P3.take (k+1)=P3.take k++[⟨q.c,0,[]⟩]:=by
   rw [List.take_add_one,hq]
   obtain ⟨qc,qs,ql⟩:=q
   simp only at hcs
   rw [hcs.1,hcs.2.1];rfl
  rw [e]
  exact h
 go_loopw [9] (fun kv wr=>∃ (k:Nat) (vp:Value) (pv:List PV),kv=.int .i64 k∧k≤3∧Hid (HW wr W.heap.size (W.heap.size+1) W.heap.size (P3.take k) vp pv)∧Hid (wr.heap[f]?=w1.heap[f]?)∧Hid (k=0→Bw w1 wr)∧Hid (Bw W wr)) (fun kv _=>3 - (intOf kv).toNat)
 case atStart=>exact ⟨0,_,_,rfl,by decide,H1,rfl,fun _=>Below.refl _ _,B1⟩
 case round =>
  obtain ⟨k,vp,pv,rfl,hk,hH,hF,hZ,hB⟩:=hrel
  have hff:=hF.out.trans F1.out
  have e0:=cell_of_row wr f 0 _ _ _ hff
  have e1:=cell_of_row wr f 1 _ _ _ hff
  have e2:=cell_of_row wr f 2 _ _ _ hff
  have e3:=cell_of_row wr f 3 _ _ _ hff
  have e4:=cell_of_row wr f 4 _ _ _ hff
  have e5:=cell_of_row wr f 5 _ _ _ hff
  have e6:=cell_of_row wr f 6 _ _ _ hff
  have e7:=cell_of_row wr f 7 _ _ _ hff
  have e8:=cell_of_row wr f 8 _ _ _ hff
  have e9:=cell_of_row wr f 9 _ _ _ hff
  have e10:=cell_of_row wr f 10 _ _ _ hff
  have e11:=cell_of_row wr f 11 _ _ _ hff
  have e12:=cell_of_row wr f 12 _ _ _ hff
  have e13:=cell_of_row wr f 13 _ _ _ hff
  have e14:=cell_of_row wr f 14 _ _ _ hff
  have e15:=cell_of_row wr f 15 _ _ _ hff
  have e16:=cell_of_row wr f 16 _ _ _ hff
  have e17:=cell_of_row wr f 17 _ _ _ hff
  simp only [List.getElem?_toArray,List.getElem?_cons_zero,List.getElem?_cons_succ] at e0 e1 e2 e3 e4 e5 e6 e7 e8 e9 e10 e11 e12 e13 e14 e15 e16 e17
  have hfr:f<wr.heap.size:=(Array.getElem?_eq_some_iff.1 hff).1
  have hn1:f≠W.heap.size+1:=fun e=>by have h9:=hH.out.hb;rw [← e,hff] at h9;simp at h9
  have hn2:f≠W.heap.size:=fun e=>by obtain ⟨es,ck,hmb,_⟩:=hH.out.map;rw [← e,hff] at hmb;simp at hmb
  have hn3:some f≠vp.ownBlock:=by
   rcases Ze hH.out.row hff (by decide) with e|e
   ·rw [e];simp
   ·exact fun e2=>e e2.symm
  clear hff
  by_cases hlt:k<3
  ·obtain rfl|rfl|rfl:k=0∨k=1∨k=2:=by omega
   ·have hkk:(0:Int)<3:=by decide
    have HK:Hid (∀ w:World,Bw wr w→Calls Tryz.prog 26 #[.pointer (some ⟨W.heap.size+1,0,none⟩),.agg #[.string tObj,.string ⟨#[]⟩,.slice none 0 0,.int .i64 33,.int .i64 0,.slice (some ⟨g,0,none⟩) 3 3],.int .i64 0,.slice none 0 0] w fun e w'=>e=.returned (.int .i64 ((0:Nat):Int))∧(∃ vp' pv',HW w' W.heap.size (W.heap.size+1) W.heap.size (P3.take 1) vp' pv')∧Below W.heap.size w w'∧∀ j<w.heap.size,j≠W.heap.size+1→j≠W.heap.size→some j≠vp.ownBlock→w'.heap[j]?=w.heap[j]?):=fun w hb=>HA.out 0 ⟨objH,0,[]⟩ (.slice (some ⟨g,0,none⟩) 3 3) pm w vp pv rfl (hH.out.below hb) (Nat.le_trans hB.out.size hb.size) (by rw [HPL.out];exact R1.out.keep (Zj (hZ.out rfl) hb)) Q1.out (by rw [HPL.out];decide) (fun p hp=>⟨(C1.out p hp).1.keep (Zj (hZ.out rfl) hb),(C1.out p hp).2⟩)
    obtain ⟨Wm,hWm⟩:∃ x,x=wr.alloc (.cells #[.string tObj,.string ⟨#[]⟩,.slice none 0 0,.int .i64 33,.int .i64 0,.slice (some ⟨g,0,none⟩) 3 3] 33):=⟨_,rfl⟩
    have HWm:Hid (Bw wr Wm):=by rw [hWm];exact (Below.refl _ _).alloc (Nat.le_refl _) _
    have HWE:Hid (Wm=wr.alloc (.cells #[.string tObj,.string ⟨#[]⟩,.slice none 0 0,.int .i64 33,.int .i64 0,.slice (some ⟨g,0,none⟩) 3 3] 33)):=hWm
    clear hWm
    go_wp2_with (go_at_call 26;rw [← HWE.out];refine (HK.out _ HWm.out).mono ?_;rintro e w2 ⟨rfl,⟨vp',pv',hw2⟩,hb2,hj2⟩;have H2:Hid (HW w2 W.heap.size (W.heap.size+1) W.heap.size (P3.take 1) vp' pv'):=hw2;have B2:Hid (Bw W w2):=(hB.out.trans (HWm.out.mono hB.out.size)).trans hb2;have F2:Hid (w2.heap[f]?=w1.heap[f]?):=((hj2 f (Nat.lt_of_lt_of_le hfr HWm.out.size) hn1 hn2 hn3).trans (HWm.out.block f hfr)).trans hF.out;clear hw2 hb2 hj2 HK)
    go_roundw
    case rel=>exact ⟨1,vp',pv',rfl,by decide,H2,F2,fun h=>by omega,B2⟩
    case measure=>simp [intOf]
   ·have hkk:(1:Int)<3:=by decide
    have HK:Hid (∀ w:World,Bw wr w→Calls Tryz.prog 26 #[.pointer (some ⟨W.heap.size+1,0,none⟩),.agg #[.string tClo,.string tObj,.slice none 0 0,.int .i64 1537,.int .i64 0,.slice none 0 0],.int .i64 0,.slice none 0 0] w fun e w'=>e=.returned (.int .i64 ((1:Nat):Int))∧(∃ vp' pv',HW w' W.heap.size (W.heap.size+1) W.heap.size (P3.take 2) vp' pv')∧Below W.heap.size w w'∧∀ j<w.heap.size,j≠W.heap.size+1→j≠W.heap.size→some j≠vp.ownBlock→w'.heap[j]?=w.heap[j]?):=fun w hb=>HA.out 1 ⟨cloH,0,[]⟩ (.slice none 0 0) [] w vp pv rfl (hH.out.below hb) (Nat.le_trans hB.out.size hb.size) ⟨rfl,.inl ⟨rfl,rfl⟩⟩ rfl (by decide) (fun p hp=>by simp at hp)
    obtain ⟨Wm,hWm⟩:∃ x,x=wr.alloc (.cells #[.string tClo,.string tObj,.slice none 0 0,.int .i64 1537,.int .i64 0,.slice none 0 0] 33):=⟨_,rfl⟩
    have HWm:Hid (Bw wr Wm):=by rw [hWm];exact (Below.refl _ _).alloc (Nat.le_refl _) _
    have HWE:Hid (Wm=wr.alloc (.cells #[.string tClo,.string tObj,.slice none 0 0,.int .i64 1537,.int .i64 0,.slice none 0 0] 33)):=hWm
    clear hWm
    go_wp2_with (go_at_call 26;rw [← HWE.out];refine (HK.out _ HWm.out).mono ?_;rintro e w2 ⟨rfl,⟨vp',pv',hw2⟩,hb2,hj2⟩;have H2:Hid (HW w2 W.heap.size (W.heap.size+1) W.heap.size (P3.take 2) vp' pv'):=hw2;have B2:Hid (Bw W w2):=(hB.out.trans (HWm.out.mono hB.out.size)).trans hb2;have F2:Hid (w2.heap[f]?=w1.heap[f]?):=((hj2 f (Nat.lt_of_lt_of_le hfr HWm.out.size) hn1 hn2 hn3).trans (HWm.out.block f hfr)).trans hF.out;clear hw2 hb2 hj2 HK)
    go_roundw
    case rel=>exact ⟨2,vp',pv',rfl,by decide,H2,F2,fun h=>by omega,B2⟩
    case measure=>simp [intOf]
   ·have hkk:(2:Int)<3:=by decide
    have HK:Hid (∀ w:World,Bw wr w→Calls Tryz.prog 26 #[.pointer (some ⟨W.heap.size+1,0,none⟩),.agg #[.string tSer,.string tObj,.slice none 0 0,.int .i64 1537,.int .i64 0,.slice none 0 0],.int .i64 0,.slice none 0 0] w fun e w'=>e=.returned (.int .i64 ((2:Nat):Int))∧(∃ vp' pv',HW w' W.heap.size (W.heap.size+1) W.heap.size (P3.take 3) vp' pv')∧Below W.heap.size w w'∧∀ j<w.heap.size,j≠W.heap.size+1→j≠W.heap.size→some j≠vp.ownBlock→w'.heap[j]?=w.heap[j]?):=fun w hb=>HA.out 2 ⟨serH,0,[]⟩ (.slice none 0 0) [] w vp pv rfl (hH.out.below hb) (Nat.le_trans hB.out.size hb.size) ⟨rfl,.inl ⟨rfl,rfl⟩⟩ rfl (by decide) (fun p hp=>by simp at hp)
    obtain ⟨Wm,hWm⟩:∃ x,x=wr.alloc (.cells #[.string tSer,.string tObj,.slice none 0 0,.int .i64 1537,.int .i64 0,.slice none 0 0] 33):=⟨_,rfl⟩
    have HWm:Hid (Bw wr Wm):=by rw [hWm];exact (Below.refl _ _).alloc (Nat.le_refl _) _
    have HWE:Hid (Wm=wr.alloc (.cells #[.string tSer,.string tObj,.slice none 0 0,.int .i64 1537,.int .i64 0,.slice none 0 0] 33)):=hWm
    clear hWm
    go_wp2_with (go_at_call 26;rw [← HWE.out];refine (HK.out _ HWm.out).mono ?_;rintro e w2 ⟨rfl,⟨vp',pv',hw2⟩,hb2,hj2⟩;have H2:Hid (HW w2 W.heap.size (W.heap.size+1) W.heap.size (P3.take 3) vp' pv'):=hw2;have B2:Hid (Bw W w2):=(hB.out.trans (HWm.out.mono hB.out.size)).trans hb2;have F2:Hid (w2.heap[f]?=w1.heap[f]?):=((hj2 f (Nat.lt_of_lt_of_le hfr HWm.out.size) hn1 hn2 hn3).trans (HWm.out.block f hfr)).trans hF.out;clear hw2 hb2 hj2 HK)
    go_roundw
    case rel=>exact ⟨3,vp',pv',rfl,by decide,H2,F2,fun h=>by omega,B2⟩
    case measure=>simp [intOf]
  ·have hk3:k=3:=by omega
   subst hk3
   go_wp2
   exact bodyPost_ret (results_tmp rfl _ _ _) rfl ⟨rfl,⟨_,_,hH.out⟩,hB.out⟩
end Go.Proofs.YtkoogmegdfpopaaGreat
