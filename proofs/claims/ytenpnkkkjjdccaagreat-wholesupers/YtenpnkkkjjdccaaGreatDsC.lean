import Derived.Test.YtenpnkkkjjdccaaGreatHkN
import Derived.Test.YtenpnkkkjjdccaaGreatMxE
import Derived.Test.YtenpnkkkjjdccaaGreatOvA
import Derived.Deep.DeepCutAuto
import Derived.Deep.RegionLaw
set_option maxRecDepth 100000
namespace Go.Proofs.YtenpnkkkjjdccaaGreat
open Go.RowKit Go.Maps
def dnL (ps:List Plc) (k:Nat):List Nat:=(chL (ps.map nd) k).reverse
def lookN:List Nat→Nat→Nat
  | [],_=>0
  | x::r,t=>if x=t then 1 else lookN r t+1
def atB (D:List Nat) (n t:Nat):Bool:=match D[n]? with
  | some x=>x == t
  | none=>false
def rdN (ps:List Plc) (s t:Nat):Nat:=if ifcI ps (t:Int) then (if s=t then 1 else lookN (clO (ps.map nd) s) t+1) else 1
theorem lookN_at {l:List Nat} {t i x:Nat} (h:l[i]?=some x):lookN (l.drop i) t=if x=t then 1 else lookN (l.drop (i+1)) t+1:=by
  obtain ⟨h1,h2⟩:=List.getElem?_eq_some_iff.1 h
  rw [List.drop_eq_getElem_cons h1,h2,lookN]
theorem hasN_at {l:List Nat} {t i x:Nat} (h:l[i]?=some x):(l.drop i).contains t=if x=t then true else (l.drop (i+1)).contains t:=by
  obtain ⟨h1,h2⟩:=List.getElem?_eq_some_iff.1 h
  rw [List.drop_eq_getElem_cons h1,h2,List.contains_cons]
  by_cases e:x=t
  · subst e;simp
  · have:(t == x)=false:=by simpa using fun e2=>e e2.symm
    rw [if_neg e,this,Bool.false_or]
theorem ch_suffix {ns:List Nd} (h:WO ns) (a:Nat) (ha:a<ns.length):∀ b∈chL ns a,∃ pre,chL ns a=pre++chL ns b:=by
  refine ch_ind h (P:=fun a=>∀ b∈chL ns a,∃ pre,chL ns a=pre++chL ns b) ?_ ?_ a ha
  · intro b hb
    rw [chL_zero,List.mem_singleton] at hb
    subst hb
    exact ⟨[],rfl⟩
  · intro k hk h0 _ ih b hb
    rw [chL_cons h hk h0,List.mem_cons] at hb
    rcases hb with rfl|hb
    · exact ⟨[],rfl⟩
    · obtain ⟨pre,e⟩:=ih b hb
      exact ⟨k::pre,by rw [chL_cons h hk h0,e];rfl⟩
theorem dn_own (ns:List Nd) (k:Nat):(chL ns k).reverse[(chL ns k).length - 1]?=some k:=by
  have hp:=ch_pos (ns:=ns) k
  rw [List.getElem?_reverse (by omega),show (chL ns k).length - 1 - ((chL ns k).length - 1)=0 by omega]
  exact ch_head k
theorem dn_at {ns:List Nd} (h:WO ns) {a b:Nat} (ha:a<ns.length) (hb:b∈chL ns a):(chL ns a).reverse[(chL ns b).length - 1]?=some b:=by
  obtain ⟨pre,e⟩:=ch_suffix h a ha b hb
  have hp:=ch_pos (ns:=ns) b
  rw [e,List.reverse_append,List.getElem?_append_left (by rw [List.length_reverse];omega)]
  exact dn_own ns b
theorem atB_mem {ns:List Nd} (h:WO ns) {a b:Nat} (ha:a<ns.length):atB (chL ns a).reverse ((chL ns b).length - 1) b=(chL ns a).contains b:=by
  rw [Bool.eq_iff_iff,List.contains_iff_mem]
  constructor
  · intro e
    rw [atB] at e
    split at e
    · rename_i x hx
      rw [beq_iff_eq] at e
      subst e
      exact List.mem_reverse.1 (List.mem_of_getElem? hx)
    · cases e
  · intro e
    rw [atB,dn_at h ha e]
    exact beq_self_eq_true b
theorem ifc_at {ps:List Plc} {k:Nat} {q:Plc} (h:ps[k]?=some q):(ps.map nd)[k]?=some (nd q)∧(nd q).i=ifcI ps (k:Int):=by
  refine ⟨nd_at' h,?_⟩
  rw [ifcI,plcI_nat,h]
  rfl
theorem ext_class {ps:List Plc} (hW:WI ps) {s t:Nat} {q r:Plc} (hs:ps[s]?=some q) (ht:ps[t]?=some r) (hf:ifcI ps (t:Int)=false):extI ps (s:Int) (t:Int)=atB (dnL ps s) ((chL (ps.map nd) t).length - 1) t:=by
  have hsl:s<(ps.map nd).length:=by rw [List.length_map];exact (List.getElem?_eq_some_iff.1 hs).1
  rw [extI,plcI_nat,plcI_nat,hs,ht,dnL,atB_mem hW.wo hsl,Int.toNat_natCast,Int.toNat_natCast,extB]
  have hc:(clO (ps.map nd) s).contains t=false:=by
    rw [← Bool.not_eq_true,List.contains_iff_mem]
    intro hm
    obtain ⟨_,_,p,hp,hi,_⟩:=cl_facts hW.wo hm
    obtain ⟨e1,e2⟩:=ifc_at ht
    rw [e1] at hp
    cases hp
    rw [e2,hf] at hi
    cases hi
  rw [hc,Bool.or_false]
  rfl
theorem ext_iface {ps:List Plc} (hW:WI ps) {s t:Nat} {q r:Plc} (hs:ps[s]?=some q) (ht:ps[t]?=some r) (hf:ifcI ps (t:Int)=true) (hn:s≠t):extI ps (s:Int) (t:Int)=q.cl.contains t:=by
  have hsl:s<(ps.map nd).length:=by rw [List.length_map];exact (List.getElem?_eq_some_iff.1 hs).1
  rw [extI,plcI_nat,plcI_nat,hs,ht,Int.toNat_natCast,Int.toNat_natCast,extB]
  have hc:(chL (ps.map nd) s).contains t=false:=by
    rw [← Bool.not_eq_true,List.contains_iff_mem]
    intro hm
    obtain ⟨e1,e2⟩:=ifc_at ht
    have:=ch_plain hW.wo s hsl t hm hn.symm _ e1
    rw [e2,hf] at this
    cases this
  rw [hc,Bool.false_or,clO,nd_at' hs]
  rfl
theorem ext_own {ps:List Plc} {s:Nat} {q:Plc} (hs:ps[s]?=some q):extI ps (s:Int) (s:Int)=true:=by
  rw [extI,plcI_nat,hs,Int.toNat_natCast,ext_self];rfl
theorem cl_at {ps:List Plc} {s:Nat} {q:Plc} (hs:ps[s]?=some q):clO (ps.map nd) s=q.cl:=by
  rw [clO,nd_at' hs];rfl
theorem cl_len {ps:List Plc} (hW:WI ps) {s:Nat} {q:Plc} (hs:ps[s]?=some q):q.cl.length≤300:=by
  have hcl:=hW.wo.cl s (nd q) (nd_at' hs)
  have:=List.Nodup.length_le_of_subset hcl.1 (l₂:=List.range ps.length) (fun i hi=>List.mem_range.2 (by
    have:=(hcl.2 i hi).1
    have:=(List.getElem?_eq_some_iff.1 hs).1
    omega))
  rw [List.length_range] at this
  have h2:=hW.hi
  have h3:q.cl.length≤ps.length:=this
  omega
theorem dn_len (ps:List Plc) (k:Nat):(dnL ps k).length=(chL (ps.map nd) k).length:=List.length_reverse
theorem dn_le {ps:List Plc} (hW:WI ps) {k:Nat} (hk:k<ps.length):(dnL ps k).length≤300:=by
  have hkl:k<(ps.map nd).length:=by rw [List.length_map];exact hk
  have:=List.Nodup.length_le_of_subset (ch_nodup hW.wo k hkl) (l₂:=List.range ps.length) (fun i hi=>List.mem_range.2 (by
    have:=ch_le hW.wo k hkl i hi
    omega))
  rw [List.length_range] at this
  have h2:=hW.hi
  rw [dn_len]
  omega
theorem eqNilI2 (g o n cap:Nat) (w:World):(binOp .eql 63 (.slice (some ⟨g,o,none⟩) n cap) (.slice none 0 0)).run Tryz.prog w=.ok (.bool false) w:=by
  have h:(Op.equalIn (9999+1) 63 (.slice (some ⟨g,o,none⟩) n cap) (.slice none 0 0)).run Tryz.prog w=.ok false w:=by
    rw [Op.equalIn]
    simp [run_underlying Tryz.underlying63,go_sem]
  have h2:(Op.equal 63 (.slice (some ⟨g,o,none⟩) n cap) (.slice none 0 0)).run Tryz.prog w=.ok false w:=h
  simp [binOp,h2,go_sem]
theorem Tryz.hinfoInt:(Tryz.prog.info? 3).map (fun i=>(i.zero,i.size,i.bytes))=some (some (.int .i64 0),1,8):=by kernel_rfl
set_option maxHeartbeats 1000000 in
theorem cloI_any (l:List Nat) (g og cap:Nat) (W:World) (h:Rdw W (.slice (some ⟨g,og,none⟩) l.length cap) l.length 1 (l.map numV)) (hn:l.length≤1000000000):Calls Tryz.prog 332 #[.slice (some ⟨g,og,none⟩) l.length cap] W fun e w'=>∃ v',e=.returned v'∧w'.ownsRow W.heap.size 3 1 v' l.length (l.map numV)∧Below W.heap.size W w':=by
  obtain ⟨i0,hi0,hz0,hz1,hz2⟩:=info_parts Tryz.hinfoInt
  have HR:Hid (∀ o,Rdw (W.alloc o) (.slice (some ⟨g,og,none⟩) l.length cap) l.length 1 (l.map numV)):=fun o=>h.keep ((Below.refl _ W).alloc (Nat.le_refl _) o)
  have HO:Hid (∀ u∈l.map numV,u.oneCell'=true):=by
    intro u hu
    obtain ⟨x,_,rfl⟩:=List.mem_map.1 hu
    rfl
  obtain ⟨K,hK⟩:∃ K,l.length=K:=⟨_,rfl⟩
  rw [hK] at hn HR ⊢
  generalize l.map numV=xs at *
  clear h hK
  have G2:=eqNilI2 g og K cap
  go_enter Tryz.func332,Tryz.ntmps332
  go_wp2_with (at_builtin;refine wpList_append_rdw rfl _ _ 63 rfl W.heap.size 3 i0 (.int .i64 0) 1 8 Tryz.underlying63 hi0 hz0 hz1 hz2 rfl (by decide) (.slice (some ⟨W.heap.size,0,none⟩) 0 0) 0 [] rfl (own_empty _ _ rfl _ _ _ (Nat.le_refl _)) (.slice (some ⟨g,og,none⟩) K cap) K xs rfl (HR.out _) HO.out ?c1 ?c2 ?c3 ?_)
  case c1=>unfold maxLen;omega
  case c2=>omega
  case c3=>simp
  intro v' w2 hown hgrow
  obtain ⟨va2,vn2,rfl⟩:=ownv hown
  try simp only [Nat.zero_add] at hown
  try simp only [List.nil_append] at hown
  have B2:Hid (Below W.heap.size W w2):=by
    refine Below.grown (w:=_) ((Below.refl _ W).alloc (Nat.le_refl _) (.cells #[] 3)) hgrow (by simp) (fun x hx=>?_)
    simp [Value.ownBlock] at hx;omega
  have O2:Hid _:=hown
  clear hown hgrow
  go_wp2
  refine bodyPost_ret (results_tmp rfl _ _ _) rfl ⟨_,rfl,?_,B2.out⟩
  exact O2.out
theorem rev_snoc {l:List Nat} {i x:Nat} (hi:i<l.length) (hx:l[l.length - 1 - i]?=some x):(l.reverse.take (i+1)).map numV=(l.reverse.take i).map numV++[numV x]:=by
  rw [List.take_add_one,List.getElem?_reverse hi,hx,List.map_append]
  rfl
set_option maxHeartbeats 4000000 in
theorem cd_w (W:World) (b:Nat) (x:Int) (l:List Nat) (n:Nat) (HN:Hid (l.length=n)) (hn:n≤1000000)
    (HC:Hid (Calls Tryz.prog 267 #[.pointer (some ⟨b,0,none⟩),.int .i64 x] W fun e w'=>NumsA (l,0) e w'∧Below W.heap.size W w')) :
    Calls Tryz.prog 331 #[.pointer (some ⟨b,0,none⟩),.int .i64 x] W fun e w'=>(∃ v,e=.returned v∧w'.ownsRow W.heap.size 3 1 v n (l.reverse.map numV))∧Below W.heap.size W w':=by
  obtain ⟨i0,hi0,hz0,hz1,hz2⟩:=info_parts Tryz.hinfoInt
  go_enter Tryz.func331,Tryz.ntmps331
  go_wp2_with (go_at_call 267;refine HC.out.mono ?_;rintro e w1 ⟨⟨ca,cc,rfl,hr⟩,hb⟩;simp only [HN.out] at hr ⊢;have R1:Hid (Rds w1 (.slice ca n cc) n 1 (l.map numV)):=hr;have B1:Hid (Below W.heap.size W w1):=hb;clear hr hb HC)
  go_loopw [7,17] (fun sv kv wr=>∃ (i:Nat),kv=.int .i64 i∧i≤n∧Hid (wr.ownsRow w1.heap.size 3 1 sv i ((l.reverse.take i).map numV))∧Hid (Below w1.heap.size w1 wr)) (fun _ kv _=>n - (intOf kv).toNat)
  case atStart=>exact ⟨0,rfl,Nat.zero_le _,World.ownsRow_nil _ _ _ _,Below.refl _ _⟩
  case round =>
    obtain ⟨i,rfl,hi,hO,hB⟩:=hrel
    by_cases hlt:i<n
    · have hiI:(i:Int)<(n:Int):=by omega
      have hj:n - 1 - i<l.length:=by rw [HN.out];omega
      obtain ⟨y,hy⟩:∃ y,l[n - 1 - i]?=some y:=⟨_,List.getElem?_eq_getElem hj⟩
      have HS:Hid ((l.reverse.take (i+1)).map numV=(l.reverse.take i).map numV++[numV y]):=rev_snoc (by rw [HN.out];exact hlt) (by rw [HN.out];exact hy)
      rcases R1.out.val with ⟨_,e⟩|⟨g,o,cap,e,_,_,hg,hcs⟩
      · exact absurd e (by omega)
      injection e with e1 _ e2
      subst e1 e2
      have hcell:=hcs (n - 1 - i) (.int .i64 (y:Int)) (by rw [List.getElem?_map,hy];rfl)
      have hcr:wr.cell? ⟨g,o+(n - 1 - i),none⟩=some (.int .i64 (y:Int)):=(hB.out.cell (p:=⟨g,o+(n - 1 - i),none⟩) hg).trans hcell
      obtain ⟨va,vn,rfl⟩:=ownv hO.out
      obtain ⟨j,hj2⟩:∃ j:Nat,n - 1 - i=j:=⟨_,rfl⟩
      rw [hj2] at hcr
      have hjI:(n:Int) - 1 - (i:Int)=(j:Int):=by omega
      have hjn:(j:Int)<(n:Int):=by omega
      generalize (l.reverse.take i).map numV=xs at *
      clear hcs hcell hy hj hj2
      go_wp2_with (at_builtin;refine wpList_append_own _ rfl _ _ 63 rfl w1.heap.size 3 i0 (.int .i64 0) 1 8 Tryz.underlying63 hi0 hz0 hz1 hz2 rfl (by decide) (.slice va i vn) i xs rfl (hO.out.alloc _) ⟨wr.heap.size,0,none⟩ 1 1 [.int .i64 (y:Int)] rfl rfl ?c1 ?c2 ?c3 ?c4 ?c5 ?_)
      case c2=>rfl
      case c3=>unfold maxLen;omega
      case c4=>omega
      case c5=>have:=hB.out.size;simp;omega
      intro v' w4 hown hgrow _
      obtain ⟨va2,vn2,rfl⟩:=ownv hown
      have B4:Hid (Below w1.heap.size w1 w4):=by
        have hb1:Below w1.heap.size w1 (wr.alloc (.cells #[.int .i64 (y:Int)] 3)):=hB.out.alloc hB.out.size _
        refine hb1.grown hgrow hb1.size (fun x hx=>?_)
        have:=(hO.out.lt x hx).1
        omega
      have O4:Hid (w4.ownsRow w1.heap.size 3 1 (.slice va2 (i+1) vn2) (i+1) (xs++[numV y])):=hown
      clear hown hgrow
      go_wp2
      refine ⟨⟨i+1,by simp,by omega,?_,B4⟩,by simp [intOf];omega⟩
      rw [HS.out];exact O4
    · have e:i=n:=by omega
      subst e
      have HE:Hid (l.reverse.take i=l.reverse):=List.take_of_length_le (by rw [List.length_reverse,HN.out];exact Nat.le_refl _)
      rw [HE.out] at hO
      obtain ⟨va,vn,rfl⟩:=ownv hO.out
      go_wp2
      exact bodyPost_ret (results_tmp rfl _ _ _) rfl ⟨⟨_,rfl,Go.Joins.ownsRow_le hO.out B1.out.size⟩,B1.out.trans (hB.out.mono B1.out.size)⟩
theorem cd_c {b:Nat} {ps:List Plc} {W:World} (h:WAt b ps W) (hW:WI ps) (k:Nat) (q:Plc) (hq:ps[k]?=some q):Calls Tryz.prog 331 #[.pointer (some ⟨b,0,none⟩),.int .i64 (k:Int)] W fun e w'=>(∃ v,e=.returned v∧w'.ownsRow W.heap.size 3 1 v (dnL ps k).length ((dnL ps k).map numV))∧Below W.heap.size W w':=by
  have hc:=chain_r h hW (k:Int)
  rw [chR,plcI_nat,hq] at hc
  rw [dn_len]
  have:=dn_le hW (List.getElem?_eq_some_iff.1 hq).1
  rw [dn_len] at this
  exact cd_w W b k _ _ rfl (by omega) hc
theorem stp2 {P:Program} {ops:Array Oper} {o:Oper} {a:Act} {w:World} {K:Act→World→Prop} {Q:Exit→Act→World→Prop} {E:Prop} (hg:o.guard=none) (f:Nat) (hf:∀ (vs:Array Value) (w:World),(callFunc f vs).run P w=.ok (.enter f vs) w) (x y:Operand) (t1 t2:TypeId)
    (hop:o.op=Op.call { callee:=Callee.value (Operand.func f),args:=#[x,y],argTypes:=#[t1,t2] }) {R:Ending→World→Prop} (v1 v2:Value) (hv1:a.eval x=v1) (hv2:a.eval y=v2) (h:Calls P f #[v1,v2] w R) (hR:∀ e w',R e w'→∃ u,e=.returned u∧K (a.put o.dst u) w') :
    if Region.wanted o (yielded ops a.tmps)=true then Oper.wp P o a w K Q else E:=by
  have hw:Region.wanted o (yielded ops a.tmps)=true:=by simp [Region.wanted,hg]
  rw [if_pos hw]
  unfold Oper.wp
  have e:(execOp a.eval o).run P w=.ok (.enter f #[v1,v2]) w:=by
    simp [execOp,hop,resolve,invoke,hv1,hv2]
    simp [go_sem,hf]
  rw [e,Oper.upon_enter]
  exact h.mono (fun e w' hr=>by obtain ⟨u,rfl,hk⟩:=hR e w' hr;exact hk)
theorem stp4 {P:Program} {ops:Array Oper} {o:Oper} {a:Act} {w:World} {K:Act→World→Prop} {Q:Exit→Act→World→Prop} {E:Prop} (hg:o.guard=none) (f:Nat) (hf:∀ (vs:Array Value) (w:World),(callFunc f vs).run P w=.ok (.enter f vs) w) (x y z u0:Operand) (t1 t2 t3 t4:TypeId)
    (hop:o.op=Op.call { callee:=Callee.value (Operand.func f),args:=#[x,y,z,u0],argTypes:=#[t1,t2,t3,t4] }) {R:Ending→World→Prop} (v1 v2 v3 v4:Value) (hv1:a.eval x=v1) (hv2:a.eval y=v2) (hv3:a.eval z=v3) (hv4:a.eval u0=v4) (h:Calls P f #[v1,v2,v3,v4] w R) (hR:∀ e w',R e w'→∃ u,e=.returned u∧K (a.put o.dst u) w') :
    if Region.wanted o (yielded ops a.tmps)=true then Oper.wp P o a w K Q else E:=by
  have hw:Region.wanted o (yielded ops a.tmps)=true:=by simp [Region.wanted,hg]
  rw [if_pos hw]
  unfold Oper.wp
  have e:(execOp a.eval o).run P w=.ok (.enter f #[v1,v2,v3,v4]) w:=by
    simp [execOp,hop,resolve,invoke,hv1,hv2,hv3,hv4]
    simp [go_sem,hf]
  rw [e,Oper.upon_enter]
  exact h.mono (fun e w' hr=>by obtain ⟨u,rfl,hk⟩:=hR e w' hr;exact hk)
theorem callClone (vs:Array Value) (w:World):(callFunc 332 vs).run Tryz.prog w=.ok (.enter 332 vs) w:=by simp [go_sem]
theorem own_form {w:World} {N T n s:Nat} {v:Value} {xs:List Value} (h:w.ownsRow N T s v n xs) (hn:0<n):∃ g cap,v=.slice (some ⟨g,0,none⟩) n cap∧n≤cap:=by
  rcases h.2 with ⟨_,e⟩|⟨g,cap,cur,e1,_,_,e4,_⟩
  · omega
  · exact ⟨g,cap,e1,e4⟩
theorem rw3 {w:World} {n:Nat} {t:TypeId} {a0 a1 a2:Value} (h:w.heap[n]?=some (.cells #[a0,a1,a2] t (0,0))):w.cell? ⟨n,0,none⟩=some a0∧w.cell? ⟨n,1,none⟩=some a1∧w.cell? ⟨n,2,none⟩=some a2∧(∀ k,w.frozen? ⟨n,k,none⟩=false)∧n<w.heap.size :=
  ⟨(cell_of_row w n 0 _ _ _ h).trans rfl,(cell_of_row w n 1 _ _ _ h).trans rfl,(cell_of_row w n 2 _ _ _ h).trans rfl,fun k=>frozen_of_row w n k _ _ h,(Array.getElem?_eq_some_iff.1 h).1⟩
theorem kp3 {V w:World} {N n:Nat} {t:TypeId} {a0 a1 a2:Value} (hb:Below N V w) (hn:n<N) (h:V.heap[n]?=some (.cells #[a0,a1,a2] t (0,0))):Hid (w.heap[n]?=some (.cells #[a0,a1,a2] t (0,0)))∧w.cell? ⟨n,0,none⟩=some a0∧w.cell? ⟨n,1,none⟩=some a1∧w.cell? ⟨n,2,none⟩=some a2∧(∀ k,w.frozen? ⟨n,k,none⟩=false)∧n<w.heap.size∧¬ n=w.heap.size:=by
  have hd:=(hb.block n hn).trans h
  obtain ⟨c0,c1,c2,f,l⟩:=rw3 hd
  exact ⟨hd,c0,c1,c2,f,l,by omega⟩
def DspA (N:Nat) (P Q C:List Nat) (v1 v2 v3:Value) (w:World):Prop:=∃ a b,N≤a∧a≤b∧w.ownsRow N 3 1 v3 C.length (C.map numV)∧(∀ x,v3.ownBlock=some x→x<a)∧w.ownsRow a 3 1 v1 P.length (P.map numV)∧(∀ x,v1.ownBlock=some x→x<b)∧w.ownsRow b 3 1 v2 Q.length (Q.map numV)
theorem DspA.rows {N:Nat} {P Q C:List Nat} {v1 v2 v3:Value} {w:World} (h:DspA N P Q C v1 v2 v3 w):w.ownsRow N 3 1 v1 P.length (P.map numV)∧w.ownsRow N 3 1 v2 Q.length (Q.map numV)∧w.ownsRow N 3 1 v3 C.length (C.map numV):=by
  obtain ⟨a,b,h1,h2,h3,h4,h5,h6,h7⟩:=h
  exact ⟨Go.Joins.ownsRow_le h5 h1,Go.Joins.ownsRow_le h7 (Nat.le_trans h1 h2),h3⟩
theorem cut_rds {w:World} {N g cap n c:Nat} {D:List Nat} (h:w.ownsRow N 3 1 (.slice (some ⟨g,0,none⟩) n cap) n (D.map numV)) (hc:c≤n):Rdw w (.slice (some ⟨g,0,none⟩) c cap) c 1 ((D.take c).map numV):=by
  have hl:D.length=n:=by have:=h.1;rw [List.length_map] at this;omega
  have hr:=own_rds h
  refine .inl ⟨by rw [List.length_map,List.length_take];omega,.inr ?_⟩
  rcases hr.val with ⟨e,_⟩|⟨g2,o2,cap2,e,h1,h2,h3,h4⟩
  · cases e
  · refine ⟨g,0,cap,rfl,?_,?_,?_,?_⟩
    all_goals injection e with e1 _ e2
    all_goals injection e1 with e1
    all_goals injection e1 with e3 e4 _
    all_goals subst e2 e3 e4
    · omega
    · exact h2
    · exact h3
    · intro j u hj
      rw [List.getElem?_map] at hj
      by_cases hjc:j<c
      · rw [List.getElem?_take_of_lt hjc,← List.getElem?_map] at hj
        exact h4 j u hj
      · rw [List.getElem?_eq_none (by rw [List.length_take];omega)] at hj
        cases hj
theorem rest_rds {w:World} {N g cap n c:Nat} {D:List Nat} (h:w.ownsRow N 3 1 (.slice (some ⟨g,0,none⟩) n cap) n (D.map numV)) (hc:c≤n):Rdw w (.slice (some ⟨g,c,none⟩) (n - c) (cap - c)) (n - c) 1 ((D.drop c).map numV):=by
  have hl:D.length=n:=by have:=h.1;rw [List.length_map] at this;omega
  have hr:=own_rds h
  refine .inl ⟨by rw [List.length_map,List.length_drop];omega,.inr ?_⟩
  rcases hr.val with ⟨e,_⟩|⟨g2,o2,cap2,e,h1,h2,h3,h4⟩
  · cases e
  · refine ⟨g,c,cap - c,rfl,?_,?_,?_,?_⟩
    all_goals injection e with e1 _ e2
    all_goals injection e1 with e1
    all_goals injection e1 with e3 e4 _
    all_goals subst e2 e3 e4
    · omega
    · omega
    · exact h3
    · intro j u hj
      rw [List.getElem?_map,List.getElem?_drop,← List.getElem?_map] at hj
      have:=h4 (c+j) u hj
      rwa [Nat.zero_add] at this
theorem dsp_fin {W w1 w2 w3 w4:World} {D C:List Nat} {n c k:Nat} {v1 v2 v3:Value} (C2:w2.ownsRow w1.heap.size 3 1 v3 C.length (C.map numV)) (P3:w3.ownsRow w2.heap.size 3 1 v1 c ((D.take c).map numV)) (P4:w4.ownsRow w3.heap.size 3 1 v2 k ((D.drop c).map numV)) (hn:D.length=n) (hc:(c=8∧8≤n∧k=n - 8)∨(c=n∧n≤8∧k=0)) (B3:Below w2.heap.size w2 w3) (B4:Below w3.heap.size w3 w4) (h1:W.heap.size<w1.heap.size) (h2:w1.heap.size≤w2.heap.size) (x y z:Value):DspA W.heap.size (D.take 8) (D.drop 8) C v1 v2 v3 (((w4.setCell ⟨W.heap.size,0,none⟩ x).setCell ⟨W.heap.size,1,none⟩ y).setCell ⟨W.heap.size,2,none⟩ z):=by
  have e1:D.take 8=D.take c∧(D.take c).length=c:=by
    rcases hc with ⟨rfl,h,_⟩|⟨rfl,h,_⟩
    · exact ⟨rfl,by rw [List.length_take];omega⟩
    · exact ⟨by rw [List.take_of_length_le (by omega),List.take_of_length_le (by omega)],by rw [List.length_take];omega⟩
  have e2:D.drop 8=D.drop c∧(D.drop c).length=k:=by
    rcases hc with ⟨rfl,h,hk⟩|⟨rfl,h,hk⟩
    · exact ⟨rfl,by rw [List.length_drop];omega⟩
    · exact ⟨by rw [List.drop_of_length_le (by omega),List.drop_of_length_le (by omega)],by rw [List.length_drop];omega⟩
  have h3:=B3.size
  have h4:=B4.size
  refine ⟨w2.heap.size,w3.heap.size,by omega,h3,?_,fun x hx=>(C2.lt x hx).2,?_,fun x hx=>(P3.lt x hx).2,?_⟩
  · refine Go.Joins.ownsRow_le (base:=w1.heap.size) ?_ (by omega)
    repeat (refine ownsRow_setCell_below ?_ h1 _)
    exact rowBelow (rowBelow C2 B3) B4
  · rw [e1.1,e1.2]
    repeat (refine ownsRow_setCell_below ?_ (show W.heap.size<w2.heap.size by omega) _)
    exact rowBelow P3 B4
  · rw [e2.1,e2.2]
    repeat (refine ownsRow_setCell_below ?_ (show W.heap.size<w3.heap.size by omega) _)
    exact P4
set_option maxHeartbeats 4000000 in
theorem dof_a (W:World) (b:Nat) (x:Int) (D C:List Nat) (n:Nat) (HN:Hid (D.length=n)) (h0:0<n) (hn:n≤300) (hc:n<9)
    (HCD:Hid (∀ w,Below W.heap.size W w→Calls Tryz.prog 331 #[.pointer (some ⟨b,0,none⟩),.int .i64 x] w fun e w'=>(∃ v,e=.returned v∧w'.ownsRow w.heap.size 3 1 v n (D.map numV))∧Below w.heap.size w w'))
    (HCL:Hid (∀ w,Below W.heap.size W w→Calls Tryz.prog 317 #[.pointer (some ⟨b,0,none⟩),.int .i64 x] w fun e w'=>(∃ v,e=.returned (.tuple #[v,.int .i64 0])∧w'.ownsRow w.heap.size 3 1 v C.length (C.map numV))∧Below w.heap.size w w')) :
    Calls Tryz.prog 311 #[.pointer (some ⟨b,0,none⟩),.int .i64 x] W fun e w'=>(∃ v1 v2 v3,e=.returned (.agg #[v1,v2,v3])∧DspA W.heap.size (D.take 8) (D.drop 8) C v1 v2 v3 w')∧Below W.heap.size W w':=by
  have hmin:min (8:Int) (n:Int)=(n:Int):=by omega
  go_enter Tryz.func311,Tryz.ntmps311
  go_upto_region 4 with (first
    | (go_at_call 331;refine (HCD.out _ ((Below.refl _ _).alloc (Nat.le_refl _) _)).mono ?_;rintro e w1 ⟨⟨v,rfl,ho⟩,hb⟩;obtain ⟨g,cap,rfl,hcap⟩:=own_form ho h0;have O1:Hid (w1.ownsRow (W.heap.size+1) 3 1 (.slice (some ⟨g,0,none⟩) n cap) n (D.map numV)):=Go.Joins.ownsRow_le ho (by simp);have B1:Hid (Below W.heap.size W w1):=bstep ((Below.refl _ _).alloc (Nat.le_refl _) _) hb;have rrd:=kp3 (n:=W.heap.size) hb (by simp) (halloc1 _ _);obtain ⟨rrB,rr0,rr1,rr2,rrf,rrL,rrN⟩:=rrd;have S1:Hid (W.heap.size<w1.heap.size):=rrL;clear hb ho HCD)
    | (go_at_call 317;refine (HCL.out _ B1.out).mono ?_;rintro e w2 ⟨⟨v3,rfl,ho⟩,hb⟩;obtain ⟨ca,cc,rfl⟩:=ownv ho;have B2:Hid (Below W.heap.size W w2):=bstep B1.out hb;have O2:Hid (w2.ownsRow (W.heap.size+1) 3 1 (.slice (some ⟨g,0,none⟩) n cap) n (D.map numV)):=rowBelow O1.out hb;have C2:Hid (w2.ownsRow w1.heap.size 3 1 (.slice ca C.length cc) C.length (C.map numV)):=ho;have S2:Hid (w1.heap.size≤w2.heap.size):=hb.size;have rrd:=kp3 (n:=W.heap.size) hb (by first|omega|(simp;try omega)) rrB.out;(try clear rrB rr0 rr1 rr2 rrf rrL rrN);obtain ⟨rrB,rr0,rr1,rr2,rrf,rrL,rrN⟩:=rrd;clear hb ho HCL))
  by_cases hcn:n=cap
  · subst hcn
    have HC1:Hid (∀ w,Below w2.heap.size w2 w→Calls Tryz.prog 332 #[.slice (some ⟨g,0,none⟩) n n] w fun e w'=>∃ v',e=.returned v'∧w'.ownsRow w2.heap.size 3 1 v' n ((D.take n).map numV)∧Below w2.heap.size w w'):=fun w hb=>by
      have hl:(D.take n).length=n:=by rw [List.length_take,HN.out];omega
      have h1:=cloI_any (D.take n) g 0 n w (by rw [hl];exact (cut_rds O2.out (by omega)).keep hb) (by omega)
      rw [hl] at h1
      exact h1.mono fun e w' zz=>by
        obtain ⟨v,e1,e2,e3⟩:=zz
        exact ⟨v,e1,Go.Joins.ownsRow_le e2 hb.size,e3.mono hb.size⟩
    have HC2:Hid (∀ w,Below w2.heap.size w2 w→Calls Tryz.prog 332 #[.slice (some ⟨g,0,none⟩) 0 (0)] w fun e w'=>∃ v',e=.returned v'∧w'.ownsRow w.heap.size 3 1 v' 0 ((D.drop n).map numV)∧Below w.heap.size w w'):=fun w hb=>by
      have hl:(D.drop n).length=0:=by rw [List.length_drop,HN.out];omega
      have h1:=cloI_any (D.drop n) g 0 (0) w (by rw [hl];exact Rdw.keep (.inr ⟨rfl,by rw [List.drop_of_length_le (by rw [HN.out];omega)];rfl,_,_,rfl⟩) hb) (by omega)
      rw [hl] at h1
      exact h1
    clear O2
    go_region_law (first
      | (refine step_call1 rfl 332 callClone (.tmp 23) 63 rfl (.slice (some ⟨g,0,none⟩) n n) (by simp [Act.eval,Act.put]) (HC1.out _ (by first|exact (Below.refl _ _).drew|exact Below.refl _ _)) ?_;rintro e w3 ⟨v1,rfl,ho,hb⟩;refine ⟨_,rfl,?_⟩;obtain ⟨p1,q1,rfl⟩:=ownv ho;have P3:Hid (w3.ownsRow w2.heap.size 3 1 (.slice p1 n q1) n ((D.take n).map numV)):=ho;have B3:Hid (Below w2.heap.size w2 w3):=(by first|exact (Below.refl _ _).drew.trans hb|exact hb);have rrd:=kp3 (n:=W.heap.size) B3.out (by omega) rrB.out;(try clear rrB rr0 rr1 rr2 rrf rrL rrN);obtain ⟨rrB,rr0,rr1,rr2,rrf,rrL,rrN⟩:=rrd;clear hb ho)
      | (refine step_call1 rfl 332 callClone (.tmp 27) 63 rfl (.slice (some ⟨g,0,none⟩) 0 (0)) (by simp [Act.eval]) (HC2.out _ B3.out) ?_;rintro e w4 ⟨v2,rfl,ho,hb⟩;refine ⟨_,rfl,?_⟩;obtain ⟨p2,q2,rfl⟩:=ownv ho;have P4:Hid (w4.ownsRow w3.heap.size 3 1 (.slice p2 0 q2) 0 ((D.drop n).map numV)):=ho;have B4:Hid (Below w3.heap.size w3 w4):=hb;have rrd:=kp3 (n:=W.heap.size) B4.out (by omega) rrB.out;(try clear rrB rr0 rr1 rr2 rrf rrL rrN);obtain ⟨rrB,rr0,rr1,rr2,rrf,rrL,rrN⟩:=rrd;clear hb ho))
    all_goals go_wp2
    all_goals exact bodyPost_ret (v:=.agg #[.slice p1 n q1,.slice p2 0 q2,.slice ca C.length cc]) (by simp [results,Tryz.results311,go_sem, *]) rfl ⟨⟨_,_,_,rfl,dsp_fin C2.out P3.out P4.out HN.out (by omega) B3.out B4.out S1.out S2.out _ _ _⟩,(((B2.out.trans (B3.out.mono B2.out.size)).trans (B4.out.mono (by have:=B2.out.size;have:=B3.out.size;omega))).setCell (Nat.le_refl _) _).setCell (Nat.le_refl _) _ |>.setCell (Nat.le_refl _) _⟩
  · have hcn2:¬ cap=n:=fun e=>hcn e.symm
    have HC1:Hid (∀ w,Below w2.heap.size w2 w→Calls Tryz.prog 332 #[.slice (some ⟨g,0,none⟩) n cap] w fun e w'=>∃ v',e=.returned v'∧w'.ownsRow w2.heap.size 3 1 v' n ((D.take n).map numV)∧Below w2.heap.size w w'):=fun w hb=>by
      have hl:(D.take n).length=n:=by rw [List.length_take,HN.out];omega
      have h1:=cloI_any (D.take n) g 0 cap w (by rw [hl];exact (cut_rds O2.out (by omega)).keep hb) (by omega)
      rw [hl] at h1
      exact h1.mono fun e w' zz=>by
        obtain ⟨v,e1,e2,e3⟩:=zz
        exact ⟨v,e1,Go.Joins.ownsRow_le e2 hb.size,e3.mono hb.size⟩
    have HC2:Hid (∀ w,Below w2.heap.size w2 w→Calls Tryz.prog 332 #[.slice (some ⟨g,n,none⟩) 0 (cap - n)] w fun e w'=>∃ v',e=.returned v'∧w'.ownsRow w.heap.size 3 1 v' 0 ((D.drop n).map numV)∧Below w.heap.size w w'):=fun w hb=>by
      have hl:(D.drop n).length=0:=by rw [List.length_drop,HN.out];omega
      have h1:=cloI_any (D.drop n) g n (cap - n) w (by rw [hl];exact Rdw.keep (.inr ⟨rfl,by rw [List.drop_of_length_le (by rw [HN.out];omega)];rfl,_,_,rfl⟩) hb) (by omega)
      rw [hl] at h1
      exact h1
    clear O2
    go_region_law (first
      | (refine step_call1 rfl 332 callClone (.tmp 23) 63 rfl (.slice (some ⟨g,0,none⟩) n cap) (by simp [Act.eval,Act.put]) (HC1.out _ (by first|exact (Below.refl _ _).drew|exact Below.refl _ _)) ?_;rintro e w3 ⟨v1,rfl,ho,hb⟩;refine ⟨_,rfl,?_⟩;obtain ⟨p1,q1,rfl⟩:=ownv ho;have P3:Hid (w3.ownsRow w2.heap.size 3 1 (.slice p1 n q1) n ((D.take n).map numV)):=ho;have B3:Hid (Below w2.heap.size w2 w3):=(by first|exact (Below.refl _ _).drew.trans hb|exact hb);have rrd:=kp3 (n:=W.heap.size) B3.out (by omega) rrB.out;(try clear rrB rr0 rr1 rr2 rrf rrL rrN);obtain ⟨rrB,rr0,rr1,rr2,rrf,rrL,rrN⟩:=rrd;clear hb ho)
      | (refine step_call1 rfl 332 callClone (.tmp 27) 63 rfl (.slice (some ⟨g,n,none⟩) 0 (cap - n)) (by simp [Act.eval]) (HC2.out _ B3.out) ?_;rintro e w4 ⟨v2,rfl,ho,hb⟩;refine ⟨_,rfl,?_⟩;obtain ⟨p2,q2,rfl⟩:=ownv ho;have P4:Hid (w4.ownsRow w3.heap.size 3 1 (.slice p2 0 q2) 0 ((D.drop n).map numV)):=ho;have B4:Hid (Below w3.heap.size w3 w4):=hb;have rrd:=kp3 (n:=W.heap.size) B4.out (by omega) rrB.out;(try clear rrB rr0 rr1 rr2 rrf rrL rrN);obtain ⟨rrB,rr0,rr1,rr2,rrf,rrL,rrN⟩:=rrd;clear hb ho))
    all_goals go_wp2
    all_goals exact bodyPost_ret (v:=.agg #[.slice p1 n q1,.slice p2 0 q2,.slice ca C.length cc]) (by simp [results,Tryz.results311,go_sem, *]) rfl ⟨⟨_,_,_,rfl,dsp_fin C2.out P3.out P4.out HN.out (by omega) B3.out B4.out S1.out S2.out _ _ _⟩,(((B2.out.trans (B3.out.mono B2.out.size)).trans (B4.out.mono (by have:=B2.out.size;have:=B3.out.size;omega))).setCell (Nat.le_refl _) _).setCell (Nat.le_refl _) _ |>.setCell (Nat.le_refl _) _⟩
set_option maxHeartbeats 4000000 in
theorem dof_b (W:World) (b:Nat) (x:Int) (D C:List Nat) (n:Nat) (HN:Hid (D.length=n)) (h0:0<n) (hn:n≤300) (hc:¬ n<9)
    (HCD:Hid (∀ w,Below W.heap.size W w→Calls Tryz.prog 331 #[.pointer (some ⟨b,0,none⟩),.int .i64 x] w fun e w'=>(∃ v,e=.returned v∧w'.ownsRow w.heap.size 3 1 v n (D.map numV))∧Below w.heap.size w w'))
    (HCL:Hid (∀ w,Below W.heap.size W w→Calls Tryz.prog 317 #[.pointer (some ⟨b,0,none⟩),.int .i64 x] w fun e w'=>(∃ v,e=.returned (.tuple #[v,.int .i64 0])∧w'.ownsRow w.heap.size 3 1 v C.length (C.map numV))∧Below w.heap.size w w')) :
    Calls Tryz.prog 311 #[.pointer (some ⟨b,0,none⟩),.int .i64 x] W fun e w'=>(∃ v1 v2 v3,e=.returned (.agg #[v1,v2,v3])∧DspA W.heap.size (D.take 8) (D.drop 8) C v1 v2 v3 w')∧Below W.heap.size W w':=by
  have hmin:min (8:Int) (n:Int)=8:=by omega
  go_enter Tryz.func311,Tryz.ntmps311
  go_upto_region 4 with (first
    | (go_at_call 331;refine (HCD.out _ ((Below.refl _ _).alloc (Nat.le_refl _) _)).mono ?_;rintro e w1 ⟨⟨v,rfl,ho⟩,hb⟩;obtain ⟨g,cap,rfl,hcap⟩:=own_form ho h0;have O1:Hid (w1.ownsRow (W.heap.size+1) 3 1 (.slice (some ⟨g,0,none⟩) n cap) n (D.map numV)):=Go.Joins.ownsRow_le ho (by simp);have B1:Hid (Below W.heap.size W w1):=bstep ((Below.refl _ _).alloc (Nat.le_refl _) _) hb;have rrd:=kp3 (n:=W.heap.size) hb (by simp) (halloc1 _ _);obtain ⟨rrB,rr0,rr1,rr2,rrf,rrL,rrN⟩:=rrd;have S1:Hid (W.heap.size<w1.heap.size):=rrL;clear hb ho HCD)
    | (go_at_call 317;refine (HCL.out _ B1.out).mono ?_;rintro e w2 ⟨⟨v3,rfl,ho⟩,hb⟩;obtain ⟨ca,cc,rfl⟩:=ownv ho;have B2:Hid (Below W.heap.size W w2):=bstep B1.out hb;have O2:Hid (w2.ownsRow (W.heap.size+1) 3 1 (.slice (some ⟨g,0,none⟩) n cap) n (D.map numV)):=rowBelow O1.out hb;have C2:Hid (w2.ownsRow w1.heap.size 3 1 (.slice ca C.length cc) C.length (C.map numV)):=ho;have S2:Hid (w1.heap.size≤w2.heap.size):=hb.size;have rrd:=kp3 (n:=W.heap.size) hb (by first|omega|(simp;try omega)) rrB.out;(try clear rrB rr0 rr1 rr2 rrf rrL rrN);obtain ⟨rrB,rr0,rr1,rr2,rrf,rrL,rrN⟩:=rrd;clear hb ho HCL))
  have hcn2:¬ cap=8:=by omega
  have hcn3:(8:Int)≤(cap:Int):=by omega
  have hcn4:(8:Int)≤(n:Int):=by omega
  have HC1:Hid (∀ w,Below w2.heap.size w2 w→Calls Tryz.prog 332 #[.slice (some ⟨g,0,none⟩) 8 cap] w fun e w'=>∃ v',e=.returned v'∧w'.ownsRow w2.heap.size 3 1 v' 8 ((D.take 8).map numV)∧Below w2.heap.size w w'):=fun w hb=>by
    have hl:(D.take 8).length=8:=by rw [List.length_take,HN.out];omega
    have h1:=cloI_any (D.take 8) g 0 cap w (by rw [hl];exact (cut_rds O2.out (by omega)).keep hb) (by omega)
    rw [hl] at h1
    exact h1.mono fun e w' zz=>by
      obtain ⟨v,e1,e2,e3⟩:=zz
      exact ⟨v,e1,Go.Joins.ownsRow_le e2 hb.size,e3.mono hb.size⟩
  have HC2:Hid (∀ w,Below w2.heap.size w2 w→Calls Tryz.prog 332 #[.slice (some ⟨g,8,none⟩) (n - 8) (cap - 8)] w fun e w'=>∃ v',e=.returned v'∧w'.ownsRow w.heap.size 3 1 v' (n - 8) ((D.drop 8).map numV)∧Below w.heap.size w w'):=fun w hb=>by
    have hl:(D.drop 8).length=(n - 8):=by rw [List.length_drop,HN.out]
    have h1:=cloI_any (D.drop 8) g 8 (cap - 8) w (by rw [hl];exact Rdw.keep (rest_rds O2.out (by omega)) hb) (by omega)
    rw [hl] at h1
    exact h1
  clear O2
  go_region_law (first
    | (refine step_call1 rfl 332 callClone (.tmp 23) 63 rfl (.slice (some ⟨g,0,none⟩) 8 cap) (by simp [Act.eval,Act.put]) (HC1.out _ (by first|exact (Below.refl _ _).drew|exact Below.refl _ _)) ?_;rintro e w3 ⟨v1,rfl,ho,hb⟩;refine ⟨_,rfl,?_⟩;obtain ⟨p1,q1,rfl⟩:=ownv ho;have P3:Hid (w3.ownsRow w2.heap.size 3 1 (.slice p1 8 q1) 8 ((D.take 8).map numV)):=ho;have B3:Hid (Below w2.heap.size w2 w3):=(by first|exact (Below.refl _ _).drew.trans hb|exact hb);have rrd:=kp3 (n:=W.heap.size) B3.out (by omega) rrB.out;(try clear rrB rr0 rr1 rr2 rrf rrL rrN);obtain ⟨rrB,rr0,rr1,rr2,rrf,rrL,rrN⟩:=rrd;clear hb ho)
    | (refine step_call1 rfl 332 callClone (.tmp 27) 63 rfl (.slice (some ⟨g,8,none⟩) (n - 8) (cap - 8)) (by simp [Act.eval]) (HC2.out _ B3.out) ?_;rintro e w4 ⟨v2,rfl,ho,hb⟩;refine ⟨_,rfl,?_⟩;obtain ⟨p2,q2,rfl⟩:=ownv ho;have P4:Hid (w4.ownsRow w3.heap.size 3 1 (.slice p2 (n - 8) q2) (n - 8) ((D.drop 8).map numV)):=ho;have B4:Hid (Below w3.heap.size w3 w4):=hb;have rrd:=kp3 (n:=W.heap.size) B4.out (by omega) rrB.out;(try clear rrB rr0 rr1 rr2 rrf rrL rrN);obtain ⟨rrB,rr0,rr1,rr2,rrf,rrL,rrN⟩:=rrd;clear hb ho))
  all_goals go_wp2
  all_goals exact bodyPost_ret (v:=.agg #[.slice p1 8 q1,.slice p2 (n - 8) q2,.slice ca C.length cc]) (by simp [results,Tryz.results311,go_sem, *]) rfl ⟨⟨_,_,_,rfl,dsp_fin C2.out P3.out P4.out HN.out (by omega) B3.out B4.out S1.out S2.out _ _ _⟩,(((B2.out.trans (B3.out.mono B2.out.size)).trans (B4.out.mono (by have:=B2.out.size;have:=B3.out.size;omega))).setCell (Nat.le_refl _) _).setCell (Nat.le_refl _) _ |>.setCell (Nat.le_refl _) _⟩
theorem dof_c {b:Nat} {ps:List Plc} {W:World} (h:WAt b ps W) (hW:WI ps) (k:Nat) (q:Plc) (hq:ps[k]?=some q):Calls Tryz.prog 311 #[.pointer (some ⟨b,0,none⟩),.int .i64 (k:Int)] W fun e w'=>(∃ v1 v2 v3,e=.returned (.agg #[v1,v2,v3])∧DspA W.heap.size ((dnL ps k).take 8) ((dnL ps k).drop 8) q.cl v1 v2 v3 w')∧Below W.heap.size W w':=by
  have hk:=(List.getElem?_eq_some_iff.1 hq).1
  have h1:=dn_le hW hk
  have h0:0<(dnL ps k).length:=by rw [dn_len];exact ch_pos k
  have HCD:∀ w,Below W.heap.size W w→Calls Tryz.prog 331 #[.pointer (some ⟨b,0,none⟩),.int .i64 (k:Int)] w fun e w'=>(∃ v,e=.returned v∧w'.ownsRow w.heap.size 3 1 v (dnL ps k).length ((dnL ps k).map numV))∧Below w.heap.size w w':=fun w hb=>cd_c (h.below hb) hW k q hq
  have HCL:∀ w,Below W.heap.size W w→Calls Tryz.prog 317 #[.pointer (some ⟨b,0,none⟩),.int .i64 (k:Int)] w fun e w'=>(∃ v,e=.returned (.tuple #[v,.int .i64 0])∧w'.ownsRow w.heap.size 3 1 v q.cl.length (q.cl.map numV))∧Below w.heap.size w w':=fun w hb=>by
    obtain ⟨N,mb,vp,pv,h⟩:=h.below hb
    refine (closure_yes N b mb ps vp pv k q w h hq hW.hi).mono ?_
    rintro e w' ⟨v,rfl,ho,hb⟩
    exact ⟨⟨v,rfl,ho⟩,hb⟩
  by_cases hc:(dnL ps k).length<9
  · exact dof_a W b k (dnL ps k) q.cl _ rfl h0 h1 hc HCD HCL
  · exact dof_b W b k (dnL ps k) q.cl _ rfl h0 h1 hc HCD HCL
theorem rw1 {w:World} {n:Nat} {t:TypeId} {a0:Value} (h:w.heap[n]?=some (.cells #[a0] t (0,0))):w.cell? ⟨n,0,none⟩=some a0∧(∀ k,w.frozen? ⟨n,k,none⟩=false)∧n<w.heap.size :=
  ⟨(cell_of_row w n 0 _ _ _ h).trans rfl,fun k=>frozen_of_row w n k _ _ h,(Array.getElem?_eq_some_iff.1 h).1⟩
theorem st1 {w:World} {n:Nat} {t:TypeId} {a0:Value} (h:w.heap[n]?=some (.cells #[a0] t (0,0))) (v:Value):(w.setCell ⟨n,0,none⟩ v).heap[n]?=some (.cells #[v] t (0,0)) :=
  (Go.Joins.block_setCell (i:=0) h v).trans (by simp)
theorem row_at {w:World} {N g cap n:Nat} {l:List Nat} (h:w.ownsRow N 3 1 (.slice (some ⟨g,0,none⟩) n cap) n (l.map numV)) {i x:Nat} (hx:l[i]?=some x):w.cell? ⟨g,i,none⟩=some (.int .i64 (x:Int)):=by
  have hl:l.length=n:=by have:=h.1;rw [List.length_map] at this;omega
  have hi:=(List.getElem?_eq_some_iff.1 hx).1
  rw [h.cellAt i (by omega),List.getElem?_map,hx];rfl
set_option maxHeartbeats 4000000 in
theorem sta_c (V W:World) (rb N m n t:Nat) (P Q:List Nat) (v1 v2:Value) (a3:Option Addr) (n3 c3:Nat) (hb:Below V.heap.size V W) (hr:V.heap.size≤rb) (hrb:W.heap[rb]?=some (.cells #[.int .i64 (m:Int)] 3 (0,0))) (hN:rb<N) (h1:W.ownsRow N 3 1 v1 P.length (P.map numV)) (h2:W.ownsRow N 3 1 v2 Q.length (Q.map numV)) (hm:m≤1000000) (hn:n≤1000000) (hP:P.length≤1000000) (hQ:Q.length≤1000000) :
    Calls Tryz.prog 310 #[.agg #[v1,v2,.slice a3 n3 c3],.int .i64 (n:Int),.int .i64 (t:Int),.pointer (some ⟨rb,0,none⟩)] W fun e w'=>e=.returned (.bool (atB (P++Q) n t))∧w'.heap[rb]?=some (.cells #[.int .i64 ((m+1:Nat):Int)] 3 (0,0))∧Below V.heap.size V w':=by
  obtain ⟨a1,c1,rfl⟩:=ownv h1
  obtain ⟨a2,c2,rfl⟩:=ownv h2
  have HB:Hid (Below V.heap.size V W):=hb
  have HR:Hid (W.heap[rb]?=some (.cells #[.int .i64 (m:Int)] 3 (0,0))):=hrb
  obtain ⟨r0,rf,rl⟩:=rw1 hrb
  have rn:¬ rb=W.heap.size:=by omega
  have rn2:¬ W.heap.size=rb:=by omega
  have FIN:Hid (∀ o,((W.setCell ⟨rb,0,none⟩ (.int .i64 ((m:Int)+1))).alloc o).heap[rb]?=some (.cells #[.int .i64 ((m:Int)+1)] 3 (0,0))∧Below V.heap.size V ((W.setCell ⟨rb,0,none⟩ (.int .i64 ((m:Int)+1))).alloc o)):=fun o=>⟨hkeep (st1 HR.out _),(HB.out.setCell (p:=⟨rb,0,none⟩) hr _).alloc (by simp;exact HB.out.size) o⟩
  by_cases hlt:n<P.length
  · obtain ⟨x,hx⟩:∃ x,P[n]?=some x:=⟨_,List.getElem?_eq_getElem hlt⟩
    have e1:atB (P++Q) n t=((x:Int) == (t:Int)):=by
      rw [atB,List.getElem?_append_left hlt,hx]
      simp only []
      rw [Bool.eq_iff_iff,beq_iff_eq,beq_iff_eq];omega
    rw [e1]
    obtain ⟨g,cap,e,hcap⟩:=own_form h1 (by omega)
    injection e with e2 _ e3
    subst e2 e3
    have hc:=row_at h1 hx
    have hgN:=(h1.lt g rfl).1
    have gn:¬ g=rb:=by omega
    have gn2:¬ rb=g:=by omega
    have gl:=(h1.lt g rfl).2
    have gn3:¬ g=W.heap.size:=by omega
    obtain ⟨K,hK⟩:∃ K,P.length=K:=⟨_,rfl⟩
    rw [hK] at hlt hP hcap ⊢
    have hI:(n:Int) - (K:Int)<0:=by omega
    have hI2:(n:Int)<(K:Int):=by omega
    clear h1 h2 hb hrb hx e1 hK
    go_enter Tryz.func310,Tryz.ntmps310
    go_wp2
    go_ret
    exact ⟨rfl,FIN.out _⟩
  · by_cases hlq:n - P.length<Q.length
    · obtain ⟨x,hx⟩:∃ x,Q[n - P.length]?=some x:=⟨_,List.getElem?_eq_getElem hlq⟩
      have e1:atB (P++Q) n t=((x:Int) == (t:Int)):=by
        rw [atB,List.getElem?_append_right (by omega),hx]
        simp only []
        rw [Bool.eq_iff_iff,beq_iff_eq,beq_iff_eq];omega
      rw [e1]
      obtain ⟨g,cap,e,hcap⟩:=own_form h2 (by omega)
      injection e with e2 _ e3
      subst e2 e3
      have hc:=row_at h2 hx
      have hgN:=(h2.lt g rfl).1
      have gn:¬ g=rb:=by omega
      have gn2:¬ rb=g:=by omega
      have gl:=(h2.lt g rfl).2
      have gn3:¬ g=W.heap.size:=by omega
      obtain ⟨K,hK⟩:∃ K,P.length=K:=⟨_,rfl⟩
      obtain ⟨L,hL⟩:∃ L,Q.length=L:=⟨_,rfl⟩
      rw [hK] at hlt hP hlq hc ⊢
      rw [hL] at hlq hQ hcap ⊢
      obtain ⟨j,hj⟩:∃ j,n - K=j:=⟨_,rfl⟩
      rw [hj] at hlq hc
      have hI:(n:Int) - (K:Int)=(j:Int):=by omega
      have hI2:¬ (j:Int)<0:=by omega
      have hI3:(j:Int)<(L:Int):=by omega
      clear h1 h2 hb hrb hx e1 hK hL hj
      go_enter Tryz.func310,Tryz.ntmps310
      go_wp2
      go_ret
      exact ⟨rfl,FIN.out _⟩
    · have e1:atB (P++Q) n t=false:=by
        rw [atB,List.getElem?_append_right (by omega),List.getElem?_eq_none (by omega)]
      rw [e1]
      obtain ⟨K,hK⟩:∃ K,P.length=K:=⟨_,rfl⟩
      obtain ⟨L,hL⟩:∃ L,Q.length=L:=⟨_,rfl⟩
      rw [hK] at hlt hP hlq ⊢
      rw [hL] at hlq hQ ⊢
      obtain ⟨j,hj⟩:∃ j,n - K=j:=⟨_,rfl⟩
      rw [hj] at hlq
      have hI:(n:Int) - (K:Int)=(j:Int):=by omega
      have hI2:¬ (j:Int)<0:=by omega
      have hI3:¬ (j:Int)<(L:Int):=by omega
      clear h1 h2 hb hrb e1 hK hL hj
      go_enter Tryz.func310,Tryz.ntmps310
      go_wp2
      go_ret
      exact ⟨rfl,FIN.out _⟩
set_option maxHeartbeats 4000000 in
theorem sse_c (V W:World) (rb N m t:Nat) (C:List Nat) (v3:Value) (a1 a2:Option Addr) (n1 c1 n2 c2:Nat) (hb:Below V.heap.size V W) (hr:V.heap.size≤rb) (hrb:W.heap[rb]?=some (.cells #[.int .i64 (m:Int)] 3 (0,0))) (hN:rb<N) (h3:W.ownsRow N 3 1 v3 C.length (C.map numV)) (hm:m≤1000000) (hC:C.length≤1000000) :
    Calls Tryz.prog 312 #[.agg #[.slice a1 n1 c1,.slice a2 n2 c2,v3],.int .i64 (t:Int),.pointer (some ⟨rb,0,none⟩)] W fun e w'=>e=.returned (.bool (C.contains t))∧w'.heap[rb]?=some (.cells #[.int .i64 ((m+(lookN C t+1):Nat):Int)] 3 (0,0))∧Below V.heap.size V w':=by
  obtain ⟨a3,c3,rfl⟩:=ownv h3
  have HB:Hid (Below V.heap.size V W):=hb
  have HR:Hid (W.heap[rb]?=some (.cells #[.int .i64 (m:Int)] 3 (0,0))):=hrb
  have H3:Hid (W.ownsRow N 3 1 (.slice a3 C.length c3) C.length (C.map numV)):=h3
  obtain ⟨r0,rf,rl⟩:=rw1 hrb
  have rn:¬ rb=W.heap.size:=by omega
  have rn2:¬ W.heap.size=rb:=by omega
  obtain ⟨K,hK⟩:∃ K,C.length=K:=⟨_,rfl⟩
  have HK:Hid (C.length=K):=hK
  obtain ⟨B0,hB0⟩:∃ B0,C.contains t=B0:=⟨_,rfl⟩
  obtain ⟨L0,hL0⟩:∃ L0,lookN C t=L0:=⟨_,rfl⟩
  have HB0:Hid (C.contains t=B0):=hB0
  have HL0:Hid (lookN C t=L0):=hL0
  rw [hK] at hC ⊢
  rw [hB0,hL0]
  clear hb hrb h3 hK hB0 hL0
  go_enter Tryz.func312,Tryz.ntmps312
  go_wp2
  go_loopw [17] (fun iv wr=>∃ (i:Nat),iv=.int .i64 i∧i≤K∧Hid (L0=i+lookN (C.drop i) t)∧Hid (B0=(C.drop i).contains t)∧Hid (wr.heap[rb]?=some (.cells #[.int .i64 ((m+(i+1):Nat):Int)] 3 (0,0)))∧Hid (Below V.heap.size V wr)∧Hid (∀ k,k<W.heap.size→k≠rb→wr.heap[k]?=W.heap[k]?)) (fun iv _=>K - (intOf iv).toNat)
  case atStart=>exact ⟨0,rfl,Nat.zero_le _,(by rw [Hid,Nat.zero_add,List.drop_zero];exact HL0.out.symm),(by rw [Hid,List.drop_zero];exact HB0.out.symm),hkeep (st1 HR.out _),(HB.out.setCell (p:=⟨rb,0,none⟩) hr _).alloc (by simp;exact HB.out.size) _,fun k hk hkr=>(Below.heap_alloc _ _ _ (by simp;exact hk)).trans (Below.heap_setCell _ _ _ _ hkr)⟩
  case round =>
    obtain ⟨i,rfl,hi,hL,hCt,hR,hB,hF⟩:=hrel
    clear r0 rf rl
    obtain ⟨r0,rf,rl⟩:=rw1 hR.out
    by_cases hlt:i<K
    · have hiI:(i:Int)<(K:Int):=by omega
      obtain ⟨x,hx⟩:∃ x,C[i]?=some x:=⟨_,List.getElem?_eq_getElem (by rw [HK.out];exact hlt)⟩
      obtain ⟨g,cap,e,hcap⟩:=own_form H3.out (by rw [HK.out];omega)
      have h3:=H3.out
      rw [e] at h3
      injection e with e2 _ e3
      subst e2 e3
      have hgN:=(h3.lt g rfl).1
      have gl:=(h3.lt g rfl).2
      have gn:¬ g=rb:=by omega
      have gn2:¬ rb=g:=by omega
      have hc:wr.cell? ⟨g,i,none⟩=some (.int .i64 (x:Int)):=(World.cell?_of_block (w:=W) (hF.out g gl gn)).trans (row_at h3 hx)
      have L1:Hid (lookN (C.drop i) t=if x=t then 1 else lookN (C.drop (i+1)) t+1):=lookN_at hx
      have L2:Hid ((C.drop i).contains t=if x=t then true else (C.drop (i+1)).contains t):=hasN_at hx
      clear hx h3
      by_cases hxt:x=t
      · subst hxt
        have A1:B0=true:=by rw [hCt.out,L2.out,if_pos rfl]
        have A2:L0=i+1:=by rw [hL.out,L1.out,if_pos rfl]
        subst A1 A2
        go_wp2
        go_ret
        refine ⟨rfl,?_,hB.out.setCell (p:=⟨rb,0,none⟩) hr _⟩
        rw [show (m:Int)+((i:Int)+1+1)=(m:Int)+((i:Int)+1)+1 by omega]
        exact st1 hR.out _
      · have hne:((x:Int) == (t:Int))=false:=by rw [← Bool.not_eq_true,beq_iff_eq];omega
        have hne2:¬ (x:Int)=(t:Int):=by omega
        go_wp2
        refine ⟨⟨i+1,by simp,by omega,?_,?_,?_,hB.out.setCell (p:=⟨rb,0,none⟩) hr _,?_⟩,by simp [intOf];omega⟩
        · rw [Hid,hL.out,L1.out,if_neg hxt];omega
        · rw [Hid,hCt.out,L2.out,if_neg hxt]
        · rw [Hid,show ((m+(i+1+1):Nat):Int)=(m:Int)+((i:Int)+1)+1 by omega]
          exact st1 hR.out _
        · exact fun k hk hkr=>(Below.heap_setCell _ _ _ _ hkr).trans (hF.out k hk hkr)
    · have e:i=K:=by omega
      subst e
      have E0:Hid (C.drop i=[]):=List.drop_eq_nil_iff.2 (by rw [HK.out];exact Nat.le_refl _)
      have A1:B0=false:=by rw [hCt.out,E0.out];rfl
      have A2:L0=i:=by rw [hL.out,E0.out];rfl
      subst A1 A2
      go_wp2
      go_ret
      exact ⟨rfl,hR.out,hB.out⟩
end Go.Proofs.YtenpnkkkjjdccaaGreat
