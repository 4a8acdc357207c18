import Derived.Test.YtjlfnelihbdhjaaGreatHrR
import Derived.Test.YtjlfnelihbdhjaaGreatHrP
import Derived.Test.YtjlfnelihbdhjaaGreatMxC
import Derived.Test.YtjlfnelihbdhjaaGreatValid
import Derived.Test.YtjlfnelihbdhjaaGreatWdA
import Derived.Test.YtjlfnelihbdhjaaGreatTypesParse
import Derived.Lib.SliceRun
import Derived.Deep.RegionHeld3
import Derived.BigQuiet
import Derived.Deep.QuietTactic
import Derived.Lib.Bytealg
set_option maxRecDepth 100000
namespace Go.Proofs.YtjlfnelihbdhjaaGreat
open Go.RowKit Go.Maps
theorem wpList_append_rdw {P:Program} {w:World} {ops:Array Oper} {rest:List Oper} {o:Oper} {a:Act} {Q:Exit→Act→World→Prop} (hgd:o.guard=none) (s x:Operand) (t:TypeId)
    (ho:o.op=.call { callee:=.builtin .append,args:=#[s,x],argTypes:=#[t,t] })
    (base:Nat) (e:TypeId) (i:TypeInfo) (z:Value) (size bytes:Nat) (ht:P.underlying t=some (.slice e)) (hi:P.info? e=some i) (hz:i.zero=some z)
    (hsize:i.size=size) (hby:i.bytes=bytes) (hzs:z.cells.size=size) (hsz:0<size)
    (v:Value) (n:Nat) (xs:List Value) (hs:a.eval s=v) (hown:w.ownsRow base e size v n xs)
    (vx:Value) (m:Nat) (news:List Value) (hx:a.eval x=vx) (hr:Rdw w vx m size news) (h1:∀ u∈news,u.oneCell'=true)
    (h63:n+m≤maxLen) (hbytes:(n+m) * bytes≤140737488355328) (hbase:base≤w.heap.size)
    (h:∀ v' w',w'.ownsRow base e size v' (n+m) (xs++news)→w.grownBy w' v.ownBlock→wpList P ops Q rest (a.put o.dst v') w'):wpList P ops Q (o::rest) a w:=by
  rcases hr with hr|⟨rfl,rfl,ad,cap,rfl⟩
  · rcases hr.val with ⟨rfl,rfl⟩|⟨bk,ob,cap,rfl,hc1,hc2,hlt,hcell⟩
    · have hx0:news=[]:=List.length_eq_zero_iff.1 (by rw [hr.len,Nat.zero_mul])
      subst hx0
      refine wpList_append_own_none hgd s x t ho base e i size ht hi v n xs hs hown hx ?_
      exact h v w (by simpa using hown) ⟨rfl,rfl,rfl,Nat.le_refl _,fun _ _ _=>rfl⟩
    · exact wpList_append_own _ hgd s x t ho base e i z size bytes ht hi hz hsize hby hzs hsz v n xs hs hown ⟨bk,ob,none⟩ m cap news hx hr.len (fun j u hj=>by rw [addr_add];exact hcell j u hj) h1 h63 hbytes hbase fun v' w' a b _=>h v' w' a b
  · exact wpList_append_own _ hgd s x t ho base e i z size bytes ht hi hz hsize hby hzs hsz v n xs hs hown ad 0 cap [] hx (by simp) (fun j u hj=>by simp at hj) h1 h63 hbytes hbase fun v' w' a b _=>h v' w' a b
theorem run_append_rdw {P:Program} {w:World} (t ty:TypeId) (base:Nat) (e:TypeId) (i:TypeInfo) (z:Value) (size bytes:Nat) (ht:P.underlying t=some (.slice e)) (hi:P.info? e=some i) (hz:i.zero=some z)
    (hsize:i.size=size) (hby:i.bytes=bytes) (hzs:z.cells.size=size) (hsz:0<size)
    (v:Value) (n:Nat) (xs:List Value) (hown:w.ownsRow base e size v n xs) (vx:Value) (m:Nat) (news:List Value) (hr:Rdw w vx m size news) (h1:∀ u∈news,u.oneCell'=true)
    (h63:n+m≤maxLen) (hbytes:(n+m) * bytes≤140737488355328) (hbase:base≤w.heap.size) :
    ∃ v' w',(Builtin.append_ #[t,t] ty #[v,vx]).run P w=.ok v' w'∧w'.ownsRow base e size v' (n+m) (xs++news)∧w.grownBy w' v.ownBlock:=by
  rcases hr with hr|⟨rfl,rfl,ad,cap,rfl⟩
  · rcases hr.val with ⟨rfl,rfl⟩|⟨bk,ob,cap,rfl,hc1,hc2,hlt,hcell⟩
    · have hx0:news=[]:=List.length_eq_zero_iff.1 (by rw [hr.len,Nat.zero_mul])
      subst hx0
      exact ⟨v,w,run_append_owned_none (P:=P) (w:=w) base t ty e i size ht hi v n xs hown,by simpa using hown,⟨rfl,rfl,rfl,Nat.le_refl _,fun _ _ _=>rfl⟩⟩
    · obtain ⟨v',w',hr',h2,h3,_,_⟩:=run_append_own_at (P:=P) w base t ty e i z size bytes ht hi hz hsize hby hzs hsz v n xs hown ⟨bk,ob,none⟩ m cap news hr.len (fun j u hj=>by rw [addr_add];exact hcell j u hj) h1 h63 hbytes hbase
      exact ⟨v',w',hr',h2,h3⟩
  · obtain ⟨v',w',hr',h2,h3,_,_⟩:=run_append_own_at (P:=P) w base t ty e i z size bytes ht hi hz hsize hby hzs hsz v n xs hown ad 0 cap [] (by simp) (fun j u hj=>by simp at hj) h1 h63 hbytes hbase
    exact ⟨v',w',hr',h2,h3⟩
theorem step_append_rdw {P:Program} {w:World} {ops:Array Oper} {o:Oper} {a:Act} {K:Act→World→Prop} {Q:Exit→Act→World→Prop} {E:Prop} (hgd:o.guard=none) (s x:Operand) (t:TypeId)
    (ho:o.op=.call { callee:=.builtin .append,args:=#[s,x],argTypes:=#[t,t] })
    (base:Nat) (e:TypeId) (i:TypeInfo) (z:Value) (size bytes:Nat) (ht:P.underlying t=some (.slice e)) (hi:P.info? e=some i) (hz:i.zero=some z)
    (hsize:i.size=size) (hby:i.bytes=bytes) (hzs:z.cells.size=size) (hsz:0<size)
    (v:Value) (n:Nat) (xs:List Value) (hs:a.eval s=v) (hown:w.ownsRow base e size v n xs) (vx:Value) (m:Nat) (news:List Value) (hx:a.eval x=vx) (hr:Rdw w vx m size news) (h1:∀ u∈news,u.oneCell'=true)
    (h63:n+m≤maxLen) (hbytes:(n+m) * bytes≤140737488355328) (hbase:base≤w.heap.size)
    (h:∀ v' w',w'.ownsRow base e size v' (n+m) (xs++news)→w.grownBy w' v.ownBlock→K (a.put o.dst v') w') :
    if Region.wanted o (yielded ops a.tmps)=true then Oper.wp P o a w K Q else E:=by
  have hw:Region.wanted o (yielded ops a.tmps)=true:=by simp [Region.wanted,hgd]
  rw [if_pos hw]
  obtain ⟨v',w',hr',h2,h3⟩:=run_append_rdw (P:=P) (w:=w) t o.type base e i z size bytes ht hi hz hsize hby hzs hsz v n xs hown vx m news hr h1 h63 hbytes hbase
  unfold Oper.wp execOp
  simp only [ho,resolve,invoke,builtin,Sem.run_bind,Sem.run_pure,Result.andThen_ok,List.map_toArray,List.map_cons,List.map_nil,hs,hx,hr']
  exact h v' w' h2 h3
theorem own_empty (w:World) (m:Nat) (hm:w.heap.size=m) (base:Nat) (e size:Nat) (hb:base≤w.heap.size):(w.alloc (.cells #[] e)).ownsRow base e size (.slice (some ⟨m,0,none⟩) 0 0) 0 []:=by
  subst hm
  refine ⟨by simp,.inr ⟨w.heap.size,0,#[],rfl,hb,halloc1 w _,Nat.le_refl _,by unfold maxLen;omega,?_,?_⟩⟩ <;> simp
theorem row_cur {w:World} {N e s g n cap:Nat} {xs:List Value} (h:w.ownsRow N e s (.slice (some ⟨g,0,none⟩) n cap) n xs):∃ cur,w.heap[g]?=some (.cells cur e (0,0)):=by
  rcases h.2 with ⟨e,_⟩|⟨g',cap',cur,e,_,hg,_⟩
  · simp at e
  · simp only [Value.slice.injEq,Option.some.injEq,Addr.mk.injEq,and_true,true_and] at e
    obtain ⟨rfl,rfl⟩:=e
    exact ⟨cur,hg⟩
theorem zero2 (n:Nat):(Builtin.zeroCells #[.int .i64 0,.int .i64 0] n).toList=List.replicate (n * 2) (.int .i64 0):=by
  simp only [Builtin.zeroCells,Array.toList_map]
  apply List.ext_getElem
  · simp
  · intro i h1 h2
    simp
    rcases Nat.mod_two_eq_zero_or_one i with h|h <;> simp [h]
theorem run_clear2 (w:World) (ty:TypeId) (b o n c:Nat) (hn:0<n) (hc:∀ j,j<n * 2→(w.cell? ⟨b,o+j,none⟩).isSome=true) (hf:∀ j,w.frozen? ⟨b,o+j,none⟩=false) :
    (Builtin.clear_ #[39] ty #[.slice (some ⟨b,o,none⟩) n c]).run Tryz.prog w=.ok (.tuple #[]) (w.setCells b o (List.replicate (n * 2) (.int .i64 0))):=by
  have hst:=run_storeCells_cells (P:=Tryz.prog) b o (List.replicate (n * 2) (.int .i64 0)) 0 w (by simpa using hc) (by intro j _;simpa using hf j) (by intro v hv';rw [List.eq_of_mem_replicate hv'];rfl)
  simp only [Nat.add_zero] at hst
  have hz:(Value.agg #[.int .i64 0,.int .i64 0]).cells=#[.int .i64 0,.int .i64 0]:=by simp [Value.cells]
  obtain ⟨m,rfl⟩:∃ m,n=m+1:=⟨n - 1,by omega⟩
  simp [Builtin.clear_,run_underlying Tryz.underlying39,Tryz.zeroValue24,hz,zero2,hst]
theorem flatD_take:∀ (R:List (Int×Int)) (i:Nat),(flatD R).take (i * 2)=flatD (R.take i)
  | [],i=>by simp [flatD]
  | x::r,0=>by simp [flatD]
  | x::r,i+1=>by
    have e:flatD (x::r)=.int .i64 x.1::.int .i64 x.2::flatD r:=by simp [flatD]
    have e2:flatD ((x::r).take (i+1))=.int .i64 x.1::.int .i64 x.2::flatD (r.take i):=by simp [flatD]
    rw [e,e2,show (i+1) * 2=i * 2+1+1 by omega,List.take_succ_cons,List.take_succ_cons,flatD_take r i]
theorem flatD_set:∀ (R:List (Int×Int)) (i:Nat) (x:Int×Int),((flatD R).set (i * 2) (.int .i64 x.1)).set (i * 2+1) (.int .i64 x.2)=flatD (R.set i x)
  | [],i,x=>by simp [flatD]
  | y::r,0,x=>by simp [flatD]
  | y::r,i+1,x=>by
    have e:flatD (y::r)=.int .i64 y.1::.int .i64 y.2::flatD r:=by simp [flatD]
    have e2:flatD ((y::r).set (i+1) x)=.int .i64 y.1::.int .i64 y.2::flatD (r.set i x):=by simp [flatD]
    rw [e,e2,show (i+1) * 2=i * 2+1+1 by omega,List.set_cons_succ,List.set_cons_succ,List.set_cons_succ,List.set_cons_succ,flatD_set r i x]
theorem rowD_cut {w:World} {N:Nat} {R:List (Int×Int)} {g cap n i:Nat} (h:w.ownsRow N 24 2 (.slice (some ⟨g,0,none⟩) n cap) n (flatD R)) (hi:i≤n):w.ownsRow N 24 2 (.slice (some ⟨g,0,none⟩) i cap) i (flatD (R.take i)):=by
  have hl:=h.1
  rw [flatD_length] at hl
  refine ⟨by rw [flatD_length,List.length_take];omega,?_⟩
  rcases h.2 with ⟨e,_⟩|⟨g',cap',cur,e,h1,h2,h3,h4,h5,h6⟩
  · simp at e
  · simp only [Value.slice.injEq,Option.some.injEq,Addr.mk.injEq,and_true,true_and] at e
    obtain ⟨rfl,rfl⟩:=e
    refine .inr ⟨g,cap,cur,rfl,h1,h2,by omega,h4,h5,?_⟩
    rw [← flatD_take,← h6,List.take_take,Nat.min_eq_left (by omega)]
theorem rowD_clear {N i g cap:Nat} {xs:List Value}:∀ (vs:List Value) (o:Nat) (w:World),w.ownsRow N 24 2 (.slice (some ⟨g,0,none⟩) i cap) i xs→i * 2≤o→(w.setCells g o vs).ownsRow N 24 2 (.slice (some ⟨g,0,none⟩) i cap) i xs∧w.grownBy (w.setCells g o vs) (some g)
  | [],o,w,h,_=>⟨h,⟨rfl,rfl,rfl,Nat.le_refl _,fun _ _ _=>rfl⟩⟩
  | v::r,o,w,h,ho=>by
    obtain ⟨h1,h2⟩:=h.stored o v
    rw [List.set_eq_of_length_le (by rw [h.1];exact ho)] at h1
    obtain ⟨h3,h4⟩:=rowD_clear r (o+1) _ h1 (by omega)
    exact ⟨h3,h2.trans h4⟩
theorem eqNilD1 (w:World):(binOp .eql 39 (.slice none 0 0) (.slice none 0 0)).run Tryz.prog w=.ok (.bool true) w:=by
  have h:(Op.equalIn (9999+1) 39 (.slice none 0 0) (.slice none 0 0)).run Tryz.prog w=.ok true w:=by
    rw [Op.equalIn]
    simp [run_underlying Tryz.underlying39,go_sem]
  have h2:(Op.equal 39 (.slice none 0 0) (.slice none 0 0)).run Tryz.prog w=.ok true w:=h
  simp [binOp,h2,go_sem]
theorem eqNilD2 (g n cap:Nat) (w:World):(binOp .eql 39 (.slice (some ⟨g,0,none⟩) n cap) (.slice none 0 0)).run Tryz.prog w=.ok (.bool false) w:=by
  have h:(Op.equalIn (9999+1) 39 (.slice (some ⟨g,0,none⟩) n cap) (.slice none 0 0)).run Tryz.prog w=.ok false w:=by
    rw [Op.equalIn]
    simp [run_underlying Tryz.underlying39,go_sem]
  have h2:(Op.equal 39 (.slice (some ⟨g,0,none⟩) n cap) (.slice none 0 0)).run Tryz.prog w=.ok false w:=h
  simp [binOp,h2,go_sem]
set_option maxHeartbeats 1000000 in
theorem cloD_any (N:Nat) (l:List (Int×Int)) (v:Value) (W:World) (h:W.ownsRow N 24 2 v l.length (flatD l)) (hn:l.length≤1000000):Calls Tryz.prog 245 #[v] W fun e w'=>∃ v',e=.returned v'∧w'.ownsRow W.heap.size 24 2 v' l.length (flatD l)∧Below W.heap.size W w':=by
  obtain ⟨i0,hi0,hz0,hz1,hz2⟩:=info_parts Tryz.hinfoD
  have HR:Hid (∀ o,Rdw (W.alloc o) v l.length 2 (flatD l)):=fun o=>.inl (own_rds (h.alloc o))
  rcases h.2 with ⟨rfl,e⟩|⟨g,cap,cur,rfl,_⟩
  · have HE:Hid (W.ownsRow W.heap.size 24 2 (.slice none 0 0) l.length (flatD l)):=by
      have e2:l=[]:=List.length_eq_zero_iff.1 e
      rw [e2];exact World.ownsRow_nil _ _ _ _
    clear h e HR
    have G2:=eqNilD1
    go_enter Tryz.func245,Tryz.ntmps245
    go_wp2
    refine bodyPost_ret (results_tmp rfl _ _ _) rfl ⟨_,rfl,?_,Below.refl _ _⟩
    exact HE.out
  · have HO:Hid (∀ u∈flatD l,u.oneCell'=true):=flatD_one l
    obtain ⟨K,hK⟩:∃ K,l.length=K:=⟨_,rfl⟩
    rw [hK] at hn HR ⊢
    generalize flatD l=xs at *
    clear h hK
    have G2:=eqNilD2 g K cap
    go_enter Tryz.func245,Tryz.ntmps245
    go_wp2_with (at_builtin;refine wpList_append_rdw rfl _ _ 39 rfl W.heap.size 24 i0 (.agg #[.int .i64 0,.int .i64 0]) 2 16 Tryz.underlying39 hi0 hz0 hz1 hz2 rfl (by decide) (.slice (some ⟨W.heap.size,0,none⟩) 0 0) 0 [] rfl (own_empty _ _ rfl _ _ _ (Nat.le_refl _)) (.slice (some ⟨g,0,none⟩) K cap) K xs rfl (HR.out _) HO.out ?c1 ?c2 ?c3 ?_)
    case c1=>unfold maxLen;omega
    case c2=>omega
    case c3=>simp
    intro v' w2 hown hgrow
    obtain ⟨va2,vn2,rfl⟩:=ownv hown
    try simp only [Nat.zero_add] at hown
    try simp only [List.nil_append] at hown
    have B2:Hid (Below W.heap.size W w2):=by
      refine Below.grown (w:=_) ((Below.refl _ W).alloc (Nat.le_refl _) (.cells #[] 24)) hgrow (by simp) (fun x hx=>?_)
      simp [Value.ownBlock] at hx;omega
    have O2:Hid _:=hown
    clear hown hgrow
    go_wp2
    refine bodyPost_ret (results_tmp rfl _ _ _) rfl ⟨_,rfl,?_,B2.out⟩
    exact O2.out
structure DelR (p:Int×Int→Bool) (l R:List (Int×Int)) (i j:Nat):Prop where
  lt:i<j
  le:j≤l.length
  len:R.length=l.length
  pre:R.take i=(l.take j).filter (fun m=>!p m)
  suf:∀ k,j≤k→R[k]?=l[k]?
theorem DelR.start {p:Int×Int→Bool} {l:List (Int×Int)} {j:Nat} {m:Int×Int} (hm:l[j]?=some m) (hp:p m=true) (hl:∀ x∈l.take j,p x=false):DelR p l l j (j+1):=by
  have hj:=(List.getElem?_eq_some_iff.1 hm).1
  refine ⟨by omega,by omega,rfl,?_,fun _ _=>rfl⟩
  rw [List.take_add_one,hm,List.filter_append]
  have e1:(l.take j).filter (fun m=>!p m)=l.take j:=List.filter_eq_self.2 (fun x hx=>by rw [hl x hx];rfl)
  rw [e1];simp [hp]
theorem DelR.keep {p:Int×Int→Bool} {l R:List (Int×Int)} {i j:Nat} {x:Int×Int} (h:DelR p l R i j) (hx:l[j]?=some x) (hp:p x=false):DelR p l (R.set i x) (i+1) (j+1):=by
  have hj:=(List.getElem?_eq_some_iff.1 hx).1
  have h1:=h.lt
  have h2:=h.len
  refine ⟨by omega,by omega,by rw [List.length_set];exact h2,?_,fun k hk=>?_⟩
  · rw [List.take_add_one,List.take_add_one,hx,List.filter_append,← h.pre,List.getElem?_set_self (by omega),List.take_set_of_le (Nat.le_refl _)]
    simp [hp]
  · rw [List.getElem?_set_ne (by omega)];exact h.suf k (by omega)
theorem DelR.skip {p:Int×Int→Bool} {l R:List (Int×Int)} {i j:Nat} {x:Int×Int} (h:DelR p l R i j) (hx:l[j]?=some x) (hp:p x=true):DelR p l R i (j+1):=by
  have hj:=(List.getElem?_eq_some_iff.1 hx).1
  have h1:=h.lt
  refine ⟨by omega,by omega,h.len,?_,fun k hk=>h.suf k (by omega)⟩
  rw [List.take_add_one,hx,List.filter_append,← h.pre]
  simp [hp]
set_option maxHeartbeats 4000000 in
theorem delD_any (g:Nat) (eg:∀ args w,(callFunc g args).run Tryz.prog w=.ok (.enter g args) w) (cb:Array Value) (p:Int×Int→Bool) (N:Nat) (l:List (Int×Int)) (v:Value) (W:World) (h:W.ownsRow N 24 2 v l.length (flatD l)) (hN:N≤W.heap.size) (hn:l.length≤1000000) (hp:PredD g cb p l N W) :
    Calls Tryz.prog 187 #[v,.func (.func g) #[] cb] W fun e w'=>∃ v',e=.returned v'∧w'.ownsRow N 24 2 v' (l.filter (fun m=>!p m)).length (flatD (l.filter (fun m=>!p m)))∧Below N W w':=by
  have HI:Hid (Calls Tryz.prog 249 #[v,.func (.func g) #[] cb] W fun e w'=>e=.returned (.int .i64 (idxP p l 0))∧Below W.heap.size W w'):=idxD_any g eg cb p N l v W h hn (fun m hm w hb=>hp m hm w (hb.mono hN))
  rcases idxP_range p l 0 with ⟨e1,e2⟩|⟨j0,e1,hj0,e2,hpre,m0,hm0,hpm⟩
  · rw [e1] at HI
    have e3:l.filter (fun m=>!p m)=l:=List.filter_eq_self.2 (fun x hx=>by
      rw [List.any_eq_false] at e2
      have:=e2 x hx
      simpa using this)
    rw [e3]
    have HA:Hid (W.ownsRow N 24 2 v l.length (flatD l)):=h
    obtain ⟨ao,cap,rfl⟩:=ownv h
    clear h hp e1 e2 e3
    go_enter Tryz.func187,Tryz.ntmps187
    go_wp2_with (go_at_call 249;refine HI.out.mono ?_;rintro e w1 ⟨rfl,hb⟩;have B1:Hid (Below W.heap.size W w1):=hb;clear hb HI)
    refine bodyPost_ret (results_tmp rfl _ _ _) rfl ⟨_,rfl,?_,B1.out.mono hN⟩
    exact rowBelow HA.out B1.out
  · rw [e1,Nat.zero_add] at HI
    obtain ⟨gm,cap,hform⟩:=Go.Joins.ownsRow_form h (by omega)
    subst hform
    have HA:Hid (W.ownsRow N 24 2 (.slice (some ⟨gm,0,none⟩) l.length cap) l.length (flatD l)):=h
    have hcap:l.length≤cap:=by
      rcases h.2 with ⟨e,_⟩|⟨g',cap',cur,e,_,_,h3,_⟩
      · simp at e
      · simp only [Value.slice.injEq,Option.some.injEq,Addr.mk.injEq,and_true,true_and] at e
        obtain ⟨rfl,rfl⟩:=e
        exact h3
    have hgN:N≤gm:=(h.lt gm rfl).1
    have HP:Hid (PredD g cb p l N W):=hp
    have HD0:Hid (DelR p l l j0 (j0+1)):=DelR.start hm0 hpm hpre
    obtain ⟨K,hK⟩:∃ K,l.length=K:=⟨_,rfl⟩
    have HK:Hid (l.length=K):=hK
    rw [hK] at hn hj0 hcap HI ⊢
    clear h hp e1 e2 hpre hm0 hpm hK
    have hne:((j0:Int) == -1)=false:=beq_eq_false_iff_ne.2 (by omega)
    go_enter Tryz.func187,Tryz.ntmps187
    go_wp2_with (go_at_call 249;refine HI.out.mono ?_;rintro e w1 ⟨rfl,hb⟩;have B1:Hid (Below W.heap.size W w1):=hb;clear hb HI)
    go_loopw [5,6] (fun iv jv wr=>∃ (i j:Nat) (R:List (Int×Int)),iv=.int .i64 i∧jv=.int .i64 j∧i<j∧j≤K∧Hid (DelR p l R i j)∧Hid (wr.ownsRow N 24 2 (.slice (some ⟨gm,0,none⟩) K cap) K (flatD R))∧Hid (Below N W wr)) (fun _ jv _=>K - (intOf jv).toNat)
    case atStart=>exact ⟨j0,j0+1,l,rfl,by go_num,by omega,by omega,HD0,by have:=rowBelow HA.out B1.out;rw [HK.out] at this;exact this,B1.out.mono hN⟩
    case round =>
      obtain ⟨i,j,R,rfl,rfl,hij,hjK,hD,hO,hB⟩:=hrel
      have hRK:R.length=K:=hD.out.len.trans HK.out
      have hrow:wr.ownsRow N 24 2 (.slice (some ⟨gm,0,none⟩) R.length cap) R.length (flatD R):=by rw [hRK];exact hO.out
      obtain ⟨y,hy⟩:∃ y,R[i]?=some y:=⟨_,List.getElem?_eq_getElem (by omega)⟩
      by_cases hlt:j<K
      · obtain ⟨x,hx⟩:∃ x,l[j]?=some x:=⟨_,List.getElem?_eq_getElem (by rw [HK.out];exact hlt)⟩
        obtain ⟨e0,e1,hgl⟩:=rowD_cells hrow ((hD.out.suf j (Nat.le_refl _)).trans hx)
        obtain ⟨y0,y1,_⟩:=rowD_cells hrow hy
        obtain ⟨cur,hcur⟩:=row_cur hrow
        have HX:Hid (l[j]?=some x):=hx
        have HC:Hid (∀ w,Below N W w→Calls Tryz.prog g (#[.agg #[.int .i64 x.1,.int .i64 x.2]]++cb) w fun e w'=>e=.returned (.bool (p x))∧Below w.heap.size w w'):=fun w hb=>HP.out x (List.mem_of_getElem? hx) w hb
        have Y0:Hid (wr.cell? ⟨gm,i * 2,none⟩=some (.int .i64 y.1)):=y0
        have Y1:Hid (wr.cell? ⟨gm,i * 2+1,none⟩=some (.int .i64 y.2)):=y1
        have HCU:Hid (wr.heap[gm]?=some (.cells cur 24 (0,0))):=hcur
        have hiK:(i:Int)<(K:Int):=by omega
        have hjI:(j:Int)<(K:Int):=by omega
        have hNw:N≤wr.heap.size:=Nat.le_trans hN hB.out.size
        have hnw:¬ gm=wr.heap.size:=by omega
        obtain ⟨q,hq⟩:∃ q,p x=q:=⟨_,rfl⟩
        have HQ:Hid (p x=q):=hq
        rw [hq] at HC
        clear hx hrow hy y0 y1 hcur hq HP HA HD0 B1
        obtain ⟨x1,x2⟩:=x
        simp only at e0 e1 HC
        cases q with
        | false =>
          go_wp2_with (go_at_fn g;refine (HC.out _ (hB.out.alloc hNw _)).mono ?_;rintro e w1 ⟨rfl,hb⟩;have O1:Hid (w1.ownsRow N 24 2 (.slice (some ⟨gm,0,none⟩) K cap) K (flatD R)):=rowBelow (hO.out.alloc _) hb;have B1:Hid (Below N W w1):=(hB.out.alloc hNw _).trans (hb.mono (by simp;omega));have m0:w1.cell? ⟨wr.heap.size,0,none⟩=some (.int .i64 x1):=(hb.cell (p:=⟨wr.heap.size,0,none⟩) (by simp)).trans (by simp [go_sem]);have m1:w1.cell? ⟨wr.heap.size,1,none⟩=some (.int .i64 x2):=(hb.cell (p:=⟨wr.heap.size,1,none⟩) (by simp)).trans (by simp [go_sem]);have z0:w1.cell? ⟨gm,i * 2,none⟩=some (.int .i64 y.1):=(hb.cell (p:=⟨gm,i * 2,none⟩) (by simp;omega)).trans (Lib.cell?_alloc_some _ Y0.out);have z1:w1.cell? ⟨gm,i * 2+1,none⟩=some (.int .i64 y.2):=(hb.cell (p:=⟨gm,i * 2+1,none⟩) (by simp;omega)).trans (Lib.cell?_alloc_some _ Y1.out);have hcu:w1.heap[gm]?=some (.cells cur 24 (0,0)):=(hb.block gm (by simp;omega)).trans ((((Below.refl _ wr).alloc (Nat.le_refl _) _).block gm hgl).trans HCU.out);have f0:=frozen_of_row w1 gm (i * 2) _ _ hcu;have f1:=frozen_of_row w1 gm (i * 2+1) _ _ hcu;clear hb hcu HC e0 e1 Y0 Y1 HCU)
          have O2:Hid (((w1.setCell ⟨gm,i * 2,none⟩ (.int .i64 x1)).setCell ⟨gm,i * 2+1,none⟩ (.int .i64 x2)).ownsRow N 24 2 (.slice (some ⟨gm,0,none⟩) K cap) K (flatD (R.set i (x1,x2)))):=by
            obtain ⟨s0,_⟩:=O1.out.stored (i * 2) (.int .i64 x1)
            obtain ⟨s1,_⟩:=s0.stored (i * 2+1) (.int .i64 x2)
            rw [flatD_set R i (x1,x2)] at s1
            exact s1
          have B2:Hid (Below N W ((w1.setCell ⟨gm,i * 2,none⟩ (.int .i64 x1)).setCell ⟨gm,i * 2+1,none⟩ (.int .i64 x2))):=(B1.out.setCell hgN _).setCell hgN _
          go_roundw
          case rel=>exact ⟨i+1,j+1,_,by go_num,by go_num,by omega,by omega,hD.out.keep HX.out HQ.out,O2,B2⟩
          case measure=>simp [intOf];omega
        | true =>
          go_wp2_with (go_at_fn g;refine (HC.out _ (hB.out.alloc hNw _)).mono ?_;rintro e w1 ⟨rfl,hb⟩;have O1:Hid (w1.ownsRow N 24 2 (.slice (some ⟨gm,0,none⟩) K cap) K (flatD R)):=rowBelow (hO.out.alloc _) hb;have B1:Hid (Below N W w1):=(hB.out.alloc hNw _).trans (hb.mono (by simp;omega));clear hb HC e0 e1 Y0 Y1 HCU)
          go_roundw
          case rel=>exact ⟨i,j+1,R,rfl,by go_num,by omega,by omega,hD.out.skip HX.out HQ.out,O1,B1⟩
          case measure=>simp [intOf];omega
      · obtain rfl:j=K:=by omega
        have hcl:∀ ty,(Builtin.clear_ #[39] ty #[.slice (some ⟨gm,i * 2,none⟩) (j - i) (cap - i)]).run Tryz.prog wr=.ok (.tuple #[]) (wr.setCells gm (i * 2) (List.replicate ((j - i) * 2) (.int .i64 0))):=fun ty=>by
          obtain ⟨cur,hcur⟩:=row_cur hrow
          refine run_clear2 wr ty gm (i * 2) (j - i) (cap - i) (by omega) (fun t ht=>?_) (fun t=>frozen_of_row wr gm _ _ _ hcur)
          rw [hrow.cellAt (i * 2+t) (by omega),List.getElem?_eq_getElem (by rw [flatD_length];omega)];rfl
        clear hrow hy
        have HF:Hid (l.filter (fun m=>!p m)=R.take i):=by rw [Hid,hD.out.pre,List.take_of_length_le (by rw [HK.out];exact Nat.le_refl _)]
        go_wp2
        refine bodyPost_ret (results_tmp rfl _ _ _) rfl ⟨.slice (some ⟨gm,0,none⟩) i cap,rfl,?_,?_⟩
        · rw [HF.out,List.length_take,hRK,Nat.min_eq_left (by omega)]
          exact (rowD_clear _ _ wr (rowD_cut hO.out (by omega)) (Nat.le_refl _)).1
        · refine hB.out.grown (rowD_clear _ _ wr (rowD_cut hO.out (Nat.le_of_lt hij)) (Nat.le_refl _)).2 (Nat.le_trans hN hB.out.size) (fun x hx=>?_)
          cases hx;exact hgN
theorem packageOf_any (nm su:ByteArray) (fl ld:Int) (vi vm:Value) (W:World) (hs:nm.size≤maxLen):Calls Tryz.prog 216 #[.agg #[.string nm,.string su,vi,.int .i64 fl,.int .i64 ld,vm]] W fun e w'=>e=.returned (.agg #[.int .i64 ld,.string ⟨(pkgL nm.data.toList).toArray⟩])∧Below W.heap.size W w':=by
  have HP:Hid (∀ w:World,Calls Tryz.prog 270 #[.string nm] w fun e w'=>e=.returned (.string ⟨(pkgL nm.data.toList).toArray⟩)∧w'=w):=fun w=>package_any nm hs w
  generalize (⟨(pkgL nm.data.toList).toArray⟩:ByteArray)=pk at *
  clear hs
  go_enter Tryz.func216,Tryz.ntmps216
  go_wp2
  go_region_held3 (fun w'=>w'.cell? ⟨W.heap.size,0,none⟩=some (.string nm)∧w'.cell? ⟨W.heap.size,4,none⟩=some (.int .i64 ld)) (go_keep) (first|(go_at_call 270;refine (HP.out _).mono ?_;rintro e w9 ⟨rfl,hw9⟩;rw [hw9];clear hw9 w9))
  go_wp2
  refine bodyPost_ret (v:=.agg #[.int .i64 ld,.string pk]) (by simp [results,Tryz.results216,go_sem]) rfl ⟨rfl,?_⟩
  exact (((Below.refl _ _).alloc (Nat.le_refl _) _).alloc (by simp) _).drew
def nameL (p:Plc):List UInt8:=p.c.nm.data.toList
def lookF (key:List UInt8) (k:Nat):List Plc→Option Nat
  | []=>none
  | p::r=>match lookF key (k+1) r with
    | some j=>some j
    | none=>if nameL p=key then some k else none
def lookL (ps:List Plc) (key:List UInt8):Option Nat:=lookF key 0 ps
theorem nums_has (key:List UInt8) (ps:List Plc) (D:DataW Unit) (k:Nat) (hD:IsMap D):Maps.has (numsF D k ps) (.string key)=((lookF key k ps).isSome||Maps.has D (.string key)):=by
  induction ps generalizing D k with
  | nil=>rfl
  | cons p r ih =>
    rw [numsF,ih _ _ (hD.put _ _),lookF]
    cases hl:lookF key (k+1) r with
    | some j=>rfl
    | none =>
      by_cases hn:nameL p=key
      · rw [if_pos hn]
        have e:Maps.has (D.put (.string p.c.nm.data.toList) (.lit (.int .i64 (k:Int)))) (.string key)=true:=by
          rw [← hn];exact has_put_same hD (k:=.string p.c.nm.data.toList) (show WideAt.IsKeyLit (.string p.c.nm.data.toList) from trivial) _
        rw [e];rfl
      · rw [if_neg hn,has_put_other (fun e=>hn (by injection e with e;exact e.symm))]
theorem nums_at (key:List UInt8) (z:DataW Unit) (ps:List Plc) (D:DataW Unit) (k:Nat) (hD:IsMap D):(numsF D k ps).atKey (.string key) z=(match lookF key k ps with|some j=>.lit (.int .i64 (j:Int))|none=>D.atKey (.string key) z):=by
  induction ps generalizing D k with
  | nil=>rfl
  | cons p r ih =>
    rw [numsF,ih _ _ (hD.put _ _),lookF]
    cases hl:lookF key (k+1) r with
    | some j=>rfl
    | none =>
      by_cases hn:nameL p=key
      · rw [if_pos hn]
        show (D.put (.string p.c.nm.data.toList) (.lit (.int .i64 (k:Int)))).atKey (.string key) z=_
        rw [← hn];exact atKey_put_same hD (k:=.string p.c.nm.data.toList) (show WideAt.IsKeyLit (.string p.c.nm.data.toList) from trivial) _ _
      · rw [if_neg hn]
        exact atKey_put_other (fun e=>hn (by injection e with e;exact e.symm)) _ _
theorem look_lt (key:List UInt8) (ps:List Plc) (k j:Nat) (h:lookF key k ps=some j):k≤j∧∃ q,ps[j - k]?=some q∧nameL q=key:=by
  induction ps generalizing k with
  | nil=>cases h
  | cons p r ih =>
    rw [lookF] at h
    cases hl:lookF key (k+1) r with
    | some i =>
      rw [hl] at h
      cases h
      obtain ⟨h1,q,h2,h3⟩:=ih _ hl
      refine ⟨by omega,q,?_,h3⟩
      rw [show j - k=(j - (k+1))+1 by omega,List.getElem?_cons_succ]
      exact h2
    | none =>
      rw [hl] at h
      by_cases hn:nameL p=key
      · rw [if_pos hn] at h
        cases h
        exact ⟨Nat.le_refl _,p,by simp,hn⟩
      · rw [if_neg hn] at h;cases h
theorem byName_look (N b mb:Nat) (ps:List Plc) (vp:Value) (pv:List PV) (nm:ByteArray) (hnz:nm.size≤maxLen) (W:World) (h:HW W N b mb ps vp pv):Calls Tryz.prog 167 #[.pointer (some ⟨b,0,none⟩),.string nm] W fun e w'=>e=.returned (match lookL ps nm.data.toList with|some j=>.tuple #[.int .i64 (j:Int),.int .i64 0]|none=>.tuple #[.int .i64 0,.int .i64 6])∧Below W.heap.size W w':=by
  refine (byName_any N b mb ps vp pv nm hnz W h).mono ?_
  rintro e w' ⟨⟨c,hc,he⟩,hb⟩
  refine ⟨?_,hb⟩
  rw [numsD,nums_at _ _ _ _ _ isMap_empty] at hc
  rw [he,numsD,nums_has _ _ _ _ isMap_empty,lookL]
  cases hl:lookF nm.data.toList 0 ps with
  | none=>rfl
  | some j =>
    rw [hl] at hc
    injection hc with h1
    injection h1 with _ h2
    rw [← h2];rfl
set_option maxHeartbeats 1000000 in
theorem fits_any (N b mb bw bc:Nat) (ps:List Plc) (vp:Value) (pv:List PV) (k:Nat) (q:Plc) (nm su:ByteArray) (fl ld:Int) (vi vm:Value) (W:World) (h:HW W N b mb ps vp pv) (hq:ps[k]?=some q)
    (hw:W.heap[bw]?=some (.cells #[.pointer (some ⟨b,0,none⟩)] 26 (0,0))) (hc:W.heap[bc]?=some (.cells #[.string nm,.string su,vi,.int .i64 fl,.int .i64 ld,vm] 48 (0,0))) :
    Calls Tryz.prog 159 #[.int .i64 (k:Int),.pointer (some ⟨bw,0,none⟩),.pointer (some ⟨bc,0,none⟩)] W fun e w'=>e=.returned (.bool (!ifB q.c.fl&&(decide (k=0)||!ifB fl)))∧Below W.heap.size W w':=by
  have HI:Hid (Calls Tryz.prog 56 #[.pointer (some ⟨b,0,none⟩),.int .i64 (k:Int)] W fun e w'=>e=.returned (.bool (ifB q.c.fl))∧Below W.heap.size W w'):=isIfaceW_yes N b mb ps vp pv k q W h hq
  have HJ:Hid (∀ w:World,Calls Tryz.prog 130 #[.agg #[.string nm,.string su,vi,.int .i64 fl,.int .i64 ld,vm]] w fun e w'=>e=.returned (.bool (ifB fl))∧Below w.heap.size w w'):=fun w=>isIface_any nm su fl ld vi vm w
  have w0:=cell_of_row W bw 0 _ _ _ hw
  simp only [List.getElem?_toArray,List.getElem?_cons_zero] at w0
  have HC:Hid (W.heap[bc]?=some (.cells #[.string nm,.string su,vi,.int .i64 fl,.int .i64 ld,vm] 48 (0,0))):=hc
  have hlt:bc<W.heap.size:=(Array.getElem?_eq_some_iff.1 hc).1
  generalize ifB q.c.fl=zq at *
  generalize ifB fl=zf at *
  clear h hq hw hc
  by_cases hz:k=0
  · subst hz
    cases zq <;> cases zf <;>
    · go_enter Tryz.func159,Tryz.ntmps159
      go_wp2_with (first
        | (go_at_call 56;refine HI.out.mono ?_;rintro e w1 ⟨rfl,hb⟩;have B1:Hid (Below W.heap.size W w1):=hb;clear hb HI)
        | (go_at_call 130;refine (HJ.out _).mono ?_;rintro e w2 ⟨rfl,hb⟩;have B2:Hid (Below W.heap.size W w2):=bstep B1.out hb;clear hb HJ))
      exact bodyPost_ret (results_tmp rfl _ _ _) rfl ⟨rfl,by first|exact B1.out|exact B2.out⟩
  · have hz2:¬ (k:Int)=0:=by omega
    have hz3:decide (k=0)=false:=decide_eq_false hz
    cases zq <;> cases zf <;>
    · go_enter Tryz.func159,Tryz.ntmps159
      go_wp2_with (first
        | (go_at_call 56;refine HI.out.mono ?_;rintro e w1 ⟨rfl,hb⟩;have B1:Hid (Below W.heap.size W w1):=hb;have hc1:=(hb.block bc hlt).trans HC.out;have c0:=cell_of_row w1 bc 0 _ _ _ hc1;have c1:=cell_of_row w1 bc 1 _ _ _ hc1;have c2:=cell_of_row w1 bc 2 _ _ _ hc1;have c3:=cell_of_row w1 bc 3 _ _ _ hc1;have c4:=cell_of_row w1 bc 4 _ _ _ hc1;have c5:=cell_of_row w1 bc 5 _ _ _ hc1;simp only [List.getElem?_toArray,List.getElem?_cons_zero,List.getElem?_cons_succ] at c0 c1 c2 c3 c4 c5;clear hb HI hc1)
        | (go_at_call 130;refine (HJ.out _).mono ?_;rintro e w2 ⟨rfl,hb⟩;have B2:Hid (Below W.heap.size W w2):=bstep B1.out hb;clear hb HJ))
      exact bodyPost_ret (results_tmp rfl _ _ _) rfl ⟨by first|rfl|(rw [hz3];rfl)|(simp [hz];done),by first|exact B2.out|exact B1.out⟩
theorem halloc (w:World) (o:Obj):(w.alloc o).heap[w.heap.size]?=some o:=by unfold World.alloc;simp
def pubB (fl:Int):Bool:=bits .and .i64 fl 1 != 0
def sameP (q:HC) (nm:ByteArray) (ld:Int):Bool:=(q.ld == ld)&&(pkgL q.nm.data.toList == pkgL nm.data.toList)
def aboveN (ps:List Plc) (nm:ByteArray) (ld:Int) (fit:Nat→Plc→Bool) (key:List UInt8):Except Int Nat :=
  match lookL ps key with
  | none=>.error 20
  | some k=>match ps[k]? with
    | none=>.error 20
    | some q=>if fit k q then (if pubB q.c.fl||sameP q.c nm ld then .ok k else .error 22) else .error 23
def abvV:Except Int Nat→Value
  | .ok k=>.tuple #[.int .i64 (k:Int),.int .i64 0]
  | .error e=>.tuple #[.int .i64 0,.int .i64 e]
set_option maxHeartbeats 4000000 in
theorem findAbove_none (fv:Value) (N b mb:Nat) (ps:List Plc) (vp:Value) (pv:List PV) (nm su:ByteArray) (fl ld:Int) (vi vm:Value) (key:ByteArray) (hkz:key.size≤maxLen) (W:World) (h:HW W N b mb ps vp pv) (hl:lookL ps key.data.toList=none) :
    Calls Tryz.prog 158 #[.pointer (some ⟨b,0,none⟩),.agg #[.string nm,.string su,vi,.int .i64 fl,.int .i64 ld,vm],.string key,fv] W fun e w'=>e=.returned (.tuple #[.int .i64 0,.int .i64 20])∧Below W.heap.size W w':=by
  have b1:=cell_of_row W b 1 _ _ _ h.hb
  simp only [List.getElem?_toArray,List.getElem?_cons_zero,List.getElem?_cons_succ] at b1
  obtain ⟨D,hD⟩:∃ D,numsD ps=D:=⟨_,rfl⟩
  have hz:Maps.has D (.string key.data.toList)=false:=by
    rw [← hD,numsD,nums_has _ _ _ _ isMap_empty]
    rw [lookL] at hl
    rw [hl];rfl
  have hown:=h.map
  rw [hD] at hown
  have HOWN:Hid (∀ o,(W.alloc o).ownsMap Tryz.prog 9 (plainElem (H:=Unit) Tryz.prog 3) mb ps.length D):=fun o=>hown.alloc o
  have hkey:=Go.WideMaps.keyOf_string_mk (P:=Tryz.prog) Tryz.underlying9 hkz
  have HKEY:Hid (keyOf Tryz.prog 9 (.string key)=some (.string key.data.toList)):=hkey
  obtain ⟨kl,hkl⟩:∃ k,k=Lit.string key.data.toList:=⟨_,rfl⟩
  rw [← hkl] at HKEY hz
  have hlt:b<W.heap.size:=(Array.getElem?_eq_some_iff.1 h.hb).1
  have hlm:¬ b=W.heap.size:=by omega
  clear h hD hown hkey hkl hl
  go_enter Tryz.func158,Tryz.ntmps158
  go_wp2_with (at_lookup;refine wpList_lookup_own_ok_int _ rfl _ _ 115 rfl 9 3 .i64 law9 Tryz.underlying115 Tryz.underlying3 (zero3 _) mb ps.length D rfl (HOWN.out _) _ _ rfl HKEY.out ?_;intro cc hat hwc;clear hat hwc)
  exact bodyPost_ret (results_tmp2 rfl _ _ _) rfl ⟨rfl,(Below.refl _ _).alloc (Nat.le_refl _) _⟩
--BASE
set_option maxHeartbeats 4000000 in
theorem findAbove_sup (bw bc:Nat) (N b mb:Nat) (ps:List Plc) (vp:Value) (pv:List PV) (nm su:ByteArray) (fl ld:Int) (vi vm:Value) (key:ByteArray) (hkz:key.size≤maxLen) (hnz:nm.size≤maxLen) (W:World) (h:HW W N b mb ps vp pv) (k:Nat) (q:Plc) (hl:lookL ps key.data.toList=some k) (hq:ps[k]?=some q) (hqz:q.c.nm.size≤maxLen) (ft:Bool)
    (hF:∀ w:World,Below W.heap.size W w→Calls Tryz.prog 159 #[.int .i64 (k:Int),.pointer (some ⟨bw,0,none⟩),.pointer (some ⟨bc,0,none⟩)] w fun e w'=>e=.returned (.bool ft)∧Below w.heap.size w w') :
    Calls Tryz.prog 158 #[.pointer (some ⟨b,0,none⟩),.agg #[.string nm,.string su,vi,.int .i64 fl,.int .i64 ld,vm],.string key,.func (.func 159) #[] #[.pointer (some ⟨bw,0,none⟩),.pointer (some ⟨bc,0,none⟩)]] W fun e w'=>e=.returned (abvV (if ft then (if pubB q.c.fl||sameP q.c nm ld then .ok k else .error 22) else .error 23))∧Below W.heap.size W w':=by
  have b1:=cell_of_row W b 1 _ _ _ h.hb
  simp only [List.getElem?_toArray,List.getElem?_cons_zero,List.getElem?_cons_succ] at b1
  obtain ⟨D,hD⟩:∃ D,numsD ps=D:=⟨_,rfl⟩
  have hz:Maps.has D (.string key.data.toList)=true:=by
    rw [← hD,numsD,nums_has _ _ _ _ isMap_empty]
    rw [lookL] at hl
    rw [hl];rfl
  have hat:∀ cc:Int,D.atKey (.string key.data.toList) (.lit (.int .i64 0))=.lit (.int .i64 cc)→cc=(k:Int):=fun cc hc=>by
    rw [← hD,numsD,nums_at _ _ _ _ _ isMap_empty] at hc
    rw [lookL] at hl
    rw [hl] at hc
    injection hc with h1
    injection h1 with _ h2
    exact h2.symm
  have hown:=h.map
  rw [hD] at hown
  have HOWN:Hid (∀ o,(W.alloc o).ownsMap Tryz.prog 9 (plainElem (H:=Unit) Tryz.prog 3) mb ps.length D):=fun o=>hown.alloc o
  have hkey:=Go.WideMaps.keyOf_string_mk (P:=Tryz.prog) Tryz.underlying9 hkz
  have HKEY:Hid (keyOf Tryz.prog 9 (.string key)=some (.string key.data.toList)):=hkey
  obtain ⟨kl,hkl⟩:∃ k,k=Lit.string key.data.toList:=⟨_,rfl⟩
  rw [← hkl] at HKEY hz hat
  have HAT:Hid (∀ cc:Int,D.atKey kl (.lit (.int .i64 0))=.lit (.int .i64 cc)→cc=(k:Int)):=hat
  have hlt:b<W.heap.size:=(Array.getElem?_eq_some_iff.1 h.hb).1
  have hlm:¬ b=W.heap.size:=by omega
  obtain ⟨g,cap,p,rfl,hpl,hcell⟩:=h.at hq
  have hkn:(k:Int)<(ps.length:Int):=by have:=(List.getElem?_eq_some_iff.1 hq).1;omega
  have b0:=cell_of_row W b 0 _ _ _ h.hb
  simp only [List.getElem?_toArray,List.getElem?_cons_zero] at b0
  have g0:W.cell? ⟨g,k * 8,none⟩=some (.string p.nm):=hcell 0 (by omega)
  have g1:W.cell? ⟨g,k * 8+1,none⟩=some (.string p.su):=hcell 1 (by omega)
  have g2:W.cell? ⟨g,k * 8+2,none⟩=some p.vi:=hcell 2 (by omega)
  have g3:W.cell? ⟨g,k * 8+3,none⟩=some (.int .i64 p.fl):=hcell 3 (by omega)
  have g4:W.cell? ⟨g,k * 8+4,none⟩=some (.int .i64 p.ld):=hcell 4 (by omega)
  have g5:W.cell? ⟨g,k * 8+5,none⟩=some p.vm:=hcell 5 (by omega)
  have hgl:g<W.heap.size:=World.block_lt_of_cell? W _ g0
  obtain ⟨qm,_,hoc⟩:=hpl.own
  obtain ⟨ai,ci,hvi⟩:=ownv hoc.ifs
  obtain ⟨am,cm,hvm⟩:=ownv hoc.ms
  rw [hvi] at g2
  rw [hvm] at g5
  have HF:Hid (∀ w:World,Below W.heap.size W w→Calls Tryz.prog 159 #[.int .i64 (k:Int),.pointer (some ⟨bw,0,none⟩),.pointer (some ⟨bc,0,none⟩)] w fun e w'=>e=.returned (.bool ft)∧Below w.heap.size w w'):=hF
  have HP:Hid (∀ w:World,Calls Tryz.prog 216 #[.agg #[.string nm,.string su,vi,.int .i64 fl,.int .i64 ld,vm]] w fun e w'=>e=.returned (.agg #[.int .i64 ld,.string ⟨(pkgL nm.data.toList).toArray⟩])∧Below w.heap.size w w'):=fun w=>packageOf_any nm su fl ld vi vm w hnz
  have HQ:Hid (∀ w:World,Calls Tryz.prog 216 #[.agg #[.string p.nm,.string p.su,.slice ai q.c.ni ci,.int .i64 p.fl,.int .i64 p.ld,.slice am qm.length cm]] w fun e w'=>e=.returned (.agg #[.int .i64 q.c.ld,.string ⟨(pkgL q.c.nm.data.toList).toArray⟩])∧Below w.heap.size w w'):=fun w=>by rw [← hpl.ld,← hpl.nm];exact packageOf_any p.nm p.su p.fl p.ld _ _ w (by rw [hpl.nm];exact hqz)
  have hfl:p.fl=q.c.fl:=hpl.fl
  rw [← hfl]
  have HS:Hid (sameP q.c nm ld=((q.c.ld == ld)&&(pkgL q.c.nm.data.toList == pkgL nm.data.toList))):=rfl
  generalize sameP q.c nm ld=sp at *
  clear h hD hown hkey hkl hl hat hpl hcell hF hq hfl hoc hvi hvm
  cases ft with
  | false =>
    go_enter Tryz.func158,Tryz.ntmps158
    go_wp2_with (first
      | (at_lookup;refine wpList_lookup_own_ok_int _ rfl _ _ 115 rfl 9 3 .i64 law9 Tryz.underlying115 Tryz.underlying3 (zero3 _) mb ps.length D rfl (HOWN.out _) _ _ rfl HKEY.out ?_;intro cc hat hwc;obtain rfl:=HAT.out cc hat;clear hat hwc)
      | (go_at_call 159;refine (HF.out _ ((Below.refl _ _).alloc (Nat.le_refl _) _)).mono ?_;rintro e w1 ⟨rfl,hb⟩;have B1:Hid (Below W.heap.size W w1):=bstep ((Below.refl _ _).alloc (Nat.le_refl _) _) hb;clear hb HF))
    exact bodyPost_ret (results_tmp2 rfl _ _ _) rfl ⟨rfl,B1.out⟩
  | true =>
    obtain ⟨R,hR⟩:∃ R,R=abvV (if pubB p.fl||sp then .ok k else .error 22):=⟨_,rfl⟩
    simp only [if_true]
    rw [← hR]
    have HR:Hid (R=abvV (if pubB p.fl||sp then .ok k else .error 22)):=hR
    clear hR
    go_enter Tryz.func158,Tryz.ntmps158
    go_wp2_with (first
      | (at_lookup;refine wpList_lookup_own_ok_int _ rfl _ _ 115 rfl 9 3 .i64 law9 Tryz.underlying115 Tryz.underlying3 (zero3 _) mb ps.length D rfl (HOWN.out _) _ _ rfl HKEY.out ?_;intro cc hat hwc;obtain rfl:=HAT.out cc hat;clear hat hwc)
      | (go_at_call 159;(refine (HF.out _ ((Below.refl _ _).alloc (Nat.le_refl _) _)).mono ?_;rintro e w1 ⟨rfl,hb⟩;have B1:Hid (Below W.heap.size W w1):=bstep ((Below.refl _ _).alloc (Nat.le_refl _) _) hb;have bb:=B1.out;have b0:=(bb.cell (p:=⟨b,0,none⟩) hlt).trans b0;have g0:=(bb.cell (p:=⟨g,k * 8,none⟩) hgl).trans g0;have g1:=(bb.cell (p:=⟨g,k * 8+1,none⟩) hgl).trans g1;have g2:=(bb.cell (p:=⟨g,k * 8+2,none⟩) hgl).trans g2;have g3:=(bb.cell (p:=⟨g,k * 8+3,none⟩) hgl).trans g3;have g4:=(bb.cell (p:=⟨g,k * 8+4,none⟩) hgl).trans g4;have g5:=(bb.cell (p:=⟨g,k * 8+5,none⟩) hgl).trans g5;have hl1:b<w1.heap.size:=Nat.lt_of_lt_of_le hlt bb.size;have hg1:g<w1.heap.size:=Nat.lt_of_lt_of_le hgl bb.size;have hcw:=(hb.block W.heap.size (by simp)).trans (halloc W _);have HCW:Hid (w1.heap[W.heap.size]?=some (.cells #[.string nm,.string su,vi,.int .i64 fl,.int .i64 ld,vm] 48 (0,0))):=hcw;clear hb HF bb hcw)))
    obtain ⟨Wm,hWm⟩:∃ x,x=w1.alloc (.cells #[.string p.nm,.string p.su,.slice ai q.c.ni ci,.int .i64 p.fl,.int .i64 p.ld,.slice am qm.length cm] 48):=⟨_,rfl⟩
    have BM:Hid (Below w1.heap.size w1 Wm):=by rw [hWm];exact (Below.refl _ _).alloc (Nat.le_refl _) _
    have hm0:Wm.heap[w1.heap.size]?=some (.cells #[.string p.nm,.string p.su,.slice ai q.c.ni ci,.int .i64 p.fl,.int .i64 p.ld,.slice am qm.length cm] 48 (0,0)):=by rw [hWm];exact halloc _ _
    have hWl:W.heap.size<w1.heap.size:=(Array.getElem?_eq_some_iff.1 HCW.out).1
    have hm1:=(BM.out.block W.heap.size hWl).trans HCW.out
    have hsm:w1.heap.size<Wm.heap.size:=by rw [hWm];simp
    have hsW:W.heap.size<Wm.heap.size:=by omega
    rw [← hWm]
    have m0:=cell_of_row Wm w1.heap.size 0 _ _ _ hm0
    have m1:=cell_of_row Wm w1.heap.size 1 _ _ _ hm0
    have m2:=cell_of_row Wm w1.heap.size 2 _ _ _ hm0
    have m3:=cell_of_row Wm w1.heap.size 3 _ _ _ hm0
    have m4:=cell_of_row Wm w1.heap.size 4 _ _ _ hm0
    have m5:=cell_of_row Wm w1.heap.size 5 _ _ _ hm0
    have n0:=cell_of_row Wm W.heap.size 0 _ _ _ hm1
    have n1:=cell_of_row Wm W.heap.size 1 _ _ _ hm1
    have n2:=cell_of_row Wm W.heap.size 2 _ _ _ hm1
    have n3:=cell_of_row Wm W.heap.size 3 _ _ _ hm1
    have n4:=cell_of_row Wm W.heap.size 4 _ _ _ hm1
    have n5:=cell_of_row Wm W.heap.size 5 _ _ _ hm1
    simp only [List.getElem?_toArray,List.getElem?_cons_zero,List.getElem?_cons_succ] at m0 m1 m2 m3 m4 m5 n0 n1 n2 n3 n4 n5
    have BB:Hid (Below W.heap.size W Wm):=bstep B1.out BM.out
    have hsz1:W.heap.size≤Wm.heap.size:=by omega
    clear b0 b1 g0 g1 g2 g3 g4 g5 hm0 hm1 HCW HOWN HKEY HAT hl1 hg1 B1 BM hWm hlt hlm hgl
    have PB:Hid (pubB p.fl=(bits .and .i64 p.fl 1 != 0)):=rfl
    generalize pubB p.fl=pb at *
    cases pb with
    | true =>
      have h0:(bits .and .i64 p.fl 1 == 0)=false:=by have:=PB.out;rw [bne] at this;cases e:(bits .and .i64 p.fl 1 == 0) with
        | true=>rw [e] at this;cases this
        | false=>rfl
      have h01:¬ bits .and .i64 p.fl 1=0:=by simpa using h0
      clear PB HP HQ HS
      go_quiet ((fail))
      go_wp2
      exact bodyPost_ret (results_tmp2 rfl _ _ _) rfl ⟨by rw [HR.out];rfl,below_drewN BB.out _⟩
    | false =>
      have h0:bits .and .i64 p.fl 1=0:=by have:=PB.out;simpa [bne] using this.symm
      have S0:Hid (sp=((q.c.ld == ld)&&(pkgL q.c.nm.data.toList == pkgL nm.data.toList))):=HS
      clear PB HS
      by_cases hld:q.c.ld=ld
      · by_cases hpk:pkgL q.c.nm.data.toList=pkgL nm.data.toList
        · have hsp:sp=true:=by rw [S0.out,hld,hpk];simp
          rw [hld,hpk] at HQ
          clear hld hpk S0
          generalize (⟨(pkgL nm.data.toList).toArray⟩:ByteArray)=s1 at *
          go_region_held3 (fun w'=>w'.cell? ⟨w1.heap.size,0,none⟩=some (.string p.nm)∧w'.cell? ⟨w1.heap.size,1,none⟩=some (.string p.su)∧w'.cell? ⟨w1.heap.size,2,none⟩=some (.slice ai q.c.ni ci)∧w'.cell? ⟨w1.heap.size,3,none⟩=some (.int .i64 p.fl)∧w'.cell? ⟨w1.heap.size,4,none⟩=some (.int .i64 p.ld)∧w'.cell? ⟨w1.heap.size,5,none⟩=some (.slice am qm.length cm)∧w'.cell? ⟨W.heap.size,0,none⟩=some (.string nm)∧w'.cell? ⟨W.heap.size,1,none⟩=some (.string su)∧w'.cell? ⟨W.heap.size,2,none⟩=some vi∧w'.cell? ⟨W.heap.size,3,none⟩=some (.int .i64 fl)∧w'.cell? ⟨W.heap.size,4,none⟩=some (.int .i64 ld)∧w'.cell? ⟨W.heap.size,5,none⟩=some vm) (go_keep)
            (first
              | (go_at_call 216;refine (HQ.out _).mono ?_;rintro e w2 ⟨rfl,hb2⟩;have B2:Hid (Below W.heap.size W w2):=bstep BB.out.drew hb2;have kp:∀ (bb j:Nat) (v:Value),bb<Wm.heap.size→Wm.cell? ⟨bb,j,none⟩=some v→w2.cell? ⟨bb,j,none⟩=some v:=fun bb j v hl h=>(hb2.cell (p:=⟨bb,j,none⟩) hl).trans h;replace m0:=kp _ _ _ hsm m0;replace m1:=kp _ _ _ hsm m1;replace m2:=kp _ _ _ hsm m2;replace m3:=kp _ _ _ hsm m3;replace m4:=kp _ _ _ hsm m4;replace m5:=kp _ _ _ hsm m5;replace n0:=kp _ _ _ hsW n0;replace n1:=kp _ _ _ hsW n1;replace n2:=kp _ _ _ hsW n2;replace n3:=kp _ _ _ hsW n3;replace n4:=kp _ _ _ hsW n4;replace n5:=kp _ _ _ hsW n5;have hs2:Wm.heap.size≤w2.heap.size:=hb2.size;replace hsm:w1.heap.size<w2.heap.size:=Nat.lt_of_lt_of_le hsm hs2;replace hsW:W.heap.size<w2.heap.size:=Nat.lt_of_lt_of_le hsW hs2;clear kp hb2 HQ)
              | (go_at_call 216;refine (HP.out _).mono ?_;rintro e w3 ⟨rfl,hb3⟩;have B3:Hid (Below W.heap.size W w3):=bstep B2.out hb3;have kp:∀ (bb j:Nat) (v:Value),bb<w2.heap.size→w2.cell? ⟨bb,j,none⟩=some v→w3.cell? ⟨bb,j,none⟩=some v:=fun bb j v hl h=>(hb3.cell (p:=⟨bb,j,none⟩) hl).trans h;replace m0:=kp _ _ _ hsm m0;replace m1:=kp _ _ _ hsm m1;replace m2:=kp _ _ _ hsm m2;replace m3:=kp _ _ _ hsm m3;replace m4:=kp _ _ _ hsm m4;replace m5:=kp _ _ _ hsm m5;replace n0:=kp _ _ _ hsW n0;replace n1:=kp _ _ _ hsW n1;replace n2:=kp _ _ _ hsW n2;replace n3:=kp _ _ _ hsW n3;replace n4:=kp _ _ _ hsW n4;replace n5:=kp _ _ _ hsW n5;clear kp hb3 HP))
          go_wp2
          refine bodyPost_ret (results_tmp2 rfl _ _ _) rfl ⟨by rw [HR.out,hsp];rfl,B3.out⟩
        · have hsp:sp=false:=by rw [S0.out];simp [hpk]
          have hs12:¬ (⟨(pkgL q.c.nm.data.toList).toArray⟩:ByteArray)=⟨(pkgL nm.data.toList).toArray⟩:=fun e=>hpk (by injection e with e;simpa using e)
          have hs13:∀ x:List UInt8,(⟨x.toArray⟩:ByteArray).toList=x:=fun x=>by rw [Lib.toList_data]
          have hs14:¬ (⟨(pkgL q.c.nm.data.toList).toArray⟩:ByteArray).toList=(⟨(pkgL nm.data.toList).toArray⟩:ByteArray).toList:=by rw [hs13,hs13];exact hpk
          clear hs13
          rw [hld] at HQ
          clear hld hpk S0
          generalize (⟨(pkgL nm.data.toList).toArray⟩:ByteArray)=s1 at *
          generalize (⟨(pkgL q.c.nm.data.toList).toArray⟩:ByteArray)=s2 at *
          go_region_held3 (fun w'=>w'.cell? ⟨w1.heap.size,0,none⟩=some (.string p.nm)∧w'.cell? ⟨w1.heap.size,1,none⟩=some (.string p.su)∧w'.cell? ⟨w1.heap.size,2,none⟩=some (.slice ai q.c.ni ci)∧w'.cell? ⟨w1.heap.size,3,none⟩=some (.int .i64 p.fl)∧w'.cell? ⟨w1.heap.size,4,none⟩=some (.int .i64 p.ld)∧w'.cell? ⟨w1.heap.size,5,none⟩=some (.slice am qm.length cm)∧w'.cell? ⟨W.heap.size,0,none⟩=some (.string nm)∧w'.cell? ⟨W.heap.size,1,none⟩=some (.string su)∧w'.cell? ⟨W.heap.size,2,none⟩=some vi∧w'.cell? ⟨W.heap.size,3,none⟩=some (.int .i64 fl)∧w'.cell? ⟨W.heap.size,4,none⟩=some (.int .i64 ld)∧w'.cell? ⟨W.heap.size,5,none⟩=some vm) (go_keep)
            (first
              | (go_at_call 216;refine (HQ.out _).mono ?_;rintro e w2 ⟨rfl,hb2⟩;have B2:Hid (Below W.heap.size W w2):=bstep BB.out.drew hb2;have kp:∀ (bb j:Nat) (v:Value),bb<Wm.heap.size→Wm.cell? ⟨bb,j,none⟩=some v→w2.cell? ⟨bb,j,none⟩=some v:=fun bb j v hl h=>(hb2.cell (p:=⟨bb,j,none⟩) hl).trans h;replace m0:=kp _ _ _ hsm m0;replace m1:=kp _ _ _ hsm m1;replace m2:=kp _ _ _ hsm m2;replace m3:=kp _ _ _ hsm m3;replace m4:=kp _ _ _ hsm m4;replace m5:=kp _ _ _ hsm m5;replace n0:=kp _ _ _ hsW n0;replace n1:=kp _ _ _ hsW n1;replace n2:=kp _ _ _ hsW n2;replace n3:=kp _ _ _ hsW n3;replace n4:=kp _ _ _ hsW n4;replace n5:=kp _ _ _ hsW n5;have hs2:Wm.heap.size≤w2.heap.size:=hb2.size;replace hsm:w1.heap.size<w2.heap.size:=Nat.lt_of_lt_of_le hsm hs2;replace hsW:W.heap.size<w2.heap.size:=Nat.lt_of_lt_of_le hsW hs2;clear kp hb2 HQ)
              | (go_at_call 216;refine (HP.out _).mono ?_;rintro e w3 ⟨rfl,hb3⟩;have B3:Hid (Below W.heap.size W w3):=bstep B2.out hb3;have kp:∀ (bb j:Nat) (v:Value),bb<w2.heap.size→w2.cell? ⟨bb,j,none⟩=some v→w3.cell? ⟨bb,j,none⟩=some v:=fun bb j v hl h=>(hb3.cell (p:=⟨bb,j,none⟩) hl).trans h;replace m0:=kp _ _ _ hsm m0;replace m1:=kp _ _ _ hsm m1;replace m2:=kp _ _ _ hsm m2;replace m3:=kp _ _ _ hsm m3;replace m4:=kp _ _ _ hsm m4;replace m5:=kp _ _ _ hsm m5;replace n0:=kp _ _ _ hsW n0;replace n1:=kp _ _ _ hsW n1;replace n2:=kp _ _ _ hsW n2;replace n3:=kp _ _ _ hsW n3;replace n4:=kp _ _ _ hsW n4;replace n5:=kp _ _ _ hsW n5;clear kp hb3 HP))
          go_wp2
          refine bodyPost_ret (results_tmp2 rfl _ _ _) rfl ⟨by rw [HR.out,hsp];rfl,B3.out⟩
      · have hsp:sp=false:=by rw [S0.out];simp [hld]
        generalize (⟨(pkgL nm.data.toList).toArray⟩:ByteArray)=s1 at *
        generalize (⟨(pkgL q.c.nm.data.toList).toArray⟩:ByteArray)=s2 at *
        clear S0
        go_region_held3 (fun w'=>w'.cell? ⟨w1.heap.size,0,none⟩=some (.string p.nm)∧w'.cell? ⟨w1.heap.size,1,none⟩=some (.string p.su)∧w'.cell? ⟨w1.heap.size,2,none⟩=some (.slice ai q.c.ni ci)∧w'.cell? ⟨w1.heap.size,3,none⟩=some (.int .i64 p.fl)∧w'.cell? ⟨w1.heap.size,4,none⟩=some (.int .i64 p.ld)∧w'.cell? ⟨w1.heap.size,5,none⟩=some (.slice am qm.length cm)∧w'.cell? ⟨W.heap.size,0,none⟩=some (.string nm)∧w'.cell? ⟨W.heap.size,1,none⟩=some (.string su)∧w'.cell? ⟨W.heap.size,2,none⟩=some vi∧w'.cell? ⟨W.heap.size,3,none⟩=some (.int .i64 fl)∧w'.cell? ⟨W.heap.size,4,none⟩=some (.int .i64 ld)∧w'.cell? ⟨W.heap.size,5,none⟩=some vm) (go_keep)
          (first
            | (go_at_call 216;refine (HQ.out _).mono ?_;rintro e w2 ⟨rfl,hb2⟩;have B2:Hid (Below W.heap.size W w2):=bstep BB.out.drew hb2;have kp:∀ (bb j:Nat) (v:Value),bb<Wm.heap.size→Wm.cell? ⟨bb,j,none⟩=some v→w2.cell? ⟨bb,j,none⟩=some v:=fun bb j v hl h=>(hb2.cell (p:=⟨bb,j,none⟩) hl).trans h;replace m0:=kp _ _ _ hsm m0;replace m1:=kp _ _ _ hsm m1;replace m2:=kp _ _ _ hsm m2;replace m3:=kp _ _ _ hsm m3;replace m4:=kp _ _ _ hsm m4;replace m5:=kp _ _ _ hsm m5;replace n0:=kp _ _ _ hsW n0;replace n1:=kp _ _ _ hsW n1;replace n2:=kp _ _ _ hsW n2;replace n3:=kp _ _ _ hsW n3;replace n4:=kp _ _ _ hsW n4;replace n5:=kp _ _ _ hsW n5;have hs2:Wm.heap.size≤w2.heap.size:=hb2.size;replace hsm:w1.heap.size<w2.heap.size:=Nat.lt_of_lt_of_le hsm hs2;replace hsW:W.heap.size<w2.heap.size:=Nat.lt_of_lt_of_le hsW hs2;clear kp hb2 HQ)
            | (go_at_call 216;refine (HP.out _).mono ?_;rintro e w3 ⟨rfl,hb3⟩;have B3:Hid (Below W.heap.size W w3):=bstep B2.out hb3;have kp:∀ (bb j:Nat) (v:Value),bb<w2.heap.size→w2.cell? ⟨bb,j,none⟩=some v→w3.cell? ⟨bb,j,none⟩=some v:=fun bb j v hl h=>(hb3.cell (p:=⟨bb,j,none⟩) hl).trans h;replace m0:=kp _ _ _ hsm m0;replace m1:=kp _ _ _ hsm m1;replace m2:=kp _ _ _ hsm m2;replace m3:=kp _ _ _ hsm m3;replace m4:=kp _ _ _ hsm m4;replace m5:=kp _ _ _ hsm m5;replace n0:=kp _ _ _ hsW n0;replace n1:=kp _ _ _ hsW n1;replace n2:=kp _ _ _ hsW n2;replace n3:=kp _ _ _ hsW n3;replace n4:=kp _ _ _ hsW n4;replace n5:=kp _ _ _ hsW n5;clear kp hb3 HP))
        go_wp2
        refine bodyPost_ret (results_tmp2 rfl _ _ _) rfl ⟨by rw [HR.out,hsp];rfl,B3.out⟩
def samePk (p q:Plc):Bool:=(p.c.ld == q.c.ld)&&(pkgL p.c.nm.data.toList == pkgL q.c.nm.data.toList)
def spI (ps:List Plc) (a b:Int):Bool:=match plcI ps a,plcI ps b with
  | some p,some q=>samePk p q
  | _,_=>false
theorem class_of' (C:World→Prop) (h:∃ w,C w):∃ (σ:Type) (V:σ→World),Nonempty σ∧Hid (∀ s,C (V s))∧Hid (∀ w,C w→∃ s,w=V s) :=
  ⟨{w // C w},Subtype.val,h.elim fun w hw=>⟨⟨w,hw⟩⟩,fun s=>s.2,fun w hw=>⟨⟨w,hw⟩,rfl⟩⟩
theorem eqS (d:Nat) (a b:ByteArray) (w:World):(Op.equalIn (d+1) 9 (.string a) (.string b)).run Tryz.prog w=.ok (a == b) w:=by
  simp [Op.equalIn,run_underlying Tryz.underlying9,go_sem]
theorem eqN (d:Nat) (a b:Int) (w:World):(Op.equalIn (d+1) 3 (.int .i64 a) (.int .i64 b)).run Tryz.prog w=.ok (a == b) w:=by
  simp [Op.equalIn,run_underlying Tryz.underlying3,go_sem]
theorem beqB (a b:List UInt8):((⟨a.toArray⟩:ByteArray) == ⟨b.toArray⟩)=(a == b):=by
  have h:((⟨a.toArray⟩:ByteArray) == ⟨b.toArray⟩)=(a.toArray == b.toArray):=rfl
  rw [h,Bool.eq_iff_iff,beq_iff_eq,beq_iff_eq]
  exact ⟨fun h=>by injection h,fun h=>by rw [h]⟩
def fitS (fl:Int) (k:Nat) (q:Plc):Bool:=!ifB q.c.fl&&(decide (k=0)||!ifB fl)
def fitI (_:Nat) (q:Plc):Bool:=ifB q.c.fl
theorem look_place {ps:List Plc} {key:List UInt8} {k:Nat} (h:lookL ps key=some k):∃ q,ps[k]?=some q∧nameL q=key:=by
  obtain ⟨_,q,h1,h2⟩:=look_lt key ps 0 k h
  exact ⟨q,by simpa using h1,h2⟩
theorem abv_two (x:Except Int Nat):∃ r1 r2:Int,abvV x=.tuple #[.int .i64 r1,.int .i64 r2]:=by cases x <;> exact ⟨_,_,rfl⟩
set_option maxHeartbeats 4000000 in
theorem findSuper_any (N b mb:Nat) (ps:List Plc) (vp:Value) (pv:List PV) (nm su:ByteArray) (fl ld:Int) (ai am:Option Addr) (ni ci nn cm:Nat) (W:World) (h:HW W N b mb ps vp pv) (hsz:su.size≤maxLen) (hnz:nm.size≤maxLen) (hqz:∀ q∈ps,q.c.nm.size≤maxLen) :
    Calls Tryz.prog 79 #[.pointer (some ⟨b,0,none⟩),.agg #[.string nm,.string su,.slice ai ni ci,.int .i64 fl,.int .i64 ld,.slice am nn cm]] W fun e w'=>e=.returned (abvV (aboveN ps nm ld (fitS fl) su.data.toList))∧Below W.heap.size W w':=by
  obtain ⟨r1,r2,hR⟩:=abv_two (aboveN ps nm ld (fitS fl) su.data.toList)
  rw [hR]
  have hB2:Below W.heap.size W ((W.alloc (.cells #[.pointer (some ⟨b,0,none⟩)] 26)).alloc (.cells #[.string nm,.string su,.slice ai ni ci,.int .i64 fl,.int .i64 ld,.slice am nn cm] 48)):=((Below.refl _ _).alloc (Nat.le_refl _) _).alloc (by simp) _
  have HA:Hid (Calls Tryz.prog 158 #[.pointer (some ⟨b,0,none⟩),.agg #[.string nm,.string su,.slice ai ni ci,.int .i64 fl,.int .i64 ld,.slice am nn cm],.string su,.func (.func 159) #[] #[.pointer (some ⟨W.heap.size,0,none⟩),.pointer (some ⟨W.heap.size+1,0,none⟩)]] ((W.alloc (.cells #[.pointer (some ⟨b,0,none⟩)] 26)).alloc (.cells #[.string nm,.string su,.slice ai ni ci,.int .i64 fl,.int .i64 ld,.slice am nn cm] 48)) fun e w'=>e=.returned (.tuple #[.int .i64 r1,.int .i64 r2])∧Below W.heap.size W w'):=by
    have h0:=heap_alloc2_old W (.cells #[.pointer (some ⟨b,0,none⟩)] 26) (.cells #[.string nm,.string su,.slice ai ni ci,.int .i64 fl,.int .i64 ld,.slice am nn cm] 48)
    have h1:=heap_alloc2_new W (.cells #[.pointer (some ⟨b,0,none⟩)] 26) (.cells #[.string nm,.string su,.slice ai ni ci,.int .i64 fl,.int .i64 ld,.slice am nn cm] 48)
    have hz:((W.alloc (.cells #[.pointer (some ⟨b,0,none⟩)] 26)).alloc (.cells #[.string nm,.string su,.slice ai ni ci,.int .i64 fl,.int .i64 ld,.slice am nn cm] 48)).heap.size=W.heap.size+2:=by simp
    have hHW:=h.below hB2
    generalize (W.alloc (.cells #[.pointer (some ⟨b,0,none⟩)] 26)).alloc (.cells #[.string nm,.string su,.slice ai ni ci,.int .i64 fl,.int .i64 ld,.slice am nn cm] 48)=W2 at *
    cases hl:lookL ps su.data.toList with
    | none =>
      refine (findAbove_none _ N b mb ps vp pv nm su fl ld _ _ su hsz W2 hHW hl).mono ?_
      rintro e w' ⟨rfl,hb⟩
      exact ⟨by rw [← hR,aboveN,hl];rfl,bstep hB2 hb⟩
    | some k =>
      obtain ⟨q,hq,_⟩:=look_place hl
      refine (findAbove_sup W.heap.size (W.heap.size+1) N b mb ps vp pv nm su fl ld _ _ su hsz hnz W2 hHW k q hl hq (hqz q (List.mem_of_getElem? hq)) (fitS fl k q) (fun w hb=>?_)).mono ?_
      · refine fits_any N b mb W.heap.size (W.heap.size+1) ps vp pv k q nm su fl ld _ _ w (hHW.below hb) hq ((hb.block _ (by rw [hz];omega)).trans h0) ((hb.block _ (by rw [hz];omega)).trans h1)
      · rintro e w' ⟨rfl,hb⟩
        exact ⟨by rw [← hR,aboveN,hl];simp only [hq],bstep hB2 hb⟩
  clear h hB2 hR
  go_enter Tryz.func79,Tryz.ntmps79
  go_wp2_with (go_at_call 158;refine HA.out.mono ?_;rintro e w1 ⟨rfl,hb⟩;have B1:Hid (Below W.heap.size W w1):=hb;clear hb)
  exact bodyPost_ret (results_tmp2 rfl _ _ _) rfl ⟨rfl,B1.out⟩
set_option maxHeartbeats 4000000 in
theorem findAbove_ifc (N b mb:Nat) (ps:List Plc) (vp:Value) (pv:List PV) (nm su:ByteArray) (fl ld:Int) (vi vm:Value) (key:ByteArray) (hkz:key.size≤maxLen) (hnz:nm.size≤maxLen) (W:World) (h:HW W N b mb ps vp pv) (k:Nat) (q:Plc) (hl:lookL ps key.data.toList=some k) (hq:ps[k]?=some q) (hqz:q.c.nm.size≤maxLen) (ft:Bool)
    (hF:∀ w:World,Below W.heap.size W w→Calls Tryz.prog 56 #[.pointer (some ⟨b,0,none⟩),.int .i64 (k:Int)] w fun e w'=>e=.returned (.bool ft)∧Below w.heap.size w w') :
    Calls Tryz.prog 158 #[.pointer (some ⟨b,0,none⟩),.agg #[.string nm,.string su,vi,.int .i64 fl,.int .i64 ld,vm],.string key,.func (.func 56) #[.pointer (some ⟨b,0,none⟩)] #[]] W fun e w'=>e=.returned (abvV (if ft then (if pubB q.c.fl||sameP q.c nm ld then .ok k else .error 22) else .error 23))∧Below W.heap.size W w':=by
  have b1:=cell_of_row W b 1 _ _ _ h.hb
  simp only [List.getElem?_toArray,List.getElem?_cons_zero,List.getElem?_cons_succ] at b1
  obtain ⟨D,hD⟩:∃ D,numsD ps=D:=⟨_,rfl⟩
  have hz:Maps.has D (.string key.data.toList)=true:=by
    rw [← hD,numsD,nums_has _ _ _ _ isMap_empty]
    rw [lookL] at hl
    rw [hl];rfl
  have hat:∀ cc:Int,D.atKey (.string key.data.toList) (.lit (.int .i64 0))=.lit (.int .i64 cc)→cc=(k:Int):=fun cc hc=>by
    rw [← hD,numsD,nums_at _ _ _ _ _ isMap_empty] at hc
    rw [lookL] at hl
    rw [hl] at hc
    injection hc with h1
    injection h1 with _ h2
    exact h2.symm
  have hown:=h.map
  rw [hD] at hown
  have HOWN:Hid (∀ o,(W.alloc o).ownsMap Tryz.prog 9 (plainElem (H:=Unit) Tryz.prog 3) mb ps.length D):=fun o=>hown.alloc o
  have hkey:=Go.WideMaps.keyOf_string_mk (P:=Tryz.prog) Tryz.underlying9 hkz
  have HKEY:Hid (keyOf Tryz.prog 9 (.string key)=some (.string key.data.toList)):=hkey
  obtain ⟨kl,hkl⟩:∃ k,k=Lit.string key.data.toList:=⟨_,rfl⟩
  rw [← hkl] at HKEY hz hat
  have HAT:Hid (∀ cc:Int,D.atKey kl (.lit (.int .i64 0))=.lit (.int .i64 cc)→cc=(k:Int)):=hat
  have hlt:b<W.heap.size:=(Array.getElem?_eq_some_iff.1 h.hb).1
  have hlm:¬ b=W.heap.size:=by omega
  obtain ⟨g,cap,p,rfl,hpl,hcell⟩:=h.at hq
  have hkn:(k:Int)<(ps.length:Int):=by have:=(List.getElem?_eq_some_iff.1 hq).1;omega
  have b0:=cell_of_row W b 0 _ _ _ h.hb
  simp only [List.getElem?_toArray,List.getElem?_cons_zero] at b0
  have g0:W.cell? ⟨g,k * 8,none⟩=some (.string p.nm):=hcell 0 (by omega)
  have g1:W.cell? ⟨g,k * 8+1,none⟩=some (.string p.su):=hcell 1 (by omega)
  have g2:W.cell? ⟨g,k * 8+2,none⟩=some p.vi:=hcell 2 (by omega)
  have g3:W.cell? ⟨g,k * 8+3,none⟩=some (.int .i64 p.fl):=hcell 3 (by omega)
  have g4:W.cell? ⟨g,k * 8+4,none⟩=some (.int .i64 p.ld):=hcell 4 (by omega)
  have g5:W.cell? ⟨g,k * 8+5,none⟩=some p.vm:=hcell 5 (by omega)
  have hgl:g<W.heap.size:=World.block_lt_of_cell? W _ g0
  obtain ⟨qm,_,hoc⟩:=hpl.own
  obtain ⟨ai,ci,hvi⟩:=ownv hoc.ifs
  obtain ⟨am,cm,hvm⟩:=ownv hoc.ms
  rw [hvi] at g2
  rw [hvm] at g5
  have HF:Hid (∀ w:World,Below W.heap.size W w→Calls Tryz.prog 56 #[.pointer (some ⟨b,0,none⟩),.int .i64 (k:Int)] w fun e w'=>e=.returned (.bool ft)∧Below w.heap.size w w'):=hF
  have HP:Hid (∀ w:World,Calls Tryz.prog 216 #[.agg #[.string nm,.string su,vi,.int .i64 fl,.int .i64 ld,vm]] w fun e w'=>e=.returned (.agg #[.int .i64 ld,.string ⟨(pkgL nm.data.toList).toArray⟩])∧Below w.heap.size w w'):=fun w=>packageOf_any nm su fl ld vi vm w hnz
  have HQ:Hid (∀ w:World,Calls Tryz.prog 216 #[.agg #[.string p.nm,.string p.su,.slice ai q.c.ni ci,.int .i64 p.fl,.int .i64 p.ld,.slice am qm.length cm]] w fun e w'=>e=.returned (.agg #[.int .i64 q.c.ld,.string ⟨(pkgL q.c.nm.data.toList).toArray⟩])∧Below w.heap.size w w'):=fun w=>by rw [← hpl.ld,← hpl.nm];exact packageOf_any p.nm p.su p.fl p.ld _ _ w (by rw [hpl.nm];exact hqz)
  have hfl:p.fl=q.c.fl:=hpl.fl
  rw [← hfl]
  have HS:Hid (sameP q.c nm ld=((q.c.ld == ld)&&(pkgL q.c.nm.data.toList == pkgL nm.data.toList))):=rfl
  generalize sameP q.c nm ld=sp at *
  clear h hD hown hkey hkl hl hat hpl hcell hF hq hfl hoc hvi hvm
  cases ft with
  | false =>
    go_enter Tryz.func158,Tryz.ntmps158
    go_wp2_with (first
      | (at_lookup;refine wpList_lookup_own_ok_int _ rfl _ _ 115 rfl 9 3 .i64 law9 Tryz.underlying115 Tryz.underlying3 (zero3 _) mb ps.length D rfl (HOWN.out _) _ _ rfl HKEY.out ?_;intro cc hat hwc;obtain rfl:=HAT.out cc hat;clear hat hwc)
      | (go_at_call 56;refine (HF.out _ ((Below.refl _ _).alloc (Nat.le_refl _) _)).mono ?_;rintro e w1 ⟨rfl,hb⟩;have B1:Hid (Below W.heap.size W w1):=bstep ((Below.refl _ _).alloc (Nat.le_refl _) _) hb;clear hb HF))
    exact bodyPost_ret (results_tmp2 rfl _ _ _) rfl ⟨rfl,B1.out⟩
  | true =>
    obtain ⟨R,hR⟩:∃ R,R=abvV (if pubB p.fl||sp then .ok k else .error 22):=⟨_,rfl⟩
    simp only [if_true]
    rw [← hR]
    have HR:Hid (R=abvV (if pubB p.fl||sp then .ok k else .error 22)):=hR
    clear hR
    go_enter Tryz.func158,Tryz.ntmps158
    go_wp2_with (first
      | (at_lookup;refine wpList_lookup_own_ok_int _ rfl _ _ 115 rfl 9 3 .i64 law9 Tryz.underlying115 Tryz.underlying3 (zero3 _) mb ps.length D rfl (HOWN.out _) _ _ rfl HKEY.out ?_;intro cc hat hwc;obtain rfl:=HAT.out cc hat;clear hat hwc)
      | (go_at_call 56;(refine (HF.out _ ((Below.refl _ _).alloc (Nat.le_refl _) _)).mono ?_;rintro e w1 ⟨rfl,hb⟩;have B1:Hid (Below W.heap.size W w1):=bstep ((Below.refl _ _).alloc (Nat.le_refl _) _) hb;have bb:=B1.out;have b0:=(bb.cell (p:=⟨b,0,none⟩) hlt).trans b0;have g0:=(bb.cell (p:=⟨g,k * 8,none⟩) hgl).trans g0;have g1:=(bb.cell (p:=⟨g,k * 8+1,none⟩) hgl).trans g1;have g2:=(bb.cell (p:=⟨g,k * 8+2,none⟩) hgl).trans g2;have g3:=(bb.cell (p:=⟨g,k * 8+3,none⟩) hgl).trans g3;have g4:=(bb.cell (p:=⟨g,k * 8+4,none⟩) hgl).trans g4;have g5:=(bb.cell (p:=⟨g,k * 8+5,none⟩) hgl).trans g5;have hl1:b<w1.heap.size:=Nat.lt_of_lt_of_le hlt bb.size;have hg1:g<w1.heap.size:=Nat.lt_of_lt_of_le hgl bb.size;have hcw:=(hb.block W.heap.size (by simp)).trans (halloc W _);have HCW:Hid (w1.heap[W.heap.size]?=some (.cells #[.string nm,.string su,vi,.int .i64 fl,.int .i64 ld,vm] 48 (0,0))):=hcw;clear hb HF bb hcw)))
    obtain ⟨Wm,hWm⟩:∃ x,x=w1.alloc (.cells #[.string p.nm,.string p.su,.slice ai q.c.ni ci,.int .i64 p.fl,.int .i64 p.ld,.slice am qm.length cm] 48):=⟨_,rfl⟩
    have BM:Hid (Below w1.heap.size w1 Wm):=by rw [hWm];exact (Below.refl _ _).alloc (Nat.le_refl _) _
    have hm0:Wm.heap[w1.heap.size]?=some (.cells #[.string p.nm,.string p.su,.slice ai q.c.ni ci,.int .i64 p.fl,.int .i64 p.ld,.slice am qm.length cm] 48 (0,0)):=by rw [hWm];exact halloc _ _
    have hWl:W.heap.size<w1.heap.size:=(Array.getElem?_eq_some_iff.1 HCW.out).1
    have hm1:=(BM.out.block W.heap.size hWl).trans HCW.out
    have hsm:w1.heap.size<Wm.heap.size:=by rw [hWm];simp
    have hsW:W.heap.size<Wm.heap.size:=by omega
    rw [← hWm]
    have m0:=cell_of_row Wm w1.heap.size 0 _ _ _ hm0
    have m1:=cell_of_row Wm w1.heap.size 1 _ _ _ hm0
    have m2:=cell_of_row Wm w1.heap.size 2 _ _ _ hm0
    have m3:=cell_of_row Wm w1.heap.size 3 _ _ _ hm0
    have m4:=cell_of_row Wm w1.heap.size 4 _ _ _ hm0
    have m5:=cell_of_row Wm w1.heap.size 5 _ _ _ hm0
    have n0:=cell_of_row Wm W.heap.size 0 _ _ _ hm1
    have n1:=cell_of_row Wm W.heap.size 1 _ _ _ hm1
    have n2:=cell_of_row Wm W.heap.size 2 _ _ _ hm1
    have n3:=cell_of_row Wm W.heap.size 3 _ _ _ hm1
    have n4:=cell_of_row Wm W.heap.size 4 _ _ _ hm1
    have n5:=cell_of_row Wm W.heap.size 5 _ _ _ hm1
    simp only [List.getElem?_toArray,List.getElem?_cons_zero,List.getElem?_cons_succ] at m0 m1 m2 m3 m4 m5 n0 n1 n2 n3 n4 n5
    have BB:Hid (Below W.heap.size W Wm):=bstep B1.out BM.out
    have hsz1:W.heap.size≤Wm.heap.size:=by omega
    clear b0 b1 g0 g1 g2 g3 g4 g5 hm0 hm1 HCW HOWN HKEY HAT hl1 hg1 B1 BM hWm hlt hlm hgl
    have PB:Hid (pubB p.fl=(bits .and .i64 p.fl 1 != 0)):=rfl
    generalize pubB p.fl=pb at *
    cases pb with
    | true =>
      have h0:(bits .and .i64 p.fl 1 == 0)=false:=by have:=PB.out;rw [bne] at this;cases e:(bits .and .i64 p.fl 1 == 0) with
        | true=>rw [e] at this;cases this
        | false=>rfl
      have h01:¬ bits .and .i64 p.fl 1=0:=by simpa using h0
      clear PB HP HQ HS
      go_quiet ((fail))
      go_wp2
      exact bodyPost_ret (results_tmp2 rfl _ _ _) rfl ⟨by rw [HR.out];rfl,below_drewN BB.out _⟩
    | false =>
      have h0:bits .and .i64 p.fl 1=0:=by have:=PB.out;simpa [bne] using this.symm
      have S0:Hid (sp=((q.c.ld == ld)&&(pkgL q.c.nm.data.toList == pkgL nm.data.toList))):=HS
      clear PB HS
      by_cases hld:q.c.ld=ld
      · by_cases hpk:pkgL q.c.nm.data.toList=pkgL nm.data.toList
        · have hsp:sp=true:=by rw [S0.out,hld,hpk];simp
          rw [hld,hpk] at HQ
          clear hld hpk S0
          generalize (⟨(pkgL nm.data.toList).toArray⟩:ByteArray)=s1 at *
          go_region_held3 (fun w'=>w'.cell? ⟨w1.heap.size,0,none⟩=some (.string p.nm)∧w'.cell? ⟨w1.heap.size,1,none⟩=some (.string p.su)∧w'.cell? ⟨w1.heap.size,2,none⟩=some (.slice ai q.c.ni ci)∧w'.cell? ⟨w1.heap.size,3,none⟩=some (.int .i64 p.fl)∧w'.cell? ⟨w1.heap.size,4,none⟩=some (.int .i64 p.ld)∧w'.cell? ⟨w1.heap.size,5,none⟩=some (.slice am qm.length cm)∧w'.cell? ⟨W.heap.size,0,none⟩=some (.string nm)∧w'.cell? ⟨W.heap.size,1,none⟩=some (.string su)∧w'.cell? ⟨W.heap.size,2,none⟩=some vi∧w'.cell? ⟨W.heap.size,3,none⟩=some (.int .i64 fl)∧w'.cell? ⟨W.heap.size,4,none⟩=some (.int .i64 ld)∧w'.cell? ⟨W.heap.size,5,none⟩=some vm) (go_keep)
            (first
              | (go_at_call 216;refine (HQ.out _).mono ?_;rintro e w2 ⟨rfl,hb2⟩;have B2:Hid (Below W.heap.size W w2):=bstep BB.out.drew hb2;have kp:∀ (bb j:Nat) (v:Value),bb<Wm.heap.size→Wm.cell? ⟨bb,j,none⟩=some v→w2.cell? ⟨bb,j,none⟩=some v:=fun bb j v hl h=>(hb2.cell (p:=⟨bb,j,none⟩) hl).trans h;replace m0:=kp _ _ _ hsm m0;replace m1:=kp _ _ _ hsm m1;replace m2:=kp _ _ _ hsm m2;replace m3:=kp _ _ _ hsm m3;replace m4:=kp _ _ _ hsm m4;replace m5:=kp _ _ _ hsm m5;replace n0:=kp _ _ _ hsW n0;replace n1:=kp _ _ _ hsW n1;replace n2:=kp _ _ _ hsW n2;replace n3:=kp _ _ _ hsW n3;replace n4:=kp _ _ _ hsW n4;replace n5:=kp _ _ _ hsW n5;have hs2:Wm.heap.size≤w2.heap.size:=hb2.size;replace hsm:w1.heap.size<w2.heap.size:=Nat.lt_of_lt_of_le hsm hs2;replace hsW:W.heap.size<w2.heap.size:=Nat.lt_of_lt_of_le hsW hs2;clear kp hb2 HQ)
              | (go_at_call 216;refine (HP.out _).mono ?_;rintro e w3 ⟨rfl,hb3⟩;have B3:Hid (Below W.heap.size W w3):=bstep B2.out hb3;have kp:∀ (bb j:Nat) (v:Value),bb<w2.heap.size→w2.cell? ⟨bb,j,none⟩=some v→w3.cell? ⟨bb,j,none⟩=some v:=fun bb j v hl h=>(hb3.cell (p:=⟨bb,j,none⟩) hl).trans h;replace m0:=kp _ _ _ hsm m0;replace m1:=kp _ _ _ hsm m1;replace m2:=kp _ _ _ hsm m2;replace m3:=kp _ _ _ hsm m3;replace m4:=kp _ _ _ hsm m4;replace m5:=kp _ _ _ hsm m5;replace n0:=kp _ _ _ hsW n0;replace n1:=kp _ _ _ hsW n1;replace n2:=kp _ _ _ hsW n2;replace n3:=kp _ _ _ hsW n3;replace n4:=kp _ _ _ hsW n4;replace n5:=kp _ _ _ hsW n5;clear kp hb3 HP))
          go_wp2
          refine bodyPost_ret (results_tmp2 rfl _ _ _) rfl ⟨by rw [HR.out,hsp];rfl,B3.out⟩
        · have hsp:sp=false:=by rw [S0.out];simp [hpk]
          have hs12:¬ (⟨(pkgL q.c.nm.data.toList).toArray⟩:ByteArray)=⟨(pkgL nm.data.toList).toArray⟩:=fun e=>hpk (by injection e with e;simpa using e)
          have hs13:∀ x:List UInt8,(⟨x.toArray⟩:ByteArray).toList=x:=fun x=>by rw [Lib.toList_data]
          have hs14:¬ (⟨(pkgL q.c.nm.data.toList).toArray⟩:ByteArray).toList=(⟨(pkgL nm.data.toList).toArray⟩:ByteArray).toList:=by rw [hs13,hs13];exact hpk
          clear hs13
          rw [hld] at HQ
          clear hld hpk S0
          generalize (⟨(pkgL nm.data.toList).toArray⟩:ByteArray)=s1 at *
          generalize (⟨(pkgL q.c.nm.data.toList).toArray⟩:ByteArray)=s2 at *
          go_region_held3 (fun w'=>w'.cell? ⟨w1.heap.size,0,none⟩=some (.string p.nm)∧w'.cell? ⟨w1.heap.size,1,none⟩=some (.string p.su)∧w'.cell? ⟨w1.heap.size,2,none⟩=some (.slice ai q.c.ni ci)∧w'.cell? ⟨w1.heap.size,3,none⟩=some (.int .i64 p.fl)∧w'.cell? ⟨w1.heap.size,4,none⟩=some (.int .i64 p.ld)∧w'.cell? ⟨w1.heap.size,5,none⟩=some (.slice am qm.length cm)∧w'.cell? ⟨W.heap.size,0,none⟩=some (.string nm)∧w'.cell? ⟨W.heap.size,1,none⟩=some (.string su)∧w'.cell? ⟨W.heap.size,2,none⟩=some vi∧w'.cell? ⟨W.heap.size,3,none⟩=some (.int .i64 fl)∧w'.cell? ⟨W.heap.size,4,none⟩=some (.int .i64 ld)∧w'.cell? ⟨W.heap.size,5,none⟩=some vm) (go_keep)
            (first
              | (go_at_call 216;refine (HQ.out _).mono ?_;rintro e w2 ⟨rfl,hb2⟩;have B2:Hid (Below W.heap.size W w2):=bstep BB.out.drew hb2;have kp:∀ (bb j:Nat) (v:Value),bb<Wm.heap.size→Wm.cell? ⟨bb,j,none⟩=some v→w2.cell? ⟨bb,j,none⟩=some v:=fun bb j v hl h=>(hb2.cell (p:=⟨bb,j,none⟩) hl).trans h;replace m0:=kp _ _ _ hsm m0;replace m1:=kp _ _ _ hsm m1;replace m2:=kp _ _ _ hsm m2;replace m3:=kp _ _ _ hsm m3;replace m4:=kp _ _ _ hsm m4;replace m5:=kp _ _ _ hsm m5;replace n0:=kp _ _ _ hsW n0;replace n1:=kp _ _ _ hsW n1;replace n2:=kp _ _ _ hsW n2;replace n3:=kp _ _ _ hsW n3;replace n4:=kp _ _ _ hsW n4;replace n5:=kp _ _ _ hsW n5;have hs2:Wm.heap.size≤w2.heap.size:=hb2.size;replace hsm:w1.heap.size<w2.heap.size:=Nat.lt_of_lt_of_le hsm hs2;replace hsW:W.heap.size<w2.heap.size:=Nat.lt_of_lt_of_le hsW hs2;clear kp hb2 HQ)
              | (go_at_call 216;refine (HP.out _).mono ?_;rintro e w3 ⟨rfl,hb3⟩;have B3:Hid (Below W.heap.size W w3):=bstep B2.out hb3;have kp:∀ (bb j:Nat) (v:Value),bb<w2.heap.size→w2.cell? ⟨bb,j,none⟩=some v→w3.cell? ⟨bb,j,none⟩=some v:=fun bb j v hl h=>(hb3.cell (p:=⟨bb,j,none⟩) hl).trans h;replace m0:=kp _ _ _ hsm m0;replace m1:=kp _ _ _ hsm m1;replace m2:=kp _ _ _ hsm m2;replace m3:=kp _ _ _ hsm m3;replace m4:=kp _ _ _ hsm m4;replace m5:=kp _ _ _ hsm m5;replace n0:=kp _ _ _ hsW n0;replace n1:=kp _ _ _ hsW n1;replace n2:=kp _ _ _ hsW n2;replace n3:=kp _ _ _ hsW n3;replace n4:=kp _ _ _ hsW n4;replace n5:=kp _ _ _ hsW n5;clear kp hb3 HP))
          go_wp2
          refine bodyPost_ret (results_tmp2 rfl _ _ _) rfl ⟨by rw [HR.out,hsp];rfl,B3.out⟩
      · have hsp:sp=false:=by rw [S0.out];simp [hld]
        generalize (⟨(pkgL nm.data.toList).toArray⟩:ByteArray)=s1 at *
        generalize (⟨(pkgL q.c.nm.data.toList).toArray⟩:ByteArray)=s2 at *
        clear S0
        go_region_held3 (fun w'=>w'.cell? ⟨w1.heap.size,0,none⟩=some (.string p.nm)∧w'.cell? ⟨w1.heap.size,1,none⟩=some (.string p.su)∧w'.cell? ⟨w1.heap.size,2,none⟩=some (.slice ai q.c.ni ci)∧w'.cell? ⟨w1.heap.size,3,none⟩=some (.int .i64 p.fl)∧w'.cell? ⟨w1.heap.size,4,none⟩=some (.int .i64 p.ld)∧w'.cell? ⟨w1.heap.size,5,none⟩=some (.slice am qm.length cm)∧w'.cell? ⟨W.heap.size,0,none⟩=some (.string nm)∧w'.cell? ⟨W.heap.size,1,none⟩=some (.string su)∧w'.cell? ⟨W.heap.size,2,none⟩=some vi∧w'.cell? ⟨W.heap.size,3,none⟩=some (.int .i64 fl)∧w'.cell? ⟨W.heap.size,4,none⟩=some (.int .i64 ld)∧w'.cell? ⟨W.heap.size,5,none⟩=some vm) (go_keep)
          (first
            | (go_at_call 216;refine (HQ.out _).mono ?_;rintro e w2 ⟨rfl,hb2⟩;have B2:Hid (Below W.heap.size W w2):=bstep BB.out.drew hb2;have kp:∀ (bb j:Nat) (v:Value),bb<Wm.heap.size→Wm.cell? ⟨bb,j,none⟩=some v→w2.cell? ⟨bb,j,none⟩=some v:=fun bb j v hl h=>(hb2.cell (p:=⟨bb,j,none⟩) hl).trans h;replace m0:=kp _ _ _ hsm m0;replace m1:=kp _ _ _ hsm m1;replace m2:=kp _ _ _ hsm m2;replace m3:=kp _ _ _ hsm m3;replace m4:=kp _ _ _ hsm m4;replace m5:=kp _ _ _ hsm m5;replace n0:=kp _ _ _ hsW n0;replace n1:=kp _ _ _ hsW n1;replace n2:=kp _ _ _ hsW n2;replace n3:=kp _ _ _ hsW n3;replace n4:=kp _ _ _ hsW n4;replace n5:=kp _ _ _ hsW n5;have hs2:Wm.heap.size≤w2.heap.size:=hb2.size;replace hsm:w1.heap.size<w2.heap.size:=Nat.lt_of_lt_of_le hsm hs2;replace hsW:W.heap.size<w2.heap.size:=Nat.lt_of_lt_of_le hsW hs2;clear kp hb2 HQ)
            | (go_at_call 216;refine (HP.out _).mono ?_;rintro e w3 ⟨rfl,hb3⟩;have B3:Hid (Below W.heap.size W w3):=bstep B2.out hb3;have kp:∀ (bb j:Nat) (v:Value),bb<w2.heap.size→w2.cell? ⟨bb,j,none⟩=some v→w3.cell? ⟨bb,j,none⟩=some v:=fun bb j v hl h=>(hb3.cell (p:=⟨bb,j,none⟩) hl).trans h;replace m0:=kp _ _ _ hsm m0;replace m1:=kp _ _ _ hsm m1;replace m2:=kp _ _ _ hsm m2;replace m3:=kp _ _ _ hsm m3;replace m4:=kp _ _ _ hsm m4;replace m5:=kp _ _ _ hsm m5;replace n0:=kp _ _ _ hsW n0;replace n1:=kp _ _ _ hsW n1;replace n2:=kp _ _ _ hsW n2;replace n3:=kp _ _ _ hsW n3;replace n4:=kp _ _ _ hsW n4;replace n5:=kp _ _ _ hsW n5;clear kp hb3 HP))
        go_wp2
        refine bodyPost_ret (results_tmp2 rfl _ _ _) rfl ⟨by rw [HR.out,hsp];rfl,B3.out⟩
def ifsN (ps:List Plc) (nm:ByteArray) (ld:Int) (acc:List Nat):List (List UInt8)→Except Int (List Nat)
  | []=>.ok acc
  | p::r=>match aboveN ps nm ld fitI p with
    | .error e=>.error e
    | .ok k=>ifsN ps nm ld (acc++[k]) r
def IfR (N:Nat):Except Int (List Nat)→Ending→World→Prop
  | .ok l,e,w'=>∃ v,e=.returned (.tuple #[v,.int .i64 0])∧w'.ownsRow N 3 1 v l.length (l.map numV)
  | .error x,e,_=>e=.returned (.tuple #[.slice none 0 0,.int .i64 x])
theorem above_err {ps:List Plc} {nm:ByteArray} {ld:Int} {fit:Nat→Plc→Bool} {p:List UInt8} {x:Int} (h:aboveN ps nm ld fit p=.error x):¬ x=0:=by
  unfold aboveN at h
  repeat' split at h
  all_goals first|(cases h;done)|(cases h;decide)
theorem above_ok {ps:List Plc} {nm:ByteArray} {ld:Int} {fit:Nat→Plc→Bool} {p:List UInt8} {k:Nat} (h:aboveN ps nm ld fit p=.ok k):lookL ps p=some k∧∃ q,ps[k]?=some q∧fit k q=true∧(pubB q.c.fl||sameP q.c nm ld)=true:=by
  unfold aboveN at h
  cases hl:lookL ps p with
  | none=>rw [hl] at h;cases h
  | some j =>
    rw [hl] at h
    simp only at h
    cases hq:ps[j]? with
    | none=>rw [hq] at h;cases h
    | some q =>
      rw [hq] at h
      simp only at h
      by_cases h1:fit j q=true
      · rw [if_pos h1] at h
        by_cases h2:(pubB q.c.fl||sameP q.c nm ld)=true
        · rw [if_pos h2] at h
          cases h
          exact ⟨rfl,q,hq,h1,h2⟩
        · rw [if_neg h2] at h;cases h
      · rw [if_neg h1] at h;cases h
set_option maxHeartbeats 4000000 in
theorem findIfaces_any (N b mb:Nat) (ps:List Plc) (vp:Value) (pv:List PV) (nm su:ByteArray) (fl ld:Int) (ifs:List (List UInt8)) (ai am:Option Addr) (ci nn cm:Nat) (W:World) (h:HW W N b mb ps vp pv) (hnz:nm.size≤maxLen) (hqz:∀ q∈ps,q.c.nm.size≤maxLen) (hI:IsStrs W (.slice ai ifs.length ci) ifs) (hiz:∀ p∈ifs,p.length≤maxLen) (hil:ifs.length≤1000) :
    Calls Tryz.prog 80 #[.pointer (some ⟨b,0,none⟩),.agg #[.string nm,.string su,.slice ai ifs.length ci,.int .i64 fl,.int .i64 ld,.slice am nn cm]] W fun e w'=>IfR W.heap.size (ifsN ps nm ld [] ifs) e w'∧Below W.heap.size W w':=by
  obtain ⟨i0,hi0,hz0,hz1,hz2⟩:=info_parts Tryz.hinfo3
  obtain ⟨K,hK⟩:∃ K,ifs.length=K:=⟨_,rfl⟩
  have HK:Hid (ifs.length=K):=hK
  have HI:Hid (IsStrs W (.slice ai ifs.length ci) ifs):=hI
  rw [hK] at hil ⊢
  have HA:Hid (∀ (p:List UInt8) (w:World),p∈ifs→Below W.heap.size W w→Calls Tryz.prog 158 #[.pointer (some ⟨b,0,none⟩),.agg #[.string nm,.string su,.slice ai K ci,.int .i64 fl,.int .i64 ld,.slice am nn cm],.string ⟨p.toArray⟩,.func (.func 56) #[.pointer (some ⟨b,0,none⟩)] #[]] w fun e w'=>e=.returned (abvV (aboveN ps nm ld fitI p))∧Below w.heap.size w w'):=by
    intro p w hp hb
    have hpz:(⟨p.toArray⟩:ByteArray).size≤maxLen:=by rw [mk_size];exact hiz p hp
    have hHW:=h.below hb
    cases hl:lookL ps p with
    | none =>
      refine (findAbove_none _ N b mb ps vp pv nm su fl ld _ _ ⟨p.toArray⟩ hpz w hHW (by simpa using hl)).mono ?_
      rintro e w' ⟨rfl,hb⟩
      exact ⟨by rw [aboveN,hl];rfl,hb⟩
    | some k =>
      obtain ⟨q,hq,_⟩:=look_place hl
      refine (findAbove_ifc N b mb ps vp pv nm su fl ld _ _ ⟨p.toArray⟩ hpz hnz w hHW k q (by simpa using hl) hq (hqz q (List.mem_of_getElem? hq)) (fitI k q) (fun w2 hb2=>isIfaceW_yes N b mb ps vp pv k q w2 (hHW.below hb2) hq)).mono ?_
      rintro e w' ⟨rfl,hb⟩
      exact ⟨by rw [aboveN,hl];simp only [hq],hb⟩
  obtain ⟨R,hR⟩:∃ R,R=ifsN ps nm ld [] ifs:=⟨_,rfl⟩
  rw [← hR]
  have HR:Hid (R=ifsN ps nm ld [] ifs):=hR
  clear hK h hqz hiz hR hI hnz
  go_enter Tryz.func80,Tryz.ntmps80
  go_wp2
  go_loopw [6,14] (fun sv kv wr=>∃ (k:Nat) (acc:List Nat),kv=.int .i64 k∧k≤K∧acc.length=k∧Hid (ifsN ps nm ld acc (ifs.drop k)=ifsN ps nm ld [] ifs)∧Hid (wr.ownsRow (W.heap.size+1) 3 1 sv acc.length (acc.map numV))∧Hid (Below W.heap.size W wr)∧wr.heap[W.heap.size]?=some (.cells #[.string nm,.string su,.slice ai K ci,.int .i64 fl,.int .i64 ld,.slice am nn cm] 48 (0,0))) (fun _ kv _=>K - (intOf kv).toNat)
  case atStart=>exact ⟨0,[],rfl,Nat.zero_le _,rfl,rfl,World.ownsRow_nil _ _ _ _,(Below.refl _ _).alloc (Nat.le_refl _) _,halloc _ _⟩
  case round =>
    obtain ⟨k,acc,rfl,hk,hal,hacc,hown,hB,hblk⟩:=hrel
    have c0:=cell_of_row wr W.heap.size 0 _ _ _ hblk
    have c1:=cell_of_row wr W.heap.size 1 _ _ _ hblk
    have c2:=cell_of_row wr W.heap.size 2 _ _ _ hblk
    have c3:=cell_of_row wr W.heap.size 3 _ _ _ hblk
    have c4:=cell_of_row wr W.heap.size 4 _ _ _ hblk
    have c5:=cell_of_row wr W.heap.size 5 _ _ _ hblk
    simp only [List.getElem?_toArray,List.getElem?_cons_zero,List.getElem?_cons_succ] at c0 c1 c2 c3 c4 c5
    have HBL:Hid (wr.heap[W.heap.size]?=some (.cells #[.string nm,.string su,.slice ai K ci,.int .i64 fl,.int .i64 ld,.slice am nn cm] 48 (0,0))):=hblk
    have hWr:W.heap.size<wr.heap.size:=(Array.getElem?_eq_some_iff.1 hblk).1
    clear hblk
    by_cases hlt:k<K
    · obtain ⟨p,hp⟩:∃ p,ifs[k]?=some p:=⟨_,List.getElem?_eq_getElem (by rw [HK.out];exact hlt)⟩
      have hdrop:ifs.drop k=p::ifs.drop (k+1):=by
        obtain ⟨h1,h2⟩:=List.getElem?_eq_some_iff.1 hp
        rw [List.drop_eq_getElem_cons h1,h2]
      obtain ⟨bk,o,rfl,hbk,hcell⟩:∃ bk o,ai=some ⟨bk,o,none⟩∧bk<W.heap.size∧W.cell? ⟨bk,o+k,none⟩=some (.string ⟨p.toArray⟩):=by
        obtain ⟨ao,cap,e,_,_,h3⟩:=HI.out
        obtain ⟨bk,o,e2,hlt2,hc⟩:=h3 (fun e=>by rw [e] at hp;simp at hp)
        injection e with e1
        exact ⟨bk,o,by rw [e1,e2],hlt2,hc k p hp⟩
      have hce:=(hB.out.cell (p:=⟨bk,o+k,none⟩) hbk).trans hcell
      have HA1:Hid (Calls Tryz.prog 158 #[.pointer (some ⟨b,0,none⟩),.agg #[.string nm,.string su,.slice (some ⟨bk,o,none⟩) K ci,.int .i64 fl,.int .i64 ld,.slice am nn cm],.string ⟨p.toArray⟩,.func (.func 56) #[.pointer (some ⟨b,0,none⟩)] #[]] wr fun e w'=>e=.returned (abvV (aboveN ps nm ld fitI p))∧Below wr.heap.size wr w'):=HA.out p wr (List.mem_of_getElem? hp) hB.out
      have hst:ifsN ps nm ld acc (ifs.drop k)=match aboveN ps nm ld fitI p with | .error e=>.error e | .ok j=>ifsN ps nm ld (acc++[j]) (ifs.drop (k+1)):=by rw [hdrop,ifsN]
      rw [hacc.out] at hst
      clear hcell hdrop hp HA hacc
      cases ha:aboveN ps nm ld fitI p with
      | error x =>
        rw [ha] at hst HA1
        have hRx:R=.error x:=by rw [HR.out,hst]
        have hx0:¬ x=0:=above_err ha
        clear hst ha
        obtain ⟨va,vn,rfl⟩:=ownv hown.out
        go_wp2_with (go_at_call 158;refine HA1.out.mono ?_;rintro e w1 ⟨rfl,hb⟩;rw [abvV];have B1:Hid (Below W.heap.size W w1):=bstep hB.out hb;clear hb HA1)
        subst hRx
        exact bodyPost_ret (results_tmp2 rfl _ _ _) rfl ⟨show Ending.returned _=Ending.returned _ from rfl,B1.out⟩
      | ok j =>
        rw [ha] at hst HA1
        have hnext:Hid (ifsN ps nm ld (acc++[j]) (ifs.drop (k+1))=ifsN ps nm ld [] ifs):=hst.symm
        clear hst ha
        obtain ⟨va,vn,rfl⟩:=ownv hown.out
        go_wp2_with (first
          | (go_at_call 158;refine HA1.out.mono ?_;rintro e w1 ⟨rfl,hb⟩;rw [abvV];have B1:Hid (Below W.heap.size W w1):=bstep hB.out hb;have O1:Hid (w1.ownsRow (W.heap.size+1) 3 1 (.slice va acc.length vn) acc.length (acc.map numV)):=rowBelow hown.out hb;have HB1:=(hb.block W.heap.size hWr).trans HBL.out;have hW1:W.heap.size<w1.heap.size:=Nat.lt_of_lt_of_le hWr hb.size;clear hb HA1)
          | (at_builtin;refine wpList_append_own _ rfl _ _ 99 rfl (W.heap.size+1) 3 i0 (.int .i64 0) 1 8 Tryz.underlying99 hi0 hz0 hz1 hz2 rfl (by decide) (.slice va acc.length vn) acc.length (acc.map numV) (by first|rfl|(rw [hal];rfl)) (O1.out.alloc _) ⟨w1.heap.size,0,none⟩ 1 1 [.int .i64 (j:Int)] rfl rfl ?c1 ?c2 ?c3 ?c4 ?c5 ?_))
        case c1=>intro jj u hj;rw [addr_add];cases jj with
          | zero=>simp at hj;subst hj;simp [go_sem]
          | succ jj=>simp at hj
        case c2=>intro u hu;simp at hu;subst hu;rfl
        case c3=>unfold maxLen;omega
        case c4=>omega
        case c5=>simp;omega
        intro v' w2 hown2 hgrow _
        obtain ⟨va2,vn2,rfl⟩:=ownv hown2
        simp only [← hal] at hown2 hgrow
        have B2:Hid (Below W.heap.size W w2):=by
          have hb1:Below W.heap.size W (w1.alloc (.cells #[.int .i64 (j:Int)] 3)):=B1.out.alloc B1.out.size _
          refine hb1.grown hgrow hb1.size (fun x hx=>?_)
          have:=(O1.out.lt x hx).1
          omega
        have HB2:Hid (w2.heap[W.heap.size]?=some (.cells #[.string nm,.string su,.slice (some ⟨bk,o,none⟩) K ci,.int .i64 fl,.int .i64 ld,.slice am nn cm] 48 (0,0))):=by
          refine (hgrow.block W.heap.size (by simp;omega) (fun hx=>?_)).trans ?_
          · have:=(O1.out.lt W.heap.size hx.symm).1
            omega
          · refine ((Below.refl w1.heap.size w1).alloc (Nat.le_refl _) _).block W.heap.size hW1 |>.trans HB1
        have O2:Hid (w2.ownsRow (W.heap.size+1) 3 1 (.slice va2 (k+1) vn2) (acc++[j]).length ((acc++[j]).map numV)):=by
          rw [Hid,List.length_append,List.map_append,← hal];exact hown2
        clear hown2 hgrow HB1
        go_wp2
        go_roundw
        case rel=>exact ⟨k+1,acc++[j],by go_num,by omega,by simp [hal],hnext,O2,B2,HB2.out⟩
        case measure=>simp [intOf];omega
    · have e:k=K:=by omega
      subst e
      have hRx:R=.ok acc:=by rw [HR.out,← hacc.out,List.drop_of_length_le (by rw [HK.out];exact Nat.le_refl _),ifsN]
      subst hRx
      obtain ⟨va,vn,rfl⟩:=ownv hown.out
      go_wp2
      exact bodyPost_ret (results_tmp2 rfl _ _ _) rfl ⟨⟨_,rfl,Go.Joins.ownsRow_le hown.out (by omega)⟩,hB.out⟩
end Go.Proofs.YtjlfnelihbdhjaaGreat
