import Derived.Test.YtlohdfpinmdljaaGreatDoorHrR
import Derived.Test.YtlohdfpinmdljaaGreatDoorHrP
import Derived.Test.YtlohdfpinmdljaaGreatDoorMxC
import Derived.Test.YtlohdfpinmdljaaGreatDoorHrOi
import Derived.Lib.SliceRun
set_option maxRecDepth 100000
namespace Go.Proofs.YtlohdfpinmdljaaGreatDoor
open Go.RowKit Go.Maps
theorem wpList_append_rdw {P:Program} {w:World} {ops:Array Oper} {rest:List Oper} {o:Oper} {a:Act} {Q:Exit→Act→World→Prop} (hgd:o.guard=none) (s x:Operand) (t:TypeId)
    (ho:o.op=.call { callee:=.builtin .append,args:=#[s,x],argTypes:=#[t,t] })
    (base:Nat) (e:TypeId) (i:TypeInfo) (z:Value) (size bytes:Nat) (ht:P.underlying t=some (.slice e)) (hi:P.info? e=some i) (hz:i.zero=some z)
    (hsize:i.size=size) (hby:i.bytes=bytes) (hzs:z.cells.size=size) (hsz:0<size)
    (v:Value) (n:Nat) (xs:List Value) (hs:a.eval s=v) (hown:w.ownsRow base e size v n xs)
    (vx:Value) (m:Nat) (news:List Value) (hx:a.eval x=vx) (hr:Rdw w vx m size news) (h1:∀ u∈news,u.oneCell'=true)
    (h63:n+m≤maxLen) (hbytes:(n+m) * bytes≤140737488355328) (hbase:base≤w.heap.size)
    (h:∀ v' w',w'.ownsRow base e size v' (n+m) (xs++news)→w.grownBy w' v.ownBlock→wpList P ops Q rest (a.put o.dst v') w'):wpList P ops Q (o::rest) a w:=by
  rcases hr with hr|⟨rfl,rfl,ad,cap,rfl⟩
  · rcases hr.val with ⟨rfl,rfl⟩|⟨bk,ob,cap,rfl,hc1,hc2,hlt,hcell⟩
    · have hx0:news=[]:=List.length_eq_zero_iff.1 (by rw [hr.len,Nat.zero_mul])
      subst hx0
      refine wpList_append_own_none hgd s x t ho base e i size ht hi v n xs hs hown hx ?_
      exact h v w (by simpa using hown) ⟨rfl,rfl,rfl,Nat.le_refl _,fun _ _ _=>rfl⟩
    · exact wpList_append_own _ hgd s x t ho base e i z size bytes ht hi hz hsize hby hzs hsz v n xs hs hown ⟨bk,ob,none⟩ m cap news hx hr.len (fun j u hj=>by rw [addr_add];exact hcell j u hj) h1 h63 hbytes hbase fun v' w' a b _=>h v' w' a b
  · exact wpList_append_own _ hgd s x t ho base e i z size bytes ht hi hz hsize hby hzs hsz v n xs hs hown ad 0 cap [] hx (by simp) (fun j u hj=>by simp at hj) h1 h63 hbytes hbase fun v' w' a b _=>h v' w' a b
theorem own_empty (w:World) (m:Nat) (hm:w.heap.size=m) (base:Nat) (e size:Nat) (hb:base≤w.heap.size):(w.alloc (.cells #[] e)).ownsRow base e size (.slice (some ⟨m,0,none⟩) 0 0) 0 []:=by
  subst hm
  refine ⟨by simp,.inr ⟨w.heap.size,0,#[],rfl,hb,halloc1 w _,Nat.le_refl _,by unfold maxLen;omega,?_,?_⟩⟩ <;> simp
theorem row_cur {w:World} {N e s g n cap:Nat} {xs:List Value} (h:w.ownsRow N e s (.slice (some ⟨g,0,none⟩) n cap) n xs):∃ cur,w.heap[g]?=some (.cells cur e (0,0)):=by
  rcases h.2 with ⟨e,_⟩|⟨g',cap',cur,e,_,hg,_⟩
  · simp at e
  · simp only [Value.slice.injEq,Option.some.injEq,Addr.mk.injEq,and_true,true_and] at e
    obtain ⟨rfl,rfl⟩:=e
    exact ⟨cur,hg⟩
theorem zero2 (n:Nat):(Builtin.zeroCells #[.int .i64 0,.int .i64 0] n).toList=List.replicate (n * 2) (.int .i64 0):=by
  simp only [Builtin.zeroCells,Array.toList_map]
  apply List.ext_getElem
  · simp
  · intro i h1 h2
    simp
    rcases Nat.mod_two_eq_zero_or_one i with h|h <;> simp [h]
theorem run_clear2 (w:World) (ty:TypeId) (b o n c:Nat) (hn:0<n) (hc:∀ j,j<n * 2→(w.cell? ⟨b,o+j,none⟩).isSome=true) (hf:∀ j,w.frozen? ⟨b,o+j,none⟩=false) :
    (Builtin.clear_ #[316] ty #[.slice (some ⟨b,o,none⟩) n c]).run Tryz.prog w=.ok (.tuple #[]) (w.setCells b o (List.replicate (n * 2) (.int .i64 0))):=by
  have hst:=run_storeCells_cells (P:=Tryz.prog) b o (List.replicate (n * 2) (.int .i64 0)) 0 w (by simpa using hc) (by intro j _;simpa using hf j) (by intro v hv';rw [List.eq_of_mem_replicate hv'];rfl)
  simp only [Nat.add_zero] at hst
  have hz:(Value.agg #[.int .i64 0,.int .i64 0]).cells=#[.int .i64 0,.int .i64 0]:=by simp [Value.cells]
  obtain ⟨m,rfl⟩:∃ m,n=m+1:=⟨n - 1,by omega⟩
  simp [Builtin.clear_,run_underlying Tryz.underlying316,Tryz.zeroValue138,hz,zero2,hst]
theorem flatD_take:∀ (R:List (Int×Int)) (i:Nat),(flatD R).take (i * 2)=flatD (R.take i)
  | [],i=>by simp [flatD]
  | x::r,0=>by simp [flatD]
  | x::r,i+1=>by
    have e:flatD (x::r)=.int .i64 x.1::.int .i64 x.2::flatD r:=by simp [flatD]
    have e2:flatD ((x::r).take (i+1))=.int .i64 x.1::.int .i64 x.2::flatD (r.take i):=by simp [flatD]
    rw [e,e2,show (i+1) * 2=i * 2+1+1 by omega,List.take_succ_cons,List.take_succ_cons,flatD_take r i]
theorem flatD_set:∀ (R:List (Int×Int)) (i:Nat) (x:Int×Int),((flatD R).set (i * 2) (.int .i64 x.1)).set (i * 2+1) (.int .i64 x.2)=flatD (R.set i x)
  | [],i,x=>by simp [flatD]
  | y::r,0,x=>by simp [flatD]
  | y::r,i+1,x=>by
    have e:flatD (y::r)=.int .i64 y.1::.int .i64 y.2::flatD r:=by simp [flatD]
    have e2:flatD ((y::r).set (i+1) x)=.int .i64 y.1::.int .i64 y.2::flatD (r.set i x):=by simp [flatD]
    rw [e,e2,show (i+1) * 2=i * 2+1+1 by omega,List.set_cons_succ,List.set_cons_succ,List.set_cons_succ,List.set_cons_succ,flatD_set r i x]
theorem rowD_cut {w:World} {N:Nat} {R:List (Int×Int)} {g cap n i:Nat} (h:w.ownsRow N 138 2 (.slice (some ⟨g,0,none⟩) n cap) n (flatD R)) (hi:i≤n):w.ownsRow N 138 2 (.slice (some ⟨g,0,none⟩) i cap) i (flatD (R.take i)):=by
  have hl:=h.1
  rw [flatD_length] at hl
  refine ⟨by rw [flatD_length,List.length_take];omega,?_⟩
  rcases h.2 with ⟨e,_⟩|⟨g',cap',cur,e,h1,h2,h3,h4,h5,h6⟩
  · simp at e
  · simp only [Value.slice.injEq,Option.some.injEq,Addr.mk.injEq,and_true,true_and] at e
    obtain ⟨rfl,rfl⟩:=e
    refine .inr ⟨g,cap,cur,rfl,h1,h2,by omega,h4,h5,?_⟩
    rw [← flatD_take,← h6,List.take_take,Nat.min_eq_left (by omega)]
theorem rowD_clear {N i g cap:Nat} {xs:List Value}:∀ (vs:List Value) (o:Nat) (w:World),w.ownsRow N 138 2 (.slice (some ⟨g,0,none⟩) i cap) i xs→i * 2≤o→(w.setCells g o vs).ownsRow N 138 2 (.slice (some ⟨g,0,none⟩) i cap) i xs∧w.grownBy (w.setCells g o vs) (some g)
  | [],o,w,h,_=>⟨h,⟨rfl,rfl,rfl,Nat.le_refl _,fun _ _ _=>rfl⟩⟩
  | v::r,o,w,h,ho=>by
    obtain ⟨h1,h2⟩:=h.stored o v
    rw [List.set_eq_of_length_le (by rw [h.1];exact ho)] at h1
    obtain ⟨h3,h4⟩:=rowD_clear r (o+1) _ h1 (by omega)
    exact ⟨h3,h2.trans h4⟩
theorem eqNilD1 (w:World):(binOp .eql 316 (.slice none 0 0) (.slice none 0 0)).run Tryz.prog w=.ok (.bool true) w:=by
  have h:(Op.equalIn (9999+1) 316 (.slice none 0 0) (.slice none 0 0)).run Tryz.prog w=.ok true w:=by
    rw [Op.equalIn]
    simp [run_underlying Tryz.underlying316,go_sem]
  have h2:(Op.equal 316 (.slice none 0 0) (.slice none 0 0)).run Tryz.prog w=.ok true w:=h
  simp [binOp,h2,go_sem]
theorem eqNilD2 (g n cap:Nat) (w:World):(binOp .eql 316 (.slice (some ⟨g,0,none⟩) n cap) (.slice none 0 0)).run Tryz.prog w=.ok (.bool false) w:=by
  have h:(Op.equalIn (9999+1) 316 (.slice (some ⟨g,0,none⟩) n cap) (.slice none 0 0)).run Tryz.prog w=.ok false w:=by
    rw [Op.equalIn]
    simp [run_underlying Tryz.underlying316,go_sem]
  have h2:(Op.equal 316 (.slice (some ⟨g,0,none⟩) n cap) (.slice none 0 0)).run Tryz.prog w=.ok false w:=h
  simp [binOp,h2,go_sem]
set_option maxHeartbeats 1000000 in
theorem cloD_any (N:Nat) (l:List (Int×Int)) (v:Value) (W:World) (h:W.ownsRow N 138 2 v l.length (flatD l)) (hn:l.length≤1000000):Calls Tryz.prog 273 #[v] W fun e w'=>∃ v',e=.returned v'∧w'.ownsRow W.heap.size 138 2 v' l.length (flatD l)∧Below W.heap.size W w':=by
  obtain ⟨i0,hi0,hz0,hz1,hz2⟩:=info_parts Tryz.hinfoD
  have HR:Hid (∀ o,Rdw (W.alloc o) v l.length 2 (flatD l)):=fun o=>.inl (own_rds (h.alloc o))
  rcases h.2 with ⟨rfl,e⟩|⟨g,cap,cur,rfl,_⟩
  · have HE:Hid (W.ownsRow W.heap.size 138 2 (.slice none 0 0) l.length (flatD l)):=by
      have e2:l=[]:=List.length_eq_zero_iff.1 e
      rw [e2];exact World.ownsRow_nil _ _ _ _
    clear h e HR
    have G2:=eqNilD1
    go_enter Tryz.func273,Tryz.ntmps273
    go_wp2
    refine bodyPost_ret (results_tmp rfl _ _ _) rfl ⟨_,rfl,?_,Below.refl _ _⟩
    exact HE.out
  · have HO:Hid (∀ u∈flatD l,u.oneCell'=true):=flatD_one l
    obtain ⟨K,hK⟩:∃ K,l.length=K:=⟨_,rfl⟩
    rw [hK] at hn HR ⊢
    generalize flatD l=xs at *
    clear h hK
    have G2:=eqNilD2 g K cap
    go_enter Tryz.func273,Tryz.ntmps273
    go_wp2_with (at_builtin;refine wpList_append_rdw rfl _ _ 316 rfl W.heap.size 138 i0 (.agg #[.int .i64 0,.int .i64 0]) 2 16 Tryz.underlying316 hi0 hz0 hz1 hz2 rfl (by decide) (.slice (some ⟨W.heap.size,0,none⟩) 0 0) 0 [] rfl (own_empty _ _ rfl _ _ _ (Nat.le_refl _)) (.slice (some ⟨g,0,none⟩) K cap) K xs rfl (HR.out _) HO.out ?c1 ?c2 ?c3 ?_)
    case c1=>unfold maxLen;omega
    case c2=>omega
    case c3=>simp
    intro v' w2 hown hgrow
    obtain ⟨va2,vn2,rfl⟩:=ownv hown
    try simp only [Nat.zero_add] at hown
    try simp only [List.nil_append] at hown
    have B2:Hid (Below W.heap.size W w2):=by
      refine Below.grown (w:=_) ((Below.refl _ W).alloc (Nat.le_refl _) (.cells #[] 138)) hgrow (by simp) (fun x hx=>?_)
      simp [Value.ownBlock] at hx;omega
    have O2:Hid _:=hown
    clear hown hgrow
    go_wp2
    refine bodyPost_ret (results_tmp rfl _ _ _) rfl ⟨_,rfl,?_,B2.out⟩
    exact O2.out
structure DelR (p:Int×Int→Bool) (l R:List (Int×Int)) (i j:Nat):Prop where
  lt:i<j
  le:j≤l.length
  len:R.length=l.length
  pre:R.take i=(l.take j).filter (fun m=>!p m)
  suf:∀ k,j≤k→R[k]?=l[k]?
theorem DelR.start {p:Int×Int→Bool} {l:List (Int×Int)} {j:Nat} {m:Int×Int} (hm:l[j]?=some m) (hp:p m=true) (hl:∀ x∈l.take j,p x=false):DelR p l l j (j+1):=by
  have hj:=(List.getElem?_eq_some_iff.1 hm).1
  refine ⟨by omega,by omega,rfl,?_,fun _ _=>rfl⟩
  rw [List.take_add_one,hm,List.filter_append]
  have e1:(l.take j).filter (fun m=>!p m)=l.take j:=List.filter_eq_self.2 (fun x hx=>by rw [hl x hx];rfl)
  rw [e1];simp [hp]
theorem DelR.keep {p:Int×Int→Bool} {l R:List (Int×Int)} {i j:Nat} {x:Int×Int} (h:DelR p l R i j) (hx:l[j]?=some x) (hp:p x=false):DelR p l (R.set i x) (i+1) (j+1):=by
  have hj:=(List.getElem?_eq_some_iff.1 hx).1
  have h1:=h.lt
  have h2:=h.len
  refine ⟨by omega,by omega,by rw [List.length_set];exact h2,?_,fun k hk=>?_⟩
  · rw [List.take_add_one,List.take_add_one,hx,List.filter_append,← h.pre,List.getElem?_set_self (by omega),List.take_set_of_le (Nat.le_refl _)]
    simp [hp]
  · rw [List.getElem?_set_ne (by omega)];exact h.suf k (by omega)
theorem DelR.skip {p:Int×Int→Bool} {l R:List (Int×Int)} {i j:Nat} {x:Int×Int} (h:DelR p l R i j) (hx:l[j]?=some x) (hp:p x=true):DelR p l R i (j+1):=by
  have hj:=(List.getElem?_eq_some_iff.1 hx).1
  have h1:=h.lt
  refine ⟨by omega,by omega,h.len,?_,fun k hk=>h.suf k (by omega)⟩
  rw [List.take_add_one,hx,List.filter_append,← h.pre]
  simp [hp]
set_option maxHeartbeats 4000000 in
theorem delD_any (g:Nat) (eg:∀ args w,(callFunc g args).run Tryz.prog w=.ok (.enter g args) w) (cb:Array Value) (p:Int×Int→Bool) (N:Nat) (l:List (Int×Int)) (v:Value) (W:World) (h:W.ownsRow N 138 2 v l.length (flatD l)) (hN:N≤W.heap.size) (hn:l.length≤1000000) (hp:PredD g cb p l N W) :
    Calls Tryz.prog 213 #[v,.func (.func g) #[] cb] W fun e w'=>∃ v',e=.returned v'∧w'.ownsRow N 138 2 v' (l.filter (fun m=>!p m)).length (flatD (l.filter (fun m=>!p m)))∧Below N W w':=by
  have HI:Hid (Calls Tryz.prog 277 #[v,.func (.func g) #[] cb] W fun e w'=>e=.returned (.int .i64 (idxP p l 0))∧Below W.heap.size W w'):=idxD_any g eg cb p N l v W h hn (fun m hm w hb=>hp m hm w (hb.mono hN))
  rcases idxP_range p l 0 with ⟨e1,e2⟩|⟨j0,e1,hj0,e2,hpre,m0,hm0,hpm⟩
  · rw [e1] at HI
    have e3:l.filter (fun m=>!p m)=l:=List.filter_eq_self.2 (fun x hx=>by
      rw [List.any_eq_false] at e2
      have:=e2 x hx
      simpa using this)
    rw [e3]
    have HA:Hid (W.ownsRow N 138 2 v l.length (flatD l)):=h
    obtain ⟨ao,cap,rfl⟩:=ownv h
    clear h hp e1 e2 e3
    go_enter Tryz.func213,Tryz.ntmps213
    go_wp2_with (go_at_call 277;refine HI.out.mono ?_;rintro e w1 ⟨rfl,hb⟩;have B1:Hid (Below W.heap.size W w1):=hb;clear hb HI)
    refine bodyPost_ret (results_tmp rfl _ _ _) rfl ⟨_,rfl,?_,B1.out.mono hN⟩
    exact rowBelow HA.out B1.out
  · rw [e1,Nat.zero_add] at HI
    obtain ⟨gm,cap,hform⟩:=Go.Joins.ownsRow_form h (by omega)
    subst hform
    have HA:Hid (W.ownsRow N 138 2 (.slice (some ⟨gm,0,none⟩) l.length cap) l.length (flatD l)):=h
    have hcap:l.length≤cap:=by
      rcases h.2 with ⟨e,_⟩|⟨g',cap',cur,e,_,_,h3,_⟩
      · simp at e
      · simp only [Value.slice.injEq,Option.some.injEq,Addr.mk.injEq,and_true,true_and] at e
        obtain ⟨rfl,rfl⟩:=e
        exact h3
    have hgN:N≤gm:=(h.lt gm rfl).1
    have HP:Hid (PredD g cb p l N W):=hp
    have HD0:Hid (DelR p l l j0 (j0+1)):=DelR.start hm0 hpm hpre
    obtain ⟨K,hK⟩:∃ K,l.length=K:=⟨_,rfl⟩
    have HK:Hid (l.length=K):=hK
    rw [hK] at hn hj0 hcap HI ⊢
    clear h hp e1 e2 hpre hm0 hpm hK
    have hne:((j0:Int) == -1)=false:=beq_eq_false_iff_ne.2 (by omega)
    go_enter Tryz.func213,Tryz.ntmps213
    go_wp2_with (go_at_call 277;refine HI.out.mono ?_;rintro e w1 ⟨rfl,hb⟩;have B1:Hid (Below W.heap.size W w1):=hb;clear hb HI)
    go_loopw [5,6] (fun iv jv wr=>∃ (i j:Nat) (R:List (Int×Int)),iv=.int .i64 i∧jv=.int .i64 j∧i<j∧j≤K∧Hid (DelR p l R i j)∧Hid (wr.ownsRow N 138 2 (.slice (some ⟨gm,0,none⟩) K cap) K (flatD R))∧Hid (Below N W wr)) (fun _ jv _=>K - (intOf jv).toNat)
    case atStart=>exact ⟨j0,j0+1,l,rfl,by go_num,by omega,by omega,HD0,by have:=rowBelow HA.out B1.out;rw [HK.out] at this;exact this,B1.out.mono hN⟩
    case round =>
      obtain ⟨i,j,R,rfl,rfl,hij,hjK,hD,hO,hB⟩:=hrel
      have hRK:R.length=K:=hD.out.len.trans HK.out
      have hrow:wr.ownsRow N 138 2 (.slice (some ⟨gm,0,none⟩) R.length cap) R.length (flatD R):=by rw [hRK];exact hO.out
      obtain ⟨y,hy⟩:∃ y,R[i]?=some y:=⟨_,List.getElem?_eq_getElem (by omega)⟩
      by_cases hlt:j<K
      · obtain ⟨x,hx⟩:∃ x,l[j]?=some x:=⟨_,List.getElem?_eq_getElem (by rw [HK.out];exact hlt)⟩
        obtain ⟨e0,e1,hgl⟩:=rowD_cells hrow ((hD.out.suf j (Nat.le_refl _)).trans hx)
        obtain ⟨y0,y1,_⟩:=rowD_cells hrow hy
        obtain ⟨cur,hcur⟩:=row_cur hrow
        have HX:Hid (l[j]?=some x):=hx
        have HC:Hid (∀ w,Below N W w→Calls Tryz.prog g (#[.agg #[.int .i64 x.1,.int .i64 x.2]]++cb) w fun e w'=>e=.returned (.bool (p x))∧Below w.heap.size w w'):=fun w hb=>HP.out x (List.mem_of_getElem? hx) w hb
        have Y0:Hid (wr.cell? ⟨gm,i * 2,none⟩=some (.int .i64 y.1)):=y0
        have Y1:Hid (wr.cell? ⟨gm,i * 2+1,none⟩=some (.int .i64 y.2)):=y1
        have HCU:Hid (wr.heap[gm]?=some (.cells cur 138 (0,0))):=hcur
        have hiK:(i:Int)<(K:Int):=by omega
        have hjI:(j:Int)<(K:Int):=by omega
        have hNw:N≤wr.heap.size:=Nat.le_trans hN hB.out.size
        have hnw:¬ gm=wr.heap.size:=by omega
        obtain ⟨q,hq⟩:∃ q,p x=q:=⟨_,rfl⟩
        have HQ:Hid (p x=q):=hq
        rw [hq] at HC
        clear hx hrow hy y0 y1 hcur hq HP HA HD0 B1
        obtain ⟨x1,x2⟩:=x
        simp only at e0 e1 HC
        cases q with
        | false =>
          go_wp2_with (go_at_fn g;refine (HC.out _ (hB.out.alloc hNw _)).mono ?_;rintro e w1 ⟨rfl,hb⟩;have O1:Hid (w1.ownsRow N 138 2 (.slice (some ⟨gm,0,none⟩) K cap) K (flatD R)):=rowBelow (hO.out.alloc _) hb;have B1:Hid (Below N W w1):=(hB.out.alloc hNw _).trans (hb.mono (by simp;omega));have m0:w1.cell? ⟨wr.heap.size,0,none⟩=some (.int .i64 x1):=(hb.cell (p:=⟨wr.heap.size,0,none⟩) (by simp)).trans (by simp [go_sem]);have m1:w1.cell? ⟨wr.heap.size,1,none⟩=some (.int .i64 x2):=(hb.cell (p:=⟨wr.heap.size,1,none⟩) (by simp)).trans (by simp [go_sem]);have z0:w1.cell? ⟨gm,i * 2,none⟩=some (.int .i64 y.1):=(hb.cell (p:=⟨gm,i * 2,none⟩) (by simp;omega)).trans (Lib.cell?_alloc_some _ Y0.out);have z1:w1.cell? ⟨gm,i * 2+1,none⟩=some (.int .i64 y.2):=(hb.cell (p:=⟨gm,i * 2+1,none⟩) (by simp;omega)).trans (Lib.cell?_alloc_some _ Y1.out);have hcu:w1.heap[gm]?=some (.cells cur 138 (0,0)):=(hb.block gm (by simp;omega)).trans ((((Below.refl _ wr).alloc (Nat.le_refl _) _).block gm hgl).trans HCU.out);have f0:=frozen_of_row w1 gm (i * 2) _ _ hcu;have f1:=frozen_of_row w1 gm (i * 2+1) _ _ hcu;clear hb hcu HC e0 e1 Y0 Y1 HCU)
          have O2:Hid (((w1.setCell ⟨gm,i * 2,none⟩ (.int .i64 x1)).setCell ⟨gm,i * 2+1,none⟩ (.int .i64 x2)).ownsRow N 138 2 (.slice (some ⟨gm,0,none⟩) K cap) K (flatD (R.set i (x1,x2)))):=by
            obtain ⟨s0,_⟩:=O1.out.stored (i * 2) (.int .i64 x1)
            obtain ⟨s1,_⟩:=s0.stored (i * 2+1) (.int .i64 x2)
            rw [flatD_set R i (x1,x2)] at s1
            exact s1
          have B2:Hid (Below N W ((w1.setCell ⟨gm,i * 2,none⟩ (.int .i64 x1)).setCell ⟨gm,i * 2+1,none⟩ (.int .i64 x2))):=(B1.out.setCell hgN _).setCell hgN _
          go_roundw
          case rel=>exact ⟨i+1,j+1,_,by go_num,by go_num,by omega,by omega,hD.out.keep HX.out HQ.out,O2,B2⟩
          case measure=>simp [intOf];omega
        | true =>
          go_wp2_with (go_at_fn g;refine (HC.out _ (hB.out.alloc hNw _)).mono ?_;rintro e w1 ⟨rfl,hb⟩;have O1:Hid (w1.ownsRow N 138 2 (.slice (some ⟨gm,0,none⟩) K cap) K (flatD R)):=rowBelow (hO.out.alloc _) hb;have B1:Hid (Below N W w1):=(hB.out.alloc hNw _).trans (hb.mono (by simp;omega));clear hb HC e0 e1 Y0 Y1 HCU)
          go_roundw
          case rel=>exact ⟨i,j+1,R,rfl,by go_num,by omega,by omega,hD.out.skip HX.out HQ.out,O1,B1⟩
          case measure=>simp [intOf];omega
      · obtain rfl:j=K:=by omega
        have hcl:∀ ty,(Builtin.clear_ #[316] ty #[.slice (some ⟨gm,i * 2,none⟩) (j - i) (cap - i)]).run Tryz.prog wr=.ok (.tuple #[]) (wr.setCells gm (i * 2) (List.replicate ((j - i) * 2) (.int .i64 0))):=fun ty=>by
          obtain ⟨cur,hcur⟩:=row_cur hrow
          refine run_clear2 wr ty gm (i * 2) (j - i) (cap - i) (by omega) (fun t ht=>?_) (fun t=>frozen_of_row wr gm _ _ _ hcur)
          rw [hrow.cellAt (i * 2+t) (by omega),List.getElem?_eq_getElem (by rw [flatD_length];omega)];rfl
        clear hrow hy
        have HF:Hid (l.filter (fun m=>!p m)=R.take i):=by rw [Hid,hD.out.pre,List.take_of_length_le (by rw [HK.out];exact Nat.le_refl _)]
        go_wp2
        refine bodyPost_ret (results_tmp rfl _ _ _) rfl ⟨.slice (some ⟨gm,0,none⟩) i cap,rfl,?_,?_⟩
        · rw [HF.out,List.length_take,hRK,Nat.min_eq_left (by omega)]
          exact (rowD_clear _ _ wr (rowD_cut hO.out (by omega)) (Nat.le_refl _)).1
        · refine hB.out.grown (rowD_clear _ _ wr (rowD_cut hO.out (Nat.le_of_lt hij)) (Nat.le_refl _)).2 (Nat.le_trans hN hB.out.size) (fun x hx=>?_)
          cases hx;exact hgN
def ifsN (ps:List Plc) (nm:ByteArray) (ld:Int) (acc:List Nat):List (List UInt8)→Except Int (List Nat)
  | []=>.ok acc
  | p::r=>match aboveN ps nm ld fitI p with
    | .error e=>.error e
    | .ok k=>ifsN ps nm ld (acc++[k]) r
def IfR (N:Nat):Except Int (List Nat)→Ending→World→Prop
  | .ok l,e,w'=>∃ v,e=.returned (.tuple #[v,.int .i64 0])∧w'.ownsRow N 3 1 v l.length (l.map numV)
  | .error x,e,_=>e=.returned (.tuple #[.slice none 0 0,.int .i64 x])
theorem above_err {ps:List Plc} {nm:ByteArray} {ld:Int} {fit:Nat→Plc→Bool} {p:List UInt8} {x:Int} (h:aboveN ps nm ld fit p=.error x):¬ x=0:=by
  unfold aboveN at h
  repeat' split at h
  all_goals first|(cases h;done)|(cases h;decide)
theorem above_ok {ps:List Plc} {nm:ByteArray} {ld:Int} {fit:Nat→Plc→Bool} {p:List UInt8} {k:Nat} (h:aboveN ps nm ld fit p=.ok k):lookL ps p=some k∧∃ q,ps[k]?=some q∧fit k q=true∧(pubB q.c.fl||sameP q.c nm ld)=true:=by
  unfold aboveN at h
  cases hl:lookL ps p with
  | none=>rw [hl] at h;cases h
  | some j =>
    rw [hl] at h
    simp only at h
    cases hq:ps[j]? with
    | none=>rw [hq] at h;cases h
    | some q =>
      rw [hq] at h
      simp only at h
      by_cases h1:fit j q=true
      · rw [if_pos h1] at h
        by_cases h2:(pubB q.c.fl||sameP q.c nm ld)=true
        · rw [if_pos h2] at h
          cases h
          exact ⟨rfl,q,hq,h1,h2⟩
        · rw [if_neg h2] at h;cases h
      · rw [if_neg h1] at h;cases h
set_option maxHeartbeats 4000000 in
theorem findIfaces_any (N b mb:Nat) (ps:List Plc) (vp:Value) (pv:List PV) (nm su:ByteArray) (fl ld:Int) (ifs:List (List UInt8)) (ai am:Option Addr) (ci nn cm:Nat) (W:World) (h:HW W N b mb ps vp pv) (hnz:nm.size≤maxLen) (hqz:∀ q∈ps,q.c.nm.size≤maxLen) (hI:IsStrs W (.slice ai ifs.length ci) ifs) (hiz:∀ p∈ifs,p.length≤maxLen) (hil:ifs.length≤1000) :
    Calls Tryz.prog 32 #[.pointer (some ⟨b,0,none⟩),.agg #[.string nm,.string su,.slice ai ifs.length ci,.int .i64 fl,.int .i64 ld,.slice am nn cm]] W fun e w'=>IfR W.heap.size (ifsN ps nm ld [] ifs) e w'∧Below W.heap.size W w':=by
  obtain ⟨i0,hi0,hz0,hz1,hz2⟩:=info_parts Tryz.hinfo3
  obtain ⟨K,hK⟩:∃ K,ifs.length=K:=⟨_,rfl⟩
  have HK:Hid (ifs.length=K):=hK
  have HI:Hid (IsStrs W (.slice ai ifs.length ci) ifs):=hI
  rw [hK] at hil ⊢
  have HA:Hid (∀ (p:List UInt8) (w:World),p∈ifs→Below W.heap.size W w→Calls Tryz.prog 59 #[.pointer (some ⟨b,0,none⟩),.agg #[.string nm,.string su,.slice ai K ci,.int .i64 fl,.int .i64 ld,.slice am nn cm],.string ⟨p.toArray⟩,.func (.func 61) #[.pointer (some ⟨b,0,none⟩)] #[]] w fun e w'=>e=.returned (abvV (aboveN ps nm ld fitI p))∧Below w.heap.size w w'):=by
    intro p w hp hb
    have hpz:(⟨p.toArray⟩:ByteArray).size≤maxLen:=by rw [mk_size];exact hiz p hp
    have hHW:=h.below hb
    cases hl:lookL ps p with
    | none =>
      refine (findAbove_none _ N b mb ps vp pv nm su fl ld _ _ ⟨p.toArray⟩ hpz w hHW (by simpa using hl)).mono ?_
      rintro e w' ⟨rfl,hb⟩
      exact ⟨by rw [aboveN,hl];rfl,hb⟩
    | some k =>
      obtain ⟨q,hq,_⟩:=look_place hl
      refine (findAbove_ifc N b mb ps vp pv nm su fl ld _ _ ⟨p.toArray⟩ hpz hnz w hHW k q (by simpa using hl) hq (hqz q (List.mem_of_getElem? hq)) (fitI k q) (fun w2 hb2=>isIfaceW_yes N b mb ps vp pv k q w2 (hHW.below hb2) hq)).mono ?_
      rintro e w' ⟨rfl,hb⟩
      exact ⟨by rw [aboveN,hl];simp only [hq],hb⟩
  obtain ⟨R,hR⟩:∃ R,R=ifsN ps nm ld [] ifs:=⟨_,rfl⟩
  rw [← hR]
  have HR:Hid (R=ifsN ps nm ld [] ifs):=hR
  clear hK h hqz hiz hR hI hnz
  go_enter Tryz.func32,Tryz.ntmps32
  go_wp2
  go_loopw [6,14] (fun sv kv wr=>∃ (k:Nat) (acc:List Nat),kv=.int .i64 k∧k≤K∧acc.length=k∧Hid (ifsN ps nm ld acc (ifs.drop k)=ifsN ps nm ld [] ifs)∧Hid (wr.ownsRow (W.heap.size+1) 3 1 sv acc.length (acc.map numV))∧Hid (Below W.heap.size W wr)∧wr.heap[W.heap.size]?=some (.cells #[.string nm,.string su,.slice ai K ci,.int .i64 fl,.int .i64 ld,.slice am nn cm] 45 (0,0))) (fun _ kv _=>K - (intOf kv).toNat)
  case atStart=>exact ⟨0,[],rfl,Nat.zero_le _,rfl,rfl,World.ownsRow_nil _ _ _ _,(Below.refl _ _).alloc (Nat.le_refl _) _,halloc _ _⟩
  case round =>
    obtain ⟨k,acc,rfl,hk,hal,hacc,hown,hB,hblk⟩:=hrel
    have c0:=cell_of_row wr W.heap.size 0 _ _ _ hblk
    have c1:=cell_of_row wr W.heap.size 1 _ _ _ hblk
    have c2:=cell_of_row wr W.heap.size 2 _ _ _ hblk
    have c3:=cell_of_row wr W.heap.size 3 _ _ _ hblk
    have c4:=cell_of_row wr W.heap.size 4 _ _ _ hblk
    have c5:=cell_of_row wr W.heap.size 5 _ _ _ hblk
    simp only [List.getElem?_toArray,List.getElem?_cons_zero,List.getElem?_cons_succ] at c0 c1 c2 c3 c4 c5
    have HBL:Hid (wr.heap[W.heap.size]?=some (.cells #[.string nm,.string su,.slice ai K ci,.int .i64 fl,.int .i64 ld,.slice am nn cm] 45 (0,0))):=hblk
    have hWr:W.heap.size<wr.heap.size:=(Array.getElem?_eq_some_iff.1 hblk).1
    clear hblk
    by_cases hlt:k<K
    · obtain ⟨p,hp⟩:∃ p,ifs[k]?=some p:=⟨_,List.getElem?_eq_getElem (by rw [HK.out];exact hlt)⟩
      have hdrop:ifs.drop k=p::ifs.drop (k+1):=by
        obtain ⟨h1,h2⟩:=List.getElem?_eq_some_iff.1 hp
        rw [List.drop_eq_getElem_cons h1,h2]
      obtain ⟨bk,o,rfl,hbk,hcell⟩:∃ bk o,ai=some ⟨bk,o,none⟩∧bk<W.heap.size∧W.cell? ⟨bk,o+k,none⟩=some (.string ⟨p.toArray⟩):=by
        obtain ⟨ao,cap,e,_,_,h3⟩:=HI.out
        obtain ⟨bk,o,e2,hlt2,hc⟩:=h3 (fun e=>by rw [e] at hp;simp at hp)
        injection e with e1
        exact ⟨bk,o,by rw [e1,e2],hlt2,hc k p hp⟩
      have hce:=(hB.out.cell (p:=⟨bk,o+k,none⟩) hbk).trans hcell
      have HA1:Hid (Calls Tryz.prog 59 #[.pointer (some ⟨b,0,none⟩),.agg #[.string nm,.string su,.slice (some ⟨bk,o,none⟩) K ci,.int .i64 fl,.int .i64 ld,.slice am nn cm],.string ⟨p.toArray⟩,.func (.func 61) #[.pointer (some ⟨b,0,none⟩)] #[]] wr fun e w'=>e=.returned (abvV (aboveN ps nm ld fitI p))∧Below wr.heap.size wr w'):=HA.out p wr (List.mem_of_getElem? hp) hB.out
      have hst:ifsN ps nm ld acc (ifs.drop k)=match aboveN ps nm ld fitI p with | .error e=>.error e | .ok j=>ifsN ps nm ld (acc++[j]) (ifs.drop (k+1)):=by rw [hdrop,ifsN]
      rw [hacc.out] at hst
      clear hcell hdrop hp HA hacc
      cases ha:aboveN ps nm ld fitI p with
      | error x =>
        rw [ha] at hst HA1
        have hRx:R=.error x:=by rw [HR.out,hst]
        have hx0:¬ x=0:=above_err ha
        clear hst ha
        obtain ⟨va,vn,rfl⟩:=ownv hown.out
        go_wp2_with (go_at_call 59;refine HA1.out.mono ?_;rintro e w1 ⟨rfl,hb⟩;rw [abvV];have B1:Hid (Below W.heap.size W w1):=bstep hB.out hb;clear hb HA1)
        subst hRx
        exact bodyPost_ret (results_tmp2 rfl _ _ _) rfl ⟨show Ending.returned _=Ending.returned _ from rfl,B1.out⟩
      | ok j =>
        rw [ha] at hst HA1
        have hnext:Hid (ifsN ps nm ld (acc++[j]) (ifs.drop (k+1))=ifsN ps nm ld [] ifs):=hst.symm
        clear hst ha
        obtain ⟨va,vn,rfl⟩:=ownv hown.out
        go_wp2_with (first
          | (go_at_call 59;refine HA1.out.mono ?_;rintro e w1 ⟨rfl,hb⟩;rw [abvV];have B1:Hid (Below W.heap.size W w1):=bstep hB.out hb;have O1:Hid (w1.ownsRow (W.heap.size+1) 3 1 (.slice va acc.length vn) acc.length (acc.map numV)):=rowBelow hown.out hb;have HB1:=(hb.block W.heap.size hWr).trans HBL.out;have hW1:W.heap.size<w1.heap.size:=Nat.lt_of_lt_of_le hWr hb.size;clear hb HA1)
          | (at_builtin;refine wpList_append_own _ rfl _ _ 37 rfl (W.heap.size+1) 3 i0 (.int .i64 0) 1 8 Tryz.underlying37 hi0 hz0 hz1 hz2 rfl (by decide) (.slice va acc.length vn) acc.length (acc.map numV) (by first|rfl|(rw [hal];rfl)) (O1.out.alloc _) ⟨w1.heap.size,0,none⟩ 1 1 [.int .i64 (j:Int)] rfl rfl ?c1 ?c2 ?c3 ?c4 ?c5 ?_))
        case c1=>intro jj u hj;rw [addr_add];cases jj with
          | zero=>simp at hj;subst hj;simp [go_sem]
          | succ jj=>simp at hj
        case c2=>intro u hu;simp at hu;subst hu;rfl
        case c3=>unfold maxLen;omega
        case c4=>omega
        case c5=>simp;omega
        intro v' w2 hown2 hgrow _
        obtain ⟨va2,vn2,rfl⟩:=ownv hown2
        simp only [← hal] at hown2 hgrow
        have B2:Hid (Below W.heap.size W w2):=by
          have hb1:Below W.heap.size W (w1.alloc (.cells #[.int .i64 (j:Int)] 3)):=B1.out.alloc B1.out.size _
          refine hb1.grown hgrow hb1.size (fun x hx=>?_)
          have:=(O1.out.lt x hx).1
          omega
        have HB2:Hid (w2.heap[W.heap.size]?=some (.cells #[.string nm,.string su,.slice (some ⟨bk,o,none⟩) K ci,.int .i64 fl,.int .i64 ld,.slice am nn cm] 45 (0,0))):=by
          refine (hgrow.block W.heap.size (by simp;omega) (fun hx=>?_)).trans ?_
          · have:=(O1.out.lt W.heap.size hx.symm).1
            omega
          · refine ((Below.refl w1.heap.size w1).alloc (Nat.le_refl _) _).block W.heap.size hW1 |>.trans HB1
        have O2:Hid (w2.ownsRow (W.heap.size+1) 3 1 (.slice va2 (k+1) vn2) (acc++[j]).length ((acc++[j]).map numV)):=by
          rw [Hid,List.length_append,List.map_append,← hal];exact hown2
        clear hown2 hgrow HB1
        go_wp2
        go_roundw
        case rel=>exact ⟨k+1,acc++[j],by go_num,by omega,by simp [hal],hnext,O2,B2,HB2.out⟩
        case measure=>simp [intOf];omega
    · have e:k=K:=by omega
      subst e
      have hRx:R=.ok acc:=by rw [HR.out,← hacc.out,List.drop_of_length_le (by rw [HK.out];exact Nat.le_refl _),ifsN]
      subst hRx
      obtain ⟨va,vn,rfl⟩:=ownv hown.out
      go_wp2
      exact bodyPost_ret (results_tmp2 rfl _ _ _) rfl ⟨⟨_,rfl,Go.Joins.ownsRow_le hown.out (by omega)⟩,hB.out⟩
end Go.Proofs.YtlohdfpinmdljaaGreatDoor
