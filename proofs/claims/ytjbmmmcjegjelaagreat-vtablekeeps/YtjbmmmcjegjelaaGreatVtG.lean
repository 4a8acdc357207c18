import Derived.Test.YtjbmmmcjegjelaaGreatRpE
import Derived.Test.YtjbmmmcjegjelaaGreatHrX
set_option maxHeartbeats 2000000
set_option maxRecDepth 100000
namespace Go.Proofs.YtjbmmmcjegjelaaGreat
open Go.RowKit Go.Maps Go.Shelf
attribute [local go_sem] Oper.semAt_some
def ovA (ps:List Plc) (r:Int×Int):List (Int×Int):=(alvE ps r).1
theorem slA_ov {ps:List Plc} (hW:WI ps):SlA (ovA ps):=fun r=>by
  refine ⟨Nat.le_trans (alvE_len hW r) (by omega),?_⟩
  rw [ovA,alvE]
  split
  · refine List.Pairwise.map _ (fun a b (hab:a<b)=>?_) (List.pairwise_lt_range.filter _)
    simp only [gK]
    omega
  · exact List.Pairwise.nil
theorem grow_c {b:Nat} {ps:List Plc} {W:World} (h:WAt b ps W) (hi:WI ps) (hU:UnqM ps) (k:Nat) (q:Plc) (hq:ps[k]?=some q) (l:List S5) (v:Value) (hv:Rds W v l.length 5 (flat5 l)) (hn:l.length≤300000000) (hS:SlW (ovA ps) W l):Calls Tryz.prog 52 #[.pointer (some ⟨b,0,none⟩),v,.int .i64 (k:Int)] W fun e w'=>(∃ v' Y,e=.returned v'∧Rds w' v' Y.length 5 (flat5 Y)∧SlW (ovA ps) w' Y∧Y.map S5.pr=grwP (ovA ps) (k:Int) q.c.ms (l.map S5.pr)∧∀ bk o n' c',v'=.slice (some ⟨bk,o,none⟩) n' c'→W.heap.size≤bk)∧Below W.heap.size W w':=by
  have hB:=hi.pb q (List.mem_of_getElem? hq)
  refine grow_w W b k q (ovA ps) l v hv hn hB.ms (inh_any (ovA ps) (slA_ov hi) (k:Int) l v W hv (by omega) hS) (fun w hb=>?_) (fun i w _ hb=>?_) hS
  · have:=class_c (h.below hb) hi.pb (k:Int)
    rw [Z8,hq] at this
    exact this
  · exact Zky w b (k:Int) (i:Int) _ _ (fun w' hb'=>oall_c ((h.below hb).below hb') hi hU (k:Int) (i:Int))
theorem Zgy {W W':World} (h:Below W.heap.size W W'):KeepsOthers W W':=⟨h.size,fun k _ hk _=>(h.block k (Array.getElem?_eq_some_iff.1 hk).1).trans hk⟩
theorem back_any (v:Value) (w:World) (hv:∃ a n c,v=.slice a n c):Calls Tryz.prog 51 #[v] w fun e w'=>e=.returned (.func (.func 80) #[] #[.pointer (some ⟨w.heap.size,0,none⟩)])∧w'=w.alloc (.cells #[v] 82):=by
  obtain ⟨a,n,c,rfl⟩:=hv
  go_enter Tryz.func51,Tryz.ntmps51
  go_wp2
  go_ret
  exact ⟨rfl,rfl⟩
abbrev BkE (M:Nat):=Nat×{c:Nat // c<M}
theorem back_in (n:Nat) (hn:1≤n) (lo bs gc cc n₀:Nat) (M:Nat) (l:List Nat) (hl:l.length≤1000) (hM:∀ c∈l,c<M) (J Jx:List (BkE M)→World→Prop)
    (hY:∀ (pre:List (BkE M)) (x:BkE M) (W:World),J pre W→pre.length<l.length+1→YieldAt Fence.wide (n - 1) Tryz.prog lo #[.int .i64 (x.1:Int),.int .i64 (x.2.1:Int)] W fun e W' =>
      (e=.returned (.bool true)∧J (pre++[x]) W'∧KpU n₀ bs W W')∨(e=.returned (.bool false)∧Jx (pre++[x]) W'))
    (W:World) (hbs:W.heap[bs]?=some (.cells #[.slice (some ⟨gc,0,none⟩) l.length cc] 82 (0,0))) (hrow:∀ w,Below n₀ W w→∀ (i c:Nat),l[i]?=some c→w.cell? ⟨gc,i,none⟩=some (.int .i64 (c:Int))) (h0:J [] W) :
    CallsIn Fence.wide n Tryz.prog 80 #[.func (.yield lo) #[] #[],.pointer (some ⟨bs,0,none⟩)] W fun e W'=>(∃ v,e=.returned v) ∧
      ((∃ ys:List (BkE M),ys.map (fun x=>x.2.1)=l.reverse∧J ys W')∨(∃ pre:List (BkE M),True∧Jx pre W')):=by
  refine callsIn_of_wp Tryz.func80 rfl trivial ?_ rfl
  simp only [Tryz.ntmps80,List.size_toArray,List.length_cons,List.length_nil,Nat.reduceAdd,Nat.reduceSub,Array.replicate_succ,Array.replicate_zero,List.push_toArray,List.append_toArray,List.nil_append,List.cons_append]
  have HBS:Hid (W.heap[bs]?=some (.cells #[.slice (some ⟨gc,0,none⟩) l.length cc] 82 (0,0))):=hbs
  have c0:W.cell? ⟨bs,0,none⟩=some (.slice (some ⟨gc,0,none⟩) l.length cc):=(cell_of_row W bs 0 _ _ _ hbs).trans rfl
  obtain ⟨K,hK⟩:∃ K,l.length=K:=⟨_,rfl⟩
  have HK:Hid (l.length=K):=hK
  rw [hK] at hl c0 hY
  clear hbs hK
  gi_wp2
  gi_loopw [3] (fun p wr=>∃ (j:Nat) (pre:List (BkE M)),p=.int .i64 ((j:Int) - 1)∧j≤K∧Hid (pre.map (fun x=>x.2.1)=(l.drop j).reverse)∧Hid (KpU n₀ bs W wr)∧Hid (J pre wr)) (fun p _=>(intOf p+1).toNat)
  case atStart=>exact ⟨K,[],by go_num,Nat.le_refl _,by rw [List.drop_of_length_le (by rw [HK.out];exact Nat.le_refl _)];rfl,⟨Below.refl _ _,rfl⟩,h0⟩
  case round =>
    obtain ⟨j,pre,rfl,hj,hpre,hkp,hJ⟩:=hrel
    cases j with
    | zero =>
      have HE:Hid (pre.map (fun x=>x.2.1)=l.reverse):=hpre.out
      clear hpre hY h0 hrow
      gi_wp2
      go_end0
      exact ⟨⟨_,rfl⟩,.inl ⟨pre,HE.out,hJ.out⟩⟩
    | succ j =>
      have hlen:=congrArg List.length hpre.out
      rw [List.length_map,List.length_reverse,List.length_drop,HK.out] at hlen
      obtain ⟨c,hc⟩:∃ c,l[j]?=some c:=⟨_,List.getElem?_eq_getElem (by rw [HK.out];omega)⟩
      have hcM:c<M:=hM c (List.mem_of_getElem? hc)
      have g1:=hrow wr hkp.out.1 j c hc
      have hw:=hkp.out.2.trans HBS.out
      rw [HK.out] at hw
      have c1:wr.cell? ⟨bs,0,none⟩=some (.slice (some ⟨gc,0,none⟩) K cc):=(cell_of_row wr bs 0 _ _ _ hw).trans rfl
      obtain ⟨fn,tmps,assign,body,hy,hR⟩:=hY pre (j,⟨c,hcM⟩) wr hJ.out (by omega)
      have hnext:Hid ((pre++[((j,⟨c,hcM⟩):BkE M)]).map (fun x=>x.2.1)=(l.drop j).reverse):=by
        rw [Hid,List.map_append,hpre.out,List.drop_eq_getElem_cons (by rw [HK.out];omega:j<l.length),List.reverse_cons]
        have:=(List.getElem?_eq_some_iff.1 hc).2
        rw [this]
        rfl
      have HKP:Hid (KpU n₀ bs W wr):=hkp.out
      have hjK:(j:Int)<(K:Int):=by omega
      have hjn:((j+1:Nat):Int) - 1=(j:Int):=by omega
      rw [hjn]
      clear hw hpre hlen hkp hJ hY h0 hrow hc hjn
      gi_wp2
      refine hR.mono ?_
      rintro e W3 (⟨rfl,hJ3,hk3⟩|⟨rfl,hJx3⟩)
      · have K3:Hid (KpU n₀ bs W W3):=⟨HKP.out.1.trans hk3.1,hk3.2.trans HKP.out.2⟩
        have J3:Hid (J (pre++[(j,⟨c,hcM⟩)]) W3):=hJ3
        clear hk3 hJ3
        gi_wp2
        go_roundw
        case rel=>exact ⟨j,pre++[(j,⟨c,hcM⟩)],by go_num,by omega,hnext,K3,J3⟩
        case measure=>simp [intOf]
      · gi_wp2
        refine bodyPost_ret (results_none rfl _ _ _) rfl ?_
        exact ⟨⟨_,rfl⟩,.inr ⟨_,trivial,hJx3⟩⟩
theorem Zji (n:Nat) (hn:1≤n) (bs gc cc n₀ M:Nat) (l:List Nat) (hl:l.length≤1000) (hM:∀ c∈l,c<M) (w:World) (hn₀:n₀≤w.heap.size)
    (hbs:w.heap[bs]?=some (.cells #[.slice (some ⟨gc,0,none⟩) l.length cc] 82 (0,0))) (hrow:∀ w',Below n₀ w w'→∀ (i c:Nat),l[i]?=some c→w'.cell? ⟨gc,i,none⟩=some (.int .i64 (c:Int))) :
    SeqStopsK Fence.wide n Tryz.prog 80 #[.pointer (some ⟨bs,0,none⟩)] (fun x:BkE M=>#[Value.int .i64 (x.1:Int),Value.int .i64 (x.2.1:Int)]) (KpU n₀ bs) (fun ys=>ys.map (fun x=>x.2.1)=l.reverse) (fun _=>True) (l.length+1) w:=fun lo J Jx W hB _ _ hY h0 =>
  back_in n hn lo bs gc cc n₀ M l hl hM J Jx hY W ((hB.block bs (Array.getElem?_eq_some_iff.1 hbs).1).trans hbs) (fun w' hb=>hrow w' ((hB.mono hn₀).trans hb)) h0
attribute [local go_sem] Oper.semAt_some
def msK (ps:List Plc) (c:Nat):List HM:=match ps[c]? with
  | some q=>q.c.ms
  | none=>[]
def tabL (ps:List Plc) (l:List Nat):List Sl:=l.foldl (fun (t:List Sl) (c:Nat)=>grwP (ovA ps) (c:Int) (msK ps c) t) []
def tabP (ps:List Plc) (k:Nat):List Sl:=tabL ps (chL (ps.map nd) k).reverse
theorem Zep (ps:List Plc) (l:List Nat) (c:Nat):tabL ps (l++[c])=grwP (ovA ps) (c:Int) (msK ps c) (tabL ps l):=by rw [tabL,tabL,List.foldl_append];rfl
def Yu (l:List Sl):List Value:=l.flatMap fun x=>[.int .i64 x.1.1,.int .i64 x.1.2,.int .i64 x.2.1,.int .i64 x.2.2]
theorem Tryz.hinfoS4:(Tryz.prog.info? 48).map (fun i=>(i.zero,i.size,i.bytes))=some (some (.agg #[.int .i64 0,.int .i64 0,.int .i64 0,.int .i64 0]),4,32):=by kernel_rfl
theorem grow_d {b:Nat} {ps:List Plc} {W:World} (h:WAt b ps W) (hi:WI ps) (hU:UnqM ps) (k:Nat) (hk:k<ps.length) (l:List S5) (v:Value) (hv:Rds W v l.length 5 (flat5 l)) (hn:l.length≤300000000) (hS:SlW (ovA ps) W l):Calls Tryz.prog 52 #[.pointer (some ⟨b,0,none⟩),v,.int .i64 (k:Int)] W fun e w'=>(∃ v' Y,e=.returned v'∧Rds w' v' Y.length 5 (flat5 Y)∧SlW (ovA ps) w' Y∧Y.map S5.pr=grwP (ovA ps) (k:Int) (msK ps k) (l.map S5.pr)∧Y.length≤l.length+1000000∧∀ bk o n' c',v'=.slice (some ⟨bk,o,none⟩) n' c'→W.heap.size≤bk)∧Below W.heap.size W w':=by
  have hq:ps[k]?=some ps[k]:=List.getElem?_eq_getElem hk
  have hm:msK ps k=ps[k].c.ms:=by rw [msK,hq]
  rw [hm]
  refine (grow_c h hi hU k _ hq l v hv hn hS).mono ?_
  rintro e w' ⟨⟨v',Y,e1,e2,e3,e4,e5⟩,hb⟩
  refine ⟨⟨v',Y,e1,e2,e3,e4,?_,e5⟩,hb⟩
  have h1:=congrArg List.length e4
  rw [List.length_map,grwP,List.length_append,List.length_map,List.length_map] at h1
  have h2:=Za4 (k:Int) ((l.map S5.pr).map (inhP (ovA ps) (k:Int))) ps[k].c.ms 0
  have h3:=(hi.pb _ (List.getElem_mem hk)).ms
  omega
theorem own_at {w:World} {N T n:Nat} {v:Value} {xs:List Value} (h:w.ownsRow N T 1 v n xs) (hn:0<n):∃ g cap,v=.slice (some ⟨g,0,none⟩) n cap∧N≤g∧g<w.heap.size∧∀ (j:Nat) (u:Value),xs[j]?=some u→w.cell? ⟨g,j,none⟩=some u:=by
  have hr:=Z2 h
  rcases h.2 with ⟨_,e⟩|⟨g,cap,cur,e1,e2,e3,e4⟩
  · omega
  · subst e1
    refine ⟨g,cap,rfl,e2,(Array.getElem?_eq_some_iff.1 e3).1,fun j u hj=>?_⟩
    rcases hr.val with ⟨e,_⟩|⟨bk,o,cap',e,_,_,_,h4⟩
    · cases e
    · injection e with ea _ _
      injection ea with ea
      injection ea with e5 e6 _
      have:=h4 j u hj
      rw [← e5,← e6,Nat.zero_add] at this
      exact this
theorem Zkd {W W':World} {row:Option Nat} {v:Value} {n k:Nat} {xs:List Value} (h:Rds W v n k xs) (hg:W.grownBy W' row) (hrow:∀ r,row=some r→∃ o:Obj,W.heap[r]?=some o∧o.isCells=false):Rds W' v n k xs:=by
  refine ⟨h.len,?_⟩
  rcases h.val with h1|⟨bk,o,cap,e,h1,h2,h3,h4⟩
  · exact .inl h1
  · exact .inr ⟨bk,o,cap,e,h1,h2,Nat.lt_of_lt_of_le h3 hg.size,fun j u hj=>cell_kept (h4 j u hj) hg hrow⟩
theorem Zjx {A:Int×Int→List (Int×Int)} {W W':World} {row:Option Nat} {l:List S5} (h:SlW A W l) (hg:W.grownBy W' row) (hrow:∀ r,row=some r→∃ o:Obj,W.heap[r]?=some o∧o.isCells=false):SlW A W' l:=fun x hx=>by
  have hr:=h x hx
  refine hr.kept hg ?_
  rcases hr.2 with ⟨e,_⟩|⟨g,cap,cur,e,_,hgb,_⟩
  · rw [e];exact .inl rfl
  · refine .inr fun e'=>?_
    rw [e] at e'
    obtain ⟨o,ho,hc⟩:=hrow g (by simpa [Value.ownBlock] using e'.symm)
    rw [hgb] at ho;cases ho;cases hc
theorem rds_set {W:World} {B:Nat} {u v:Value} {n k:Nat} {xs:List Value} (h:Rds W v n k xs) (hB:∀ bk o n' c',v=.slice (some ⟨bk,o,none⟩) n' c'→bk≠B):Rds (W.setCell ⟨B,0,none⟩ u) v n k xs:=by
  refine ⟨h.len,?_⟩
  rcases h.val with h1|⟨bk,o,cap,e,h1,h2,h3,h4⟩
  · exact .inl h1
  · refine .inr ⟨bk,o,cap,e,h1,h2,by simpa using h3,fun j w hj=>?_⟩
    have hk:=h4 j w hj
    unfold World.cell? at hk ⊢
    rw [Below.heap_setCell _ _ _ _ (hB _ _ _ _ e)]
    exact hk
theorem slw_set {A:Int×Int→List (Int×Int)} {W:World} {B:Nat} {t:TypeId} {u u':Value} {l:List S5} (h:SlW A W l) (hB:Boxed W B t u') (ht:t≠39):SlW A (W.setCell ⟨B,0,none⟩ u) l:=fun x hx=>by
  have hr:=h x hx
  refine ⟨hr.1,?_⟩
  rcases hr.2 with e|⟨g,cap,cur,e1,e2,e3,e4⟩
  · exact .inl e
  · refine .inr ⟨g,cap,cur,e1,e2,?_,e4⟩
    rw [Below.heap_setCell _ _ _ _ (by
      show g≠B
      intro e;subst e
      rw [show W.heap[g]?=_ from hB] at e3
      injection e3 with e3
      injection e3 with _ e3 _
      exact ht e3)]
    exact e3
def TI {M:Nat} (ps:List Plc) (g0:Nat) (pre:List (BkE M)) (W:World):Prop:=∃ (v:Value) (l:List S5),Boxed W g0 96 v∧Rds W v l.length 5 (flat5 l)∧SlW (ovA ps) W l∧l.map S5.pr=tabL ps (pre.map fun x=>x.2.1)∧l.length≤pre.length * 1000000
theorem ti_own {M:Nat} (ps:List Plc) (g0:Nat):Own (TI (M:=M) ps g0):=fun s W W' row ⟨v,l,h1,h2,h3,h4⟩ hg hrow=>⟨v,l,h1.kept hg (fun e'=>by
    obtain ⟨o,ho,hc⟩:=hrow g0 e'.symm
    rw [show W.heap[g0]?=_ from h1] at ho;cases ho;cases hc),Zkd h2 hg hrow,Zjx h3 hg hrow,h4⟩
theorem ti_nil {M:Nat} (ps:List Plc) {g0:Nat} {W:World} (h:Boxed W g0 96 (.slice none 0 0)):TI (M:=M) ps g0 [] W:=⟨_,[],h,⟨rfl,.inl ⟨rfl,rfl⟩⟩,fun x hx=>(by cases hx),rfl,Nat.zero_le _⟩
theorem table_c {b:Nat} {ps:List Plc} {W:World} (h:WAt b ps W) (hi:WI ps) (hU:UnqM ps) (k:Nat) (q:Plc) (hq:ps[k]?=some q):Calls Tryz.prog 24 #[.pointer (some ⟨b,0,none⟩),.int .i64 (k:Int)] W fun e w'=>(∃ v,e=.returned v∧w'.ownsRow W.heap.size 48 4 v (tabP ps k).length (Yu (tabP ps k)))∧Below W.heap.size W w':=by
  have HC:Hid (∀ w,Below W.heap.size W w→Calls Tryz.prog 50 #[.pointer (some ⟨b,0,none⟩),.int .i64 (k:Int)] w fun e w'=>∃ v,e=.returned (.tuple #[v,.int .i64 0])∧w'.ownsRow w.heap.size 3 1 v (chL (ps.map nd) k).length ((chL (ps.map nd) k).map numV)∧Below w.heap.size w w'):=fun w hb=>by
    obtain ⟨N,mb,vp,pv,h⟩:=h.below hb
    exact Zlx N b mb ps vp pv k (List.getElem?_eq_some_iff.1 hq).1 hi.wo hi.hi w h
  have HBk:Hid (∀ (v:Value) (w:World),(∃ a n c,v=.slice a n c)→_):=back_any
  refine (callsIn_wide (n:=9)).1 ?_
  refine callsIn_of_wp_marks Tryz.func24 rfl trivial ?_ rfl
  simp only [Tryz.ntmps24,List.size_toArray,List.length_cons,List.length_nil,Nat.reduceAdd,Nat.reduceSub,Array.replicate_succ,Array.replicate_zero,List.push_toArray,List.append_toArray,List.nil_append,List.cons_append]
  gi_wp2
  refine ⟨trivial,?_⟩
  refine (callsIn_wide.2 (HC.out _ ((Below.refl _ W).alloc (Nat.le_refl _) _))).mono ?_
  rintro e w1 ⟨v,rfl,hown,hb⟩
  obtain ⟨gc,cc,rfl,hgN,hgl,hgc⟩:=own_at hown (ch_pos (ns:=ps.map nd) k)
  have hb1:Below W.heap.size W w1:=((Below.refl _ W).alloc (Nat.le_refl _) _).trans (hb.mono (by simp))
  have hbx:w1.heap[W.heap.size]?=some (.cells #[.pointer (some ⟨b,0,none⟩)] 24 (0,0)):=(hb.block W.heap.size (by simp)).trans (World.alloc_heap_new W _)
  have hsz:W.heap.size<w1.heap.size:=by have:=hb.size;simp at this;omega
  clear hown
  gi_wp2
  refine ⟨trivial,?_⟩
  refine (callsIn_wide.2 (HBk.out _ _ ⟨_,_,_,rfl⟩)).mono ?_
  rintro e w9 ⟨rfl,hw9⟩
  rw [hw9]
  clear hw9 w9
  gi_wp2
  have hB0:Below w1.heap.size w1 ((w1.alloc (.cells #[.slice none 0 0] 96)).alloc (.cells #[.slice (some ⟨gc,0,none⟩) (chL (ps.map nd) k).length cc] 82)):=((Below.refl _ w1).alloc (Nat.le_refl _) _).alloc (by simp) _
  have d0:Boxed ((w1.alloc (.cells #[.slice none 0 0] 96)).alloc (.cells #[.slice (some ⟨gc,0,none⟩) (chL (ps.map nd) k).length cc] 82)) w1.heap.size 96 (.slice none 0 0):=Yw _ (World.alloc_heap_new w1 _)
  have d1:((w1.alloc (.cells #[.slice none 0 0] 96)).alloc (.cells #[.slice (some ⟨gc,0,none⟩) (chL (ps.map nd) k).length cc] 82)).heap[w1.heap.size+1]?=some (.cells #[.slice (some ⟨gc,0,none⟩) (chL (ps.map nd) k).length cc] 82 (0,0)):=by have:=World.alloc_heap_new (w1.alloc (.cells #[.slice none 0 0] 96)) (.cells #[.slice (some ⟨gc,0,none⟩) (chL (ps.map nd) k).length cc] 82);rwa [World.size_alloc] at this
  have hz:((w1.alloc (.cells #[.slice none 0 0] 96)).alloc (.cells #[.slice (some ⟨gc,0,none⟩) (chL (ps.map nd) k).length cc] 82)).heap.size=w1.heap.size+2:=by simp
  generalize (w1.alloc (.cells #[.slice none 0 0] 96)).alloc (.cells #[.slice (some ⟨gc,0,none⟩) (chL (ps.map nd) k).length cc] 82)=W0 at *
  have hM:∀ c∈chL (ps.map nd) k,c<ps.length:=fun c hc=>Nat.lt_of_le_of_lt (Zeg hi.wo k (by rw [List.length_map];exact (List.getElem?_eq_some_iff.1 hq).1) c hc) (List.getElem?_eq_some_iff.1 hq).1
  have hLen:(chL (ps.map nd) k).length≤300:=by
    have h1:=Zid hi.wo k (by rw [List.length_map];exact (List.getElem?_eq_some_iff.1 hq).1)
    have h2:=(List.getElem?_eq_some_iff.1 hq).1
    have h3:=hi.hi
    omega
  have HG:Hid (∀ (x:{c:Nat // c<ps.length}) (l:List S5) (v:Value) (w:World),Below W.heap.size W w→Rds w v l.length 5 (flat5 l)→l.length≤300000000→SlW (ovA ps) w l→Calls Tryz.prog 52 #[.pointer (some ⟨b,0,none⟩),v,.int .i64 (x.1:Int)] w fun e w'=>(∃ v' Y,e=.returned v'∧Rds w' v' Y.length 5 (flat5 Y)∧SlW (ovA ps) w' Y∧Y.map S5.pr=grwP (ovA ps) (x.1:Int) (msK ps x.1) (l.map S5.pr)∧Y.length≤l.length+1000000∧∀ bk o n' c',v'=.slice (some ⟨bk,o,none⟩) n' c'→w.heap.size≤bk)∧Below w.heap.size w w'):=fun x l v w hb h1 h2 h3=>grow_d (h.below hb) hi hU x.1 x.2 l v h1 h2 h3
  refine wpIn_rangeFunc_ownF rfl (by decide) (gf:=80) (lb:=#[.pointer (some ⟨w1.heap.size+1,0,none⟩)]) rfl trivial (enters_of Tryz.func80 (by kernel_rfl) rfl)
    (Zji 8 (by decide) (w1.heap.size+1) gc cc w1.heap.size ps.length (chL (ps.map nd) k) (by omega) hM W0 hB0.size d1 (fun w' hb i c hc=>?cells)) kpU_t (kpU_b hB0.size (by rw [hz];omega)) (Below.refl _ _) (fun _=>rfl)
    (fun pre W=>TI ps w1.heap.size pre W∧Below w1.heap.size W0 W)
    (fun _ _ _=>False)
    (OwnFrom.and (Own.from (ti_own ps w1.heap.size) _) (ownFrom_below hB0.size (by rw [hz];omega)))
    (fun _ _ _ _ _ hs _ _=>hs)
    ⟨ti_nil ps d0,Below.refl _ _⟩
    (fun x=>{ tmps:=#[.pointer (some ⟨b,0,none⟩),.int .i64 (k:Int),.pointer (some ⟨W.heap.size,0,none⟩),undef,.slice none 0 0,.slice (some ⟨gc,0,none⟩) (chL (ps.map nd) k).length cc,.int .i64 0,.pointer (some ⟨w1.heap.size,0,none⟩),undef,.int .i64 (x.2.1:Int),undef,undef,undef,.tuple #[.slice (some ⟨gc,0,none⟩) (chL (ps.map nd) k).length cc,.int .i64 0],.pointer (some ⟨b,0,none⟩),.int .i64 (k:Int),.tuple #[.slice (some ⟨gc,0,none⟩) (chL (ps.map nd) k).length cc,.int .i64 0],.slice (some ⟨gc,0,none⟩) (chL (ps.map nd) k).length cc,.int .i64 0,.slice (some ⟨gc,0,none⟩) (chL (ps.map nd) k).length cc,.func (.func 80) #[] #[.pointer (some ⟨w1.heap.size+1,0,none⟩)],.int .i64 (x.1:Int),.int .i64 (x.2.1:Int),undef,undef,undef,undef,undef,undef,undef,undef,undef,undef,undef,undef,undef,undef,undef,undef,undef],defers:=[] }) ?assign ?body ?done ?stop
  case cells =>
    refine ((hB0.trans hb).cell (p:=⟨gc,i,none⟩) hgl).trans (hgc i _ ?_)
    rw [List.getElem?_map,hc]
    rfl
  case assign =>
    intro l x W K hK
    gi_wp2
    exact hK
  case body =>
    rintro l pre x Wr ⟨⟨v,ls,b1,b2,b3,b4,b5⟩,hBz⟩ hpl
    have hB:=hB0.trans hBz
    have hw:=((hB.cell (p:=⟨W.heap.size,0,none⟩) hsz).trans (Qp hbx).1)
    have hc:=b1.cell
    have hG:=HG.out x.2 ls v Wr (hb1.trans (hB.mono (Nat.le_of_lt hsz))) b2 (by omega) b3
    gi_wp2
    refine ⟨trivial,?_⟩
    refine ((callsIn_wide.2 hG).inRound l).mono ?_
    rintro e w2 ⟨⟨v',Y,rfl,c1,c2,c3,c4,c5⟩,hb2⟩
    have hk2:Boxed w2 w1.heap.size 96 v:=(hb2.block _ b1.lt).trans b1
    have hf2:=hk2.frozen
    have hc2:=hk2.cell
    have hne:∀ bk o n' c',v'=.slice (some ⟨bk,o,none⟩) n' c'→bk≠w1.heap.size:=fun bk o n' c' e=>by
      have:=c5 bk o n' c' e
      have:=b1.lt
      omega
    have hBr:Below w1.heap.size Wr w2:=hb2.mono hB.size
    have h1r:w1.heap.size+1<Wr.heap.size:=by
      have:=hBz.size
      omega
    obtain ⟨a',n',c',rfl⟩:∃ a n c,v'=.slice a n c:=by
      rcases c1.val with ⟨e,_⟩|⟨_,_,_,e,_⟩
      · exact ⟨_,_,_,e⟩
      · exact ⟨_,_,_,e⟩
    clear hG
    gi_wp2
    refine ⟨(Zgy hb2).trans (KeepsOthers.setCell _ _ _),⟨hBr.setCell (p:=⟨w1.heap.size,0,none⟩) (Nat.le_refl _) _,(Below.heap_setCell _ _ _ _ (by simp)).trans (hb2.block _ h1r)⟩,⟨_,Y,hk2.set _,rds_set c1 hne,slw_set c2 hk2 (by decide),?_,?_⟩,(hBz.trans hBr).setCell (p:=⟨w1.heap.size,0,none⟩) (Nat.le_refl _) _⟩
    · rw [List.map_append,List.map_cons,List.map_nil,Zep,c3,b4]
    · rw [List.length_append,List.length_singleton]
      omega
  case done =>
    rintro D ys Wr hD hys ⟨⟨v,ls,b1,b2,b3,b4,b5⟩,hBz⟩ hK
    have hB:Below W.heap.size W Wr:=hb1.trans ((hB0.trans hBz).mono (Nat.le_of_lt hsz))
    have hc:=b1.cell
    obtain ⟨a',c',rfl⟩:=b2.slice
    have hyl:ys.length≤300:=by
      have:=congrArg List.length hys
      rw [List.length_map,List.length_reverse] at this
      omega
    have HT:Hid (ls.map S5.pr=tabP ps k):=by rw [Hid,b4,tabP,← hys]
    have HRow:Hid (∀ (i:Nat) (x:S5),ls[i]?=some x→∃ bk o,a'=some ⟨bk,o,none⟩∧bk<Wr.heap.size∧∀ wr,Below Wr.heap.size Wr wr→wr.cell? ⟨bk,o+i * 5,none⟩=some (.int .i64 x.r.1)∧wr.cell? ⟨bk,o+i * 5+1,none⟩=some (.int .i64 x.r.2)∧wr.cell? ⟨bk,o+i * 5+2,none⟩=some (.int .i64 x.m.1)∧wr.cell? ⟨bk,o+i * 5+3,none⟩=some (.int .i64 x.m.2)∧wr.cell? ⟨bk,o+i * 5+4,none⟩=some (.slice x.oa x.on x.oc)):=fun i x hx=>by
      rcases b2.val with ⟨_,e⟩|⟨bk,o,cap,e,_,_,h3,h4⟩
      · have:=(List.getElem?_eq_some_iff.1 hx).1
        omega
      · injection e with ea _ _
        refine ⟨bk,o,ea,h3,fun wr hb=>?_⟩
        have hc:∀ j u,x.cells[j]?=some u→j<5→wr.cell? ⟨bk,o+(i * 5+j),none⟩=some u:=fun j u hj h5=>(hb.cell (p:=⟨bk,_,none⟩) h3).trans (h4 _ u ((Zd2 ls i x j hx h5).trans hj))
        exact ⟨hc 0 _ rfl (by decide),hc 1 _ rfl (by decide),hc 2 _ rfl (by decide),hc 3 _ rfl (by decide),hc 4 _ rfl (by decide)⟩
    have HBW:Hid (Below W.heap.size W Wr):=hB
    have HKD:Hid (Wr.heap[D]?=some (.deferred (some []))):=hK
    obtain ⟨K,hKK⟩:∃ K,ls.length=K:=⟨_,rfl⟩
    have HKK:Hid (ls.length=K):=hKK
    rw [hKK] at b5 hc
    have hKb:K≤300000000:=by omega
    obtain ⟨i0,hi0,hz0,hz1,hz2⟩:=info_parts Tryz.hinfoS4
    clear b1 b2 b3 b4 b5 hKK hys hyl hK hB hBz HG hB0 d0 d1 hM hLen HC HBk hgc hgl hgN hbx
    gi_wp2
    refine wpIn_wide.2 ?_
    go_loopw [10,29] (fun sv kv wr=>∃ (i:Nat) (ta:Option Addr) (tc:Nat),sv=.slice ta i tc∧kv=.int .i64 i∧i≤K∧Hid (wr.ownsRow Wr.heap.size 48 4 (.slice ta i tc) i (Yu ((ls.map S5.pr).take i)))∧Hid (Below Wr.heap.size Wr wr)) (fun _ kv _=>K - (intOf kv).toNat)
    case atStart=>exact ⟨0,none,0,rfl,rfl,Nat.zero_le _,World.ownsRow_nil _ _ _ _,Below.refl _ _⟩
    case round =>
      obtain ⟨i,ta,tc,rfl,rfl,hi1,hO,hB⟩:=hrel
      by_cases hlt:i<K
      · have hiI:(i:Int)<(K:Int):=by omega
        obtain ⟨x,hx⟩:∃ x,ls[i]?=some x:=⟨_,List.getElem?_eq_getElem (by rw [HKK.out];exact hlt)⟩
        obtain ⟨bk,o,rfl,hbk,hcs⟩:=HRow.out i x hx
        obtain ⟨e0,e1,e2,e3,e4⟩:=hcs wr hB.out
        have hbr:bk<wr.heap.size:=Nat.lt_of_lt_of_le hbk hB.out.size
        have hbn:¬ bk=wr.heap.size:=by omega
        have HX:Hid (ls[i]?=some x):=hx
        clear hcs hx
        obtain ⟨⟨r1,r2⟩,⟨m1,m2⟩,oa,on,oc⟩:=x
        simp only at e0 e1 e2 e3 e4
        have hxt:(ls.map S5.pr).take (i+1)=(ls.map S5.pr).take i++[((r1,r2),(m1,m2))]:=by
          rw [List.take_add_one,List.getElem?_map,HX.out]
          rfl
        go_wp2_with (at_builtin;refine wpList_append_own _ rfl _ _ 28 rfl Wr.heap.size 48 i0 (.agg #[.int .i64 0,.int .i64 0,.int .i64 0,.int .i64 0]) 4 32 Tryz.underlying28 hi0 hz0 hz1 hz2 rfl (by decide) (.slice ta i tc) i (Yu ((ls.map S5.pr).take i)) rfl ((hO.out.alloc _).alloc _) ⟨wr.heap.size+1,0,none⟩ 1 1 [.int .i64 r1,.int .i64 r2,.int .i64 m1,.int .i64 m2] rfl rfl ?c1 ?c2 ?c3 ?c4 ?c5 ?_)
        case c1=>intro jj u hj;rw [addr_add];match jj,hj with
        | 0,hj=>simp at hj;subst hj;simp [go_sem]
        | 1,hj=>simp at hj;subst hj;simp [go_sem]
        | 2,hj=>simp at hj;subst hj;simp [go_sem]
        | 3,hj=>simp at hj;subst hj;simp [go_sem]
        | (jj+4),hj=>simp at hj
        case c2=>intro u hu;simp at hu;rcases hu with rfl|rfl|rfl|rfl <;> rfl
        case c3=>unfold maxLen;omega
        case c4=>omega
        case c5=>have:=hB.out.size;simp;omega
        intro v7 w7 hown hgrow _
        obtain ⟨a7,c7,rfl⟩:=ownv hown
        have B7:Hid (Below Wr.heap.size Wr w7):=by
          have hb1:Below Wr.heap.size Wr ((wr.alloc (.cells #[.int .i64 r1,.int .i64 r2,.int .i64 m1,.int .i64 m2,.slice oa on oc] 102)).alloc (.cells #[.int .i64 r1,.int .i64 r2,.int .i64 m1,.int .i64 m2] 48)):=(hB.out.alloc hB.out.size _).alloc (by have:=hB.out.size;simp;omega) _
          refine hb1.grown hgrow hb1.size (fun x hx=>?_)
          have:=(hO.out.lt x hx).1
          omega
        have O7:Hid (w7.ownsRow Wr.heap.size 48 4 (.slice a7 (i+1) c7) (i+1) (Yu ((ls.map S5.pr).take (i+1)))):=by
          rw [Hid,hxt,Yu,List.flatMap_append]
          exact hown
        clear hown hgrow
        go_wp2
        go_roundw
        case rel=>exact ⟨i+1,a7,c7,rfl,by go_num,by omega,O7,B7⟩
        case measure=>simp [intOf];omega
      · have hiK:i=K:=by omega
        subst hiK
        have HTK:Hid ((ls.map S5.pr).take i=tabP ps k):=by
          rw [Hid,← HT.out,List.take_of_length_le (by rw [List.length_map,HKK.out];exact Nat.le_refl _)]
        have HTL:Hid ((tabP ps k).length=i):=by rw [Hid,← HT.out,List.length_map,HKK.out]
        have hKd:wr.heap[D]?=some (.deferred (some [])):=(hB.out.block D (Array.getElem?_eq_some_iff.1 HKD.out).1).trans HKD.out
        go_wp2
        gi_wp2
        refine ⟨by simp,.inl ⟨_,_,rfl,run_takeDeferred hKd,?_⟩⟩
        refine ⟨_,results_tmp rfl _ _ _,⟨_,rfl,?_⟩,(HBW.out.trans (hB.out.mono HBW.out.size)).trans (belowK_b (w:=W) (Nat.le_refl _) wr D _ _ (by omega) hKd rfl rfl)⟩
        rw [HTL.out,← HTK.out]
        exact ownsRow_putObj (Go.Joins.ownsRow_le hO.out HBW.out.size) _ hKd rfl
  case stop =>
    rintro D c pre W _ _ h _
    exact h.elim
end Go.Proofs.YtjbmmmcjegjelaaGreat
