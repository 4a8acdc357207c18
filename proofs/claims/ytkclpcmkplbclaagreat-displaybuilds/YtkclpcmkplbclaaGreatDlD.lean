import Derived.Test.YtkclpcmkplbclaaGreatDtB
import Derived.Test.YtkclpcmkplbclaaGreatRfB
import Derived.Deep.AppendLies
set_option maxRecDepth 100000
namespace Go.Proofs.YtkclpcmkplbclaaGreat
open Go.RowKit Go.Maps
structure DB (N q:Nat) (D:List Nat) (j:Nat) (w:World) (a1:Option Addr) (c1:Nat) (a2:Option Addr) (c2:Nat):Prop where
  blk:w.heap[q]?=some (.cells #[.slice a1 (min j 8) c1,.slice a2 (j - 8) c2,.slice none 0 0] 47 (0,0))
  one:w.ownsRow N 3 1 (.slice a1 (min j 8) c1) (min j 8) ((D.take (min j 8)).map numV)
  two:∃ T,N≤T∧T≤w.heap.size∧(∀ x,(Value.slice a1 (min j 8) c1).ownBlock=some x→x<T)∧w.ownsRow T 3 1 (.slice a2 (j - 8) c2) (j - 8) (((D.take j).drop 8).map numV)
  few:j≤8→a2=none∧c2=0
theorem DB.start (N q:Nat) (D:List Nat) (w:World) (hN:N≤w.heap.size) (h:w.heap[q]?=some (.cells #[.slice none 0 0,.slice none 0 0,.slice none 0 0] 47 (0,0))):DB N q D 0 w none 0 none 0 :=
  ⟨h,World.ownsRow_nil _ _ _ _,⟨N,Nat.le_refl _,hN,fun x hx=>by simp [Value.ownBlock] at hx,by rw [List.take_zero];exact World.ownsRow_nil _ _ _ _⟩,fun _=>⟨rfl,rfl⟩⟩
theorem set3 {w:World} {n:Nat} {t:TypeId} {a0 a1 a2:Value} (h:w.heap[n]?=some (.cells #[a0,a1,a2] t (0,0))) (v:Value):(w.setCell ⟨n,0,none⟩ v).heap[n]?=some (.cells #[v,a1,a2] t (0,0))∧(w.setCell ⟨n,1,none⟩ v).heap[n]?=some (.cells #[a0,v,a2] t (0,0))∧(w.setCell ⟨n,2,none⟩ v).heap[n]?=some (.cells #[a0,a1,v] t (0,0)) :=
  ⟨(Go.Joins.block_setCell (i:=0) h v).trans (by simp),(Go.Joins.block_setCell (i:=1) h v).trans (by simp),(Go.Joins.block_setCell (i:=2) h v).trans (by simp)⟩
theorem own4 {w:World} {N n d r:Nat} {v:Value} {xs:List Value} (h:w.ownsRow N 3 1 v n xs) (hr:r<N) (hd:d<N) (x y z u:Value):((((w.setCell ⟨d,2,none⟩ x).setCell ⟨r,0,none⟩ y).setCell ⟨r,1,none⟩ z).setCell ⟨r,2,none⟩ u).ownsRow N 3 1 v n xs :=
  ownsRow_setCell_below (ownsRow_setCell_below (ownsRow_setCell_below (ownsRow_setCell_below h hd _) hr _) hr _) hr _
theorem DB.put1 {N q:Nat} {D:List Nat} {j x g cap:Nat} {w w5:World} {o:Obj} {a1:Option Addr} {c1:Nat} {a2:Option Addr} {c2:Nat} (h:DB N q D j w a1 c1 a2 c2) (hq:q<N) (hj:j<8) (hx:D[j]?=some x) (hown:w5.ownsRow N 3 1 (.slice (some ⟨g,0,none⟩) (min j 8+1) cap) (min j 8+1) ((D.take (min j 8)).map numV++[numV x])) (hg:(w.drew.alloc o).grownBy w5 (Value.slice a1 (min j 8) c1).ownBlock):DB N q D (j+1) (w5.setCell ⟨q,0,none⟩ (.slice (some ⟨g,0,none⟩) (min j 8+1) cap)) (some ⟨g,0,none⟩) cap none 0:=by
  have e1:min (j+1) 8=j+1:=by omega
  have e2:min j 8=j:=by omega
  have e3:j+1 - 8=0:=by omega
  obtain ⟨e4,e5⟩:=h.few (by omega)
  have e6:j - 8=0:=by omega
  have hql:q<w.heap.size:=(Array.getElem?_eq_some_iff.1 h.blk).1
  have hb5:w5.heap[q]?=some (.cells #[.slice a1 (min j 8) c1,.slice none 0 0,.slice none 0 0] 47 (0,0)):=by
    have hb:=h.blk
    rw [e4,e5,e6] at hb
    refine (hg.block q (by simp;omega) (fun e=>?_)).trans ((Below.heap_alloc _ _ _ (by simpa using hql)).trans hb)
    have:=(h.one.lt q e.symm).1
    omega
  have hL:(D.take (j+1)).map numV=(D.take j).map numV++[numV x]:=by rw [List.take_add_one,hx,Option.toList_some,List.map_append];rfl
  rw [e2] at hown ⊢
  refine ⟨?_,?_,⟨w5.heap.size,?_,?_,?_,?_⟩,fun _=>⟨rfl,rfl⟩⟩
  · rw [e1,e3];exact (set3 hb5 _).1
  · rw [e1,hL];exact ownsRow_setCell_below hown hq _
  · have:=(hown.lt g rfl)
    omega
  · simp
  · rw [e1];exact fun x hx=>(hown.lt x hx).2
  · rw [e3,List.drop_of_length_le (by rw [List.length_take];omega)];exact World.ownsRow_nil _ _ _ _
theorem DB.put2 {N q:Nat} {D:List Nat} {j x g cap T:Nat} {w w5:World} {o:Obj} {a1:Option Addr} {c1:Nat} {a2:Option Addr} {c2:Nat} (h:DB N q D j w a1 c1 a2 c2) (hq:q<N) (hj:¬ j<8) (hjl:j<D.length) (hx:D[j]?=some x) (hT:N≤T∧T≤w.heap.size∧(∀ x,(Value.slice a1 (min j 8) c1).ownBlock=some x→x<T)∧w.ownsRow T 3 1 (.slice a2 (j - 8) c2) (j - 8) (((D.take j).drop 8).map numV)) (hown:w5.ownsRow T 3 1 (.slice (some ⟨g,0,none⟩) (j - 8+1) cap) (j - 8+1) (((D.take j).drop 8).map numV++[numV x])) (hg:(w.drew.alloc o).grownBy w5 (Value.slice a2 (j - 8) c2).ownBlock):DB N q D (j+1) (w5.setCell ⟨q,1,none⟩ (.slice (some ⟨g,0,none⟩) (j - 8+1) cap)) a1 c1 (some ⟨g,0,none⟩) cap:=by
  have e1:min (j+1) 8=min j 8:=by omega
  have e3:j+1 - 8=j - 8+1:=by omega
  have hql:q<w.heap.size:=(Array.getElem?_eq_some_iff.1 h.blk).1
  obtain ⟨t1,t2,t3,t4⟩:=hT
  have hb5:w5.heap[q]?=some (.cells #[.slice a1 (min j 8) c1,.slice a2 (j - 8) c2,.slice none 0 0] 47 (0,0)):=by
    refine (hg.block q (by simp;omega) (fun e=>?_)).trans ((Below.heap_alloc _ _ _ (by simpa using hql)).trans h.blk)
    have:=(t4.lt q e.symm).1
    omega
  have hL:((D.take (j+1)).drop 8).map numV=((D.take j).drop 8).map numV++[numV x]:=by
    rw [List.take_add_one,hx,Option.toList_some,List.drop_append_of_le_length (by rw [List.length_take];omega),List.map_append];rfl
  refine ⟨?_,?_,⟨T,t1,?_,?_,?_⟩,fun hh=>absurd hh (by omega)⟩
  · rw [e1,e3];exact (set3 hb5 _).2.1
  · rw [e1]
    refine ownsRow_setCell_below ?_ hq _
    refine ((h.one.drew).alloc o).kept hg ?_
    cases hv:(Value.slice a1 (min j 8) c1).ownBlock with
    | none=>exact .inl rfl
    | some y =>
      refine .inr fun e=>?_
      have y1:=t3 y hv
      have y2:=(t4.lt y e.symm).1
      omega
  · have:=hg.size
    simp at this ⊢
    omega
  · rw [e1];exact t3
  · rw [e3,hL];exact ownsRow_setCell_below hown (show q<T by omega) _
theorem DB.bel {M N q:Nat} {w0 w w5:World} {o:Obj} {i T n c:Nat} {a:Option Addr} {xs:List Value} {v:Value} (hB:Below M w0 w) (hM:M≤w.heap.size) (hMq:M≤q) (hMT:M≤T) (h:w.ownsRow T 3 1 (.slice a n c) n xs) (hg:(w.drew.alloc o).grownBy w5 (Value.slice a n c).ownBlock):Below M w0 (w5.setCell ⟨q,i,none⟩ v):=by
  have hN:N=N:=rfl
  refine Below.setCell (p:=⟨q,i,none⟩) ?_ hMq _
  refine Below.grown (w:=w.drew.alloc o) ((hB.drew).alloc (by simpa using hM) o) hg (by simp;omega) (fun k hk=>?_)
  have:=(h.lt k hk).1
  omega
set_option maxHeartbeats 8000000 in
theorem r15b_w (W:World) (b:Nat) (x:Int) (l D C:List Nat) (n k:Nat) (HN:Hid (l.length=n)) (HD:Hid (D=l.reverse)) (HK:Hid (C.length=k)) (hn:n≤300)
    (HC:Hid (∀ w,Below W.heap.size W w→Calls Tryz.prog 45 #[.pointer (some ⟨b,0,none⟩),.int .i64 x] w fun e w'=>NumsA (l,0) e w'∧Below w.heap.size w w'))
    (HCL:Hid (∀ w,Below W.heap.size W w→Calls Tryz.prog 46 #[.pointer (some ⟨b,0,none⟩),.int .i64 x] w fun e w'=>(∃ v,e=.returned (.tuple #[v,.int .i64 0])∧w'.ownsRow w.heap.size 3 1 v k (C.map numV))∧Below w.heap.size w w')) :
    Calls Tryz.prog 31 #[.pointer (some ⟨b,0,none⟩),.int .i64 x] W fun e w'=>(∃ v1 v2 v3,e=.returned (.tuple #[.agg #[v1,v2,v3],.int .i64 0])∧Rds w' v1 (D.take 8).length 1 ((D.take 8).map numV)∧Rds w' v2 (D.drop 8).length 1 ((D.drop 8).map numV)∧Rds w' v3 C.length 1 (C.map numV))∧Below W.heap.size W w':=by
  obtain ⟨i0,hi0,hz0,hz1,hz2⟩:=info_parts Tryz.hinfoInt
  go_enter Tryz.func31,Tryz.ntmps31
  go_wp2_with (go_at_call 45;refine (HC.out _ (by repeat (first|exact Below.refl _ _|refine Below.setCell ?_ (by simp;try omega) _|refine Below.alloc ?_ (by simp;try omega) _|refine Below.drew ?_))).mono ?_;rintro e w1 ⟨⟨ca,cc,rfl,hr⟩,hb⟩;simp only [HN.out] at hr ⊢;have R1:Hid (Rds w1 (.slice ca n cc) n 1 (l.map numV)):=hr;have B1:Hid (Below W.heap.size W w1):=bstep (by repeat (first|exact Below.refl _ _|refine Below.setCell ?_ (by simp;try omega) _|refine Below.alloc ?_ (by simp;try omega) _|refine Below.drew ?_)) hb;have rrd:=kp3 (n:=W.heap.size) hb (by simp) (halloc1 _ _);obtain ⟨rrB,rr0,rr1,rr2,rrf,rrL,rrN⟩:=rrd;clear hr hb HC)
  go_loopw [9] (fun iv wr=>∃ (j:Nat) (a1:Option Addr) (c1:Nat) (a2:Option Addr) (c2:Nat),iv=.int .i64 ((n:Int) - 1 - (j:Int))∧j≤n∧Hid (DB (w1.heap.size+1) w1.heap.size D j wr a1 c1 a2 c2)∧Hid (Below w1.heap.size w1 wr)) (fun iv _=>((intOf iv)+1).toNat)
  case atStart=>exact ⟨0,none,0,none,0,by simp,Nat.zero_le _,DB.start _ _ _ _ (by simp) (halloc1 _ _),(Below.refl _ _).alloc (Nat.le_refl _) _⟩
  case round =>
    obtain ⟨j,a1,c1,a2,c2,rfl,hjn,hDB,hB⟩:=hrel
    obtain ⟨q0,q1,q2,qf,qqL⟩:=rw3 hDB.out.blk
    by_cases hlt:j<n
    · obtain ⟨i,hi⟩:∃ i:Nat,(n:Int) - 1 - (j:Int)=(i:Int):=⟨n - 1 - j,by omega⟩
      have hin:(i:Int)<(n:Int):=by omega
      have hi0':¬ (i:Int)<0:=by omega
      have hdj:j<D.length:=by rw [HD.out,List.length_reverse,HN.out];exact hlt
      obtain ⟨y,hy⟩:∃ y,D[j]?=some y:=⟨_,List.getElem?_eq_getElem hdj⟩
      have HY:Hid (D[j]?=some y):=hy
      have hy2:l[i]?=some y:=by
        have:=hy
        rw [HD.out,List.getElem?_reverse (by rw [HN.out];exact hlt),HN.out] at this
        rw [show i=n - 1 - j by omega];exact this
      rcases R1.out.val with ⟨_,e⟩|⟨g,o,cap,e,_,_,hg,hcs⟩
      · exact absurd e (by omega)
      injection e with e1 _ e2
      subst e1 e2
      have hcell:=hcs i (.int .i64 (y:Int)) (by rw [List.getElem?_map,hy2];rfl)
      have hcr:wr.cell? ⟨g,o+i,none⟩=some (.int .i64 (y:Int)):=(hB.out.cell (p:=⟨g,o+i,none⟩) hg).trans hcell
      have hgl:g<wr.heap.size:=by omega
      have hgn:¬ g=wr.heap.size:=by omega
      have hqn:¬ w1.heap.size=wr.heap.size:=by omega
      rw [hi]
      have HDJ:Hid (j<D.length):=hdj
      clear hcs hcell hy hy2 hdj
      by_cases h8:j<8
      · have ROW:Hid (wr.ownsRow (w1.heap.size+1) 3 1 (.slice a1 (min j 8) c1) (min j 8) ((D.take (min j 8)).map numV)):=hDB.out.one
        have hm:((min j 8:Nat):Int)<8:=by omega
        have hm2:min (j:Int) 8<8:=by omega
        have hm3:min j 8<8:=by omega
        go_upto_region 9 with fail
        go_region_law (refine step_append_lies _ rfl (.tmp 32) (.tmp 37) 31 rfl (w1.heap.size+1) 3 i0 (.int .i64 0) 1 8 Tryz.underlying31 hi0 hz0 hz1 hz2 rfl (by decide) (.slice a1 (min j 8) c1) (min j 8) ((D.take (min j 8)).map numV) (by simp [Act.eval]) ((ROW.out.drew).alloc _) ⟨wr.heap.size,0,none⟩ 1 1 [.int .i64 (y:Int)] (by simp [Act.eval]) rfl (World.news_of_block (heap_alloc_new _ _)) ?_ (by decide) ?_ ?_ ?_ _ rfl ?_;(intro u hu;simp at hu;subst hu;rfl);(unfold maxLen;omega);omega;(simp;omega);intro g5 cap5 w5 hown hgrow _ _;have O5:Hid (w5.ownsRow (w1.heap.size+1) 3 1 (.slice (some ⟨g5,0,none⟩) ((min j 8)+1) cap5) ((min j 8)+1) ((D.take (min j 8)).map numV++[numV y])):=hown;have G5:Hid ((wr.drew.alloc (.cells #[.int .i64 (y:Int)] 3)).grownBy w5 (Value.ownBlock (.slice a1 (min j 8) c1))):=hgrow;have qd5:w5.heap[w1.heap.size]?=some (.cells #[.slice a1 (min j 8) c1,.slice a2 (j - 8) c2,.slice none 0 0] 47 (0,0)):=(hgrow.block w1.heap.size (by simp;omega) (fun e=>by have:=(ROW.out.lt _ e.symm).1;omega)).trans ((Below.heap_alloc _ _ _ (by simpa using qqL)).trans hDB.out.blk);obtain ⟨q0,q1,q2,qf,qL⟩:=rw3 qd5;clear hown hgrow qd5)
        all_goals go_wp2
        all_goals exact ⟨⟨j+1,_,cap5,none,0,(by rw [show (n:Int) - 1 - ((j+1:Nat):Int)=(i:Int) - 1 by omega]),by omega,hDB.out.put1 (Nat.lt_succ_self _) h8 HY.out O5.out G5.out,DB.bel (N:=0) hB.out hB.out.size (Nat.le_refl _) (Nat.le_succ _) ROW.out G5.out⟩,by simp [intOf]⟩
      · have hm:¬ ((min j 8:Nat):Int)<8:=by omega
        have hm2:¬ min (j:Int) 8<8:=by omega
        have hm3:¬ min j 8<8:=by omega
        obtain ⟨T,hT⟩:=hDB.out.two
        have HT:Hid _:=hT
        have ROW:Hid (wr.ownsRow T 3 1 (.slice a2 (j - 8) c2) (j - 8) (((D.take j).drop 8).map numV)):=hT.2.2.2
        have hT1:=hT.1
        have hT2:=hT.2.1
        clear hT
        go_upto_region 10 with fail
        go_region_law (refine step_append_lies _ rfl (.tmp 41) (.tmp 46) 31 rfl T 3 i0 (.int .i64 0) 1 8 Tryz.underlying31 hi0 hz0 hz1 hz2 rfl (by decide) (.slice a2 (j - 8) c2) (j - 8) (((D.take j).drop 8).map numV) (by simp [Act.eval]) ((ROW.out.drew).alloc _) ⟨wr.heap.size,0,none⟩ 1 1 [.int .i64 (y:Int)] (by simp [Act.eval]) rfl (World.news_of_block (heap_alloc_new _ _)) ?_ (by decide) ?_ ?_ ?_ _ rfl ?_;(intro u hu;simp at hu;subst hu;rfl);(unfold maxLen;omega);omega;(simp;omega);intro g5 cap5 w5 hown hgrow _ _;have O5:Hid (w5.ownsRow T 3 1 (.slice (some ⟨g5,0,none⟩) ((j - 8)+1) cap5) ((j - 8)+1) (((D.take j).drop 8).map numV++[numV y])):=hown;have G5:Hid ((wr.drew.alloc (.cells #[.int .i64 (y:Int)] 3)).grownBy w5 (Value.ownBlock (.slice a2 (j - 8) c2))):=hgrow;have qd5:w5.heap[w1.heap.size]?=some (.cells #[.slice a1 (min j 8) c1,.slice a2 (j - 8) c2,.slice none 0 0] 47 (0,0)):=(hgrow.block w1.heap.size (by simp;omega) (fun e=>by have:=(ROW.out.lt _ e.symm).1;omega)).trans ((Below.heap_alloc _ _ _ (by simpa using qqL)).trans hDB.out.blk);obtain ⟨q0,q1,q2,qf,qL⟩:=rw3 qd5;clear hown hgrow qd5)
        all_goals go_wp2
        all_goals exact ⟨⟨j+1,a1,c1,_,cap5,(by rw [show (n:Int) - 1 - ((j+1:Nat):Int)=(i:Int) - 1 by omega]),by omega,hDB.out.put2 (Nat.lt_succ_self _) h8 HDJ.out HY.out HT.out O5.out G5.out,DB.bel (N:=0) hB.out hB.out.size (Nat.le_refl _) (by omega) ROW.out G5.out⟩,by simp [intOf]⟩
    · have e:j=n:=by omega
      subst e
      have hI:(j:Int) - 1 - (j:Int)=-1:=by omega
      rw [hI]
      have rrn:¬ W.heap.size=w1.heap.size:=by omega
      have rrn2:¬ w1.heap.size=W.heap.size:=by omega
      have rrd2:=kp3 (n:=W.heap.size) hB.out rrL rrB.out
      have RL1:Hid (W.heap.size<w1.heap.size):=rrL
      clear rrB rr0 rr1 rr2 rrf rrL rrN
      obtain ⟨rrB,rr0,rr1,rr2,rrf,rrL,rrN⟩:=rrd2
      have BW:Hid (Below W.heap.size W wr):=bstep B1.out hB.out
      go_wp2_with (go_at_call 46;refine (HCL.out _ BW.out).mono ?_;rintro e w6 ⟨⟨v3,rfl,ho⟩,hb⟩;obtain ⟨a3,c3,rfl⟩:=ownv ho;have C6:Hid (w6.ownsRow wr.heap.size 3 1 (.slice a3 k c3) k (C.map numV)):=ho;have B6:Hid (Below W.heap.size W w6):=bstep BW.out hb;have O1:Hid (w6.ownsRow (w1.heap.size+1) 3 1 (.slice a1 (min j 8) c1) (min j 8) ((D.take (min j 8)).map numV)):=rowBelow hDB.out.one hb;have O2:Hid (w6.ownsRow (w1.heap.size+1) 3 1 (.slice a2 (j - 8) c2) (j - 8) (((D.take j).drop 8).map numV)):=(by obtain ⟨T,t1,t2,t3,t4⟩:=hDB.out.two;exact rowBelow (Go.Joins.ownsRow_le t4 t1) hb);have SZ:Hid (w1.heap.size<wr.heap.size):=qqL;have dd:=kp3 (n:=w1.heap.size) hb qqL hDB.out.blk;clear q0 q1 q2 qf qqL;obtain ⟨qB,q0,q1,q2,qf,qL,qN⟩:=dd;have rrd:=kp3 (n:=W.heap.size) hb rrL rrB.out;clear rrB rr0 rr1 rr2 rrf rrL rrN;obtain ⟨rrB,rr0,rr1,rr2,rrf,rrL,rrN⟩:=rrd;clear hb ho HCL)
      refine bodyPost_ret (v:=.tuple #[.agg #[.slice a1 (min j 8) c1,.slice a2 (j - 8) c2,.slice a3 k c3],.int .i64 0]) (by simp [results,Tryz.results31,go_sem, *]) rfl ⟨⟨_,_,_,rfl,?_,?_,?_⟩,?_⟩
      · rw [show (D.take 8).length=min j 8 by rw [List.length_take,HD.out,List.length_reverse,HN.out];omega,show D.take 8=D.take (min j 8) by rw [show min j 8=min 8 D.length by rw [HD.out,List.length_reverse,HN.out];omega];exact List.take_eq_take_min]
        exact own_rds (own4 O1.out (by have:=RL1.out;omega) (Nat.lt_succ_self _) _ _ _ _)
      · have eD:D.take j=D:=List.take_of_length_le (by rw [HD.out,List.length_reverse,HN.out];exact Nat.le_refl _)
        have o2:=O2.out
        rw [eD] at o2
        rw [show (D.drop 8).length=j - 8 by rw [List.length_drop,HD.out,List.length_reverse,HN.out]]
        exact own_rds (own4 o2 (by have:=RL1.out;omega) (Nat.lt_succ_self _) _ _ _ _)
      · rw [HK.out]
        exact own_rds (own4 C6.out (by have:=RL1.out;have:=SZ.out;omega) SZ.out _ _ _ _)
      · have:=B1.out.size
        exact (((B6.out.setCell (p:=⟨w1.heap.size,2,none⟩) this _).setCell (Nat.le_refl _) _).setCell (Nat.le_refl _) _).setCell (Nat.le_refl _) _
theorem r15b_no (W:World) (b:Nat) (x:Int) (HC:Hid (∀ w,Below W.heap.size W w→Calls Tryz.prog 45 #[.pointer (some ⟨b,0,none⟩),.int .i64 x] w fun e w'=>(e=.returned (.tuple #[.slice none 0 0,.int .i64 3]))∧Below w.heap.size w w')):Calls Tryz.prog 31 #[.pointer (some ⟨b,0,none⟩),.int .i64 x] W fun e w'=>e=.returned (.tuple #[.agg #[.slice none 0 0,.slice none 0 0,.slice none 0 0],.int .i64 3])∧Below W.heap.size W w':=by
  go_enter Tryz.func31,Tryz.ntmps31
  go_wp2_with (go_at_call 45;refine (HC.out _ (by repeat (first|exact Below.refl _ _|refine Below.setCell ?_ (by simp;try omega) _|refine Below.alloc ?_ (by simp;try omega) _|refine Below.drew ?_))).mono ?_;rintro e w1 ⟨rfl,hb⟩;have rrd:=kp3 (n:=W.heap.size) hb (by simp) (halloc1 _ _);obtain ⟨rrB,rr0,rr1,rr2,rrf,rrL,rrN⟩:=rrd;have B1:Hid (Below W.heap.size W w1):=bstep (by repeat (first|exact Below.refl _ _|refine Below.setCell ?_ (by simp;try omega) _|refine Below.alloc ?_ (by simp;try omega) _|refine Below.drew ?_)) hb;clear hb HC)
  exact bodyPost_ret (v:=.tuple #[.agg #[.slice none 0 0,.slice none 0 0,.slice none 0 0],.int .i64 3]) (by simp [results,Tryz.results31,go_sem, *]) rfl ⟨rfl,((B1.out.setCell (Nat.le_refl _) _).setCell (Nat.le_refl _) _).setCell (Nat.le_refl _) _⟩
theorem rds_nil (w:World):Rds w (.slice none 0 0) ([]:List Nat).length 1 (([]:List Nat).map numV):=own_rds (World.ownsRow_nil w 0 3 1)
theorem r15b_c {b:Nat} {cs:List Cls} {ps:List Plc} {W:World} (h:RAt b cs W) (ht:TwW cs ps) (hJ:WJ ps) (x:Int):Calls Tryz.prog 31 #[.pointer (some ⟨b,0,none⟩),.int .i64 x] W fun e w'=>(∃ v1 v2 v3,e=.returned (.tuple #[.agg #[v1,v2,v3],.int .i64 (dspR ps x).2])∧Rds w' v1 (dspR ps x).1.1.length 1 ((dspR ps x).1.1.map numV)∧Rds w' v2 (dspR ps x).1.2.1.length 1 ((dspR ps x).1.2.1.map numV)∧Rds w' v3 (dspR ps x).1.2.2.length 1 ((dspR ps x).1.2.2.map numV))∧Below W.heap.size W w':=by
  rcases plcI_cases ps x with ⟨hn,_⟩|⟨k,q,rfl,hk,hq⟩
  · have e0:dspR ps x=(([],[],[]),3):=by rw [dspR,hn]
    rw [e0]
    refine (r15b_no W b x (fun w hb=>rChain_no6 (h.below hb) ht x hn)).mono ?_
    rintro e w' ⟨rfl,hb⟩
    exact ⟨⟨_,_,_,rfl,rds_nil _,rds_nil _,rds_nil _⟩,hb⟩
  · have e0:dspR ps (k:Int)=(((dnL ps k).take 8,(dnL ps k).drop 8,q.cl),0):=by rw [dspR,hq];rfl
    rw [e0]
    have hd:=dn_le ht.wi (List.getElem?_eq_some_iff.1 hk).1
    rw [dn_len] at hd
    refine r15b_w W b k (chL (ps.map nd) k) (dnL ps k) q.cl _ _ rfl rfl rfl hd (fun w hb=>?_) (fun w hb=>rClosure_yes (h.below hb) ht hJ k q hk)
    have hc:=rChain_r (h.below hb) ht (k:Int)
    rw [chR,hq] at hc
    exact hc
def D3 (P Q C:List Nat) (v1 v2 v3:Value) (w:World):Prop:=Rds w v1 P.length 1 (P.map numV)∧Rds w v2 Q.length 1 (Q.map numV)∧Rds w v3 C.length 1 (C.map numV)
theorem D3.keep {P Q C:List Nat} {v1 v2 v3:Value} {w w':World} (h:D3 P Q C v1 v2 v3 w) (hb:Below w.heap.size w w'):D3 P Q C v1 v2 v3 w':=⟨h.1.keep hb,h.2.1.keep hb,h.2.2.keep hb⟩
theorem rds_form {w:World} {v:Value} {n:Nat} {xs:List Value} (h:Rds w v n 1 xs):∃ a c,v=.slice a n c:=by
  rcases h.val with ⟨rfl,rfl⟩|⟨g,o,cap,rfl,_⟩
  · exact ⟨none,0,rfl⟩
  · exact ⟨_,_,rfl⟩
theorem dsp_len {ps:List Plc} (hW:WI ps) (x:Int):(dspR ps x).1.1.length≤300∧(dspR ps x).1.2.1.length≤300∧(dspR ps x).1.2.2.length≤300:=by
  rcases plcI_cases ps x with ⟨hn,_⟩|⟨k,q,rfl,hk,hq⟩
  · have e0:dspR ps x=(([],[],[]),3):=by rw [dspR,hn]
    rw [e0];exact ⟨Nat.zero_le _,Nat.zero_le _,Nat.zero_le _⟩
  · have e0:dspR ps (k:Int)=(((dnL ps k).take 8,(dnL ps k).drop 8,q.cl),0):=by rw [dspR,hq];rfl
    have hd:=dn_le hW (List.getElem?_eq_some_iff.1 hk).1
    rw [e0]
    exact ⟨by simp only [List.length_take];omega,by simp only [List.length_drop];omega,cl_len hW hk⟩
set_option maxHeartbeats 8000000 in
theorem builds_w (ps:List Plc) (cs:List Cls) (W:World) (v:Value) (x E M:Int) (P Q C:List Nat) (HB:Hid (∀ w:World,Below W.heap.size W w→Calls Tryz.prog 16 #[v] w fun e w'=>(∃ b,e=.returned (.pointer (some ⟨b,0,none⟩))∧WAt b ps w')∧Below w.heap.size w w')) (HO:Hid (∀ w:World,Below W.heap.size W w→Calls Tryz.prog 30 #[v] w fun e w'=>(∃ b,e=.returned (.pointer (some ⟨b,0,none⟩))∧RAt b cs w')∧Below w.heap.size w w')) (HD:Hid (∀ b w,WAt b ps w→Calls Tryz.prog 24 #[.pointer (some ⟨b,0,none⟩),.int .i64 x] w fun e w'=>(∃ a1 c1 a2 c2 a3 c3,e=.returned (.tuple #[.agg #[.slice a1 P.length c1,.slice a2 Q.length c2,.slice a3 C.length c3],.int .i64 E])∧D3 P Q C (.slice a1 P.length c1) (.slice a2 Q.length c2) (.slice a3 C.length c3) w')∧Below w.heap.size w w')) (HE:Hid (∀ b w,RAt b cs w→Calls Tryz.prog 31 #[.pointer (some ⟨b,0,none⟩),.int .i64 x] w fun e w'=>(∃ a1 c1 a2 c2 a3 c3,e=.returned (.tuple #[.agg #[.slice a1 P.length c1,.slice a2 Q.length c2,.slice a3 C.length c3],.int .i64 E])∧D3 P Q C (.slice a1 P.length c1) (.slice a2 Q.length c2) (.slice a3 C.length c3) w')∧Below w.heap.size w w')) (HF:Hid (∀ b w,WAt b ps w→Calls Tryz.prog 32 #[.pointer (some ⟨b,0,none⟩)] w fun e w'=>(e=.returned (.tuple #[.int .i64 M,.int .i64 0]))∧Below w.heap.size w w')) (HG:Hid (∀ b w,RAt b cs w→Calls Tryz.prog 34 #[.pointer (some ⟨b,0,none⟩)] w fun e w'=>(e=.returned (.int .i64 M))∧Below w.heap.size w w')) (HS:Hid (∀ u1 u2 u3 v1 v2 v3 w,D3 P Q C u1 u2 u3 w→D3 P Q C v1 v2 v3 w→Calls Tryz.prog 33 #[.agg #[u1,u2,u3],.agg #[v1,v2,v3]] w fun e w'=>e=.returned (.bool true)∧Below w.heap.size w w')) :
    Calls Tryz.prog 6 #[v,.int .i64 x] W fun e w'=>e=.returned (.bool true)∧Below W.heap.size W w':=by
  have HA:Hid (∀ w:World,Calls Tryz.prog 15 #[] w fun e w'=>e=.returned (.bool true)∧Below w.heap.size w w'):=awake15_c
  have BB:Hid (Below W.heap.size W W):=Below.refl _ _
  go_enter Tryz.func6,Tryz.ntmps6
  go_wp2_with (first
    | (go_at_call 15;refine (HA.out _).mono ?_;rintro e w1 ⟨rfl,hb⟩;have BB2:Below W.heap.size W w1:=bstep (by repeat (first|refine Below.setCell ?_ (by simp;try omega) _|refine Below.alloc ?_ (by have:=BB.out.size;simp;try omega) _|refine Below.drew ?_|exact BB.out)) hb;clear BB;have BB:Hid (Below W.heap.size W w1):=BB2;clear BB2;clear hb HA)
    | (go_at_call 16;refine (HB.out _ BB.out).mono ?_;rintro e w2 ⟨⟨b,rfl,hw⟩,hb⟩;have HH:Hid (WAt b ps w2):=hw;have BB2:Below W.heap.size W w2:=bstep (by repeat (first|refine Below.setCell ?_ (by simp;try omega) _|refine Below.alloc ?_ (by have:=BB.out.size;simp;try omega) _|refine Below.drew ?_|exact BB.out)) hb;clear BB;have BB:Hid (Below W.heap.size W w2):=BB2;clear BB2;clear hb HB hw)
    | (go_at_call 30;refine (HO.out _ (by repeat (first|refine Below.setCell ?_ (by simp;try omega) _|refine Below.alloc ?_ (by have:=BB.out.size;simp;try omega) _|refine Below.drew ?_|exact BB.out))).mono ?_;rintro e w3 ⟨⟨bx,rfl,hw⟩,hb⟩;have HR:Hid (RAt bx cs w3):=hw;have BB2:Below W.heap.size W w3:=bstep (by repeat (first|refine Below.setCell ?_ (by simp;try omega) _|refine Below.alloc ?_ (by have:=BB.out.size;simp;try omega) _|refine Below.drew ?_|exact BB.out)) hb;clear BB;have BB:Hid (Below W.heap.size W w3):=BB2;clear BB2;have HH2:=HH.out.below hb;clear HH;have HH:Hid (WAt b ps w3):=HH2;clear HH2;clear hb HO hw)
    | (go_at_call 24;refine (HD.out _ _ HH.out).mono ?_;rintro e w4 ⟨⟨a1,c1,a2,c2,a3,c3,rfl,ho⟩,hb⟩;have RU:Hid (D3 P Q C (.slice a1 P.length c1) (.slice a2 Q.length c2) (.slice a3 C.length c3) w4):=ho;have BB2:Below W.heap.size W w4:=bstep (by repeat (first|refine Below.setCell ?_ (by simp;try omega) _|refine Below.alloc ?_ (by have:=BB.out.size;simp;try omega) _|refine Below.drew ?_|exact BB.out)) hb;clear BB;have BB:Hid (Below W.heap.size W w4):=BB2;clear BB2;have HH2:=HH.out.below hb;clear HH;have HH:Hid (WAt b ps w4):=HH2;clear HH2;have HR2:=HR.out.below hb;clear HR;have HR:Hid (RAt bx cs w4):=HR2;clear HR2;clear hb HD ho)
    | (go_at_call 31;refine (HE.out _ _ (HR.out.below (by repeat (first|refine Below.setCell ?_ (by simp;try omega) _|refine Below.alloc ?_ (by simp;try omega) _|refine Below.drew ?_|exact Below.refl _ _)))).mono ?_;rintro e w5 ⟨⟨b1,d1,b2,d2,b3,d3,rfl,ho⟩,hb⟩;have RV:Hid (D3 P Q C (.slice b1 P.length d1) (.slice b2 Q.length d2) (.slice b3 C.length d3) w5):=ho;have RU2:=(RU.out.keep (by repeat (first|refine Below.setCell ?_ (by simp;try omega) _|refine Below.alloc ?_ (by simp;try omega) _|refine Below.drew ?_|exact Below.refl _ _))).keep hb;(try clear RU);have RU:Hid (D3 P Q C (.slice a1 P.length c1) (.slice a2 Q.length c2) (.slice a3 C.length c3) w5):=RU2;clear RU2;have uud:=kp3 (n:=w4.heap.size) hb (by first|omega|(simp;try omega)) (halloc1 _ _);(try clear uuB uu0 uu1 uu2 uuf uuL uuN);obtain ⟨uuB,uu0,uu1,uu2,uuf,uuL,uuN⟩:=uud;have BB2:Below W.heap.size W w5:=bstep (by repeat (first|refine Below.setCell ?_ (by simp;try omega) _|refine Below.alloc ?_ (by have:=BB.out.size;simp;try omega) _|refine Below.drew ?_|exact BB.out)) hb;clear BB;have BB:Hid (Below W.heap.size W w5):=BB2;clear BB2;have HH2:=(HH.out.below (by repeat (first|refine Below.setCell ?_ (by simp;try omega) _|refine Below.alloc ?_ (by simp;try omega) _|refine Below.drew ?_|exact Below.refl _ _))).below hb;clear HH;have HH:Hid (WAt b ps w5):=HH2;clear HH2;have HR2:=(HR.out.below (by repeat (first|refine Below.setCell ?_ (by simp;try omega) _|refine Below.alloc ?_ (by simp;try omega) _|refine Below.drew ?_|exact Below.refl _ _))).below hb;clear HR;have HR:Hid (RAt bx cs w5):=HR2;clear HR2;clear hb HE ho)
    | (go_at_call 32;refine (HF.out _ _ (HH.out.below (by repeat (first|refine Below.setCell ?_ (by simp;try omega) _|refine Below.alloc ?_ (by simp;try omega) _|refine Below.drew ?_|exact Below.refl _ _)))).mono ?_;rintro e w6 ⟨rfl,hb⟩;have RU2:=(RU.out.keep (by repeat (first|refine Below.setCell ?_ (by simp;try omega) _|refine Below.alloc ?_ (by simp;try omega) _|refine Below.drew ?_|exact Below.refl _ _))).keep hb;(try clear RU);have RU:Hid (D3 P Q C (.slice a1 P.length c1) (.slice a2 Q.length c2) (.slice a3 C.length c3) w6):=RU2;clear RU2;have RV2:=(RV.out.keep (by repeat (first|refine Below.setCell ?_ (by simp;try omega) _|refine Below.alloc ?_ (by simp;try omega) _|refine Below.drew ?_|exact Below.refl _ _))).keep hb;(try clear RV);have RV:Hid (D3 P Q C (.slice b1 P.length d1) (.slice b2 Q.length d2) (.slice b3 C.length d3) w6):=RV2;clear RV2;have uud:=kp3 (n:=w4.heap.size) hb (by first|omega|(simp;try omega)) (hkeep uuB.out);(try clear uuB uu0 uu1 uu2 uuf uuL uuN);obtain ⟨uuB,uu0,uu1,uu2,uuf,uuL,uuN⟩:=uud;have vvd:=kp3 (n:=w5.heap.size) hb (by first|omega|(simp;try omega)) (halloc1 _ _);(try clear vvB vv0 vv1 vv2 vvf vvL vvN);obtain ⟨vvB,vv0,vv1,vv2,vvf,vvL,vvN⟩:=vvd;have BB2:Below W.heap.size W w6:=bstep (by repeat (first|refine Below.setCell ?_ (by simp;try omega) _|refine Below.alloc ?_ (by have:=BB.out.size;simp;try omega) _|refine Below.drew ?_|exact BB.out)) hb;clear BB;have BB:Hid (Below W.heap.size W w6):=BB2;clear BB2;have HH2:=(HH.out.below (by repeat (first|refine Below.setCell ?_ (by simp;try omega) _|refine Below.alloc ?_ (by simp;try omega) _|refine Below.drew ?_|exact Below.refl _ _))).below hb;clear HH;have HH:Hid (WAt b ps w6):=HH2;clear HH2;have HR2:=(HR.out.below (by repeat (first|refine Below.setCell ?_ (by simp;try omega) _|refine Below.alloc ?_ (by simp;try omega) _|refine Below.drew ?_|exact Below.refl _ _))).below hb;clear HR;have HR:Hid (RAt bx cs w6):=HR2;clear HR2;clear hb HF)
    | (go_at_call 33;refine (HS.out _ _ _ _ _ _ _ RU.out RV.out).mono ?_;rintro e w7 ⟨rfl,hb⟩;have BB2:Below W.heap.size W w7:=bstep (by repeat (first|refine Below.setCell ?_ (by simp;try omega) _|refine Below.alloc ?_ (by have:=BB.out.size;simp;try omega) _|refine Below.drew ?_|exact BB.out)) hb;clear BB;have BB:Hid (Below W.heap.size W w7):=BB2;clear BB2;have HH2:=HH.out.below hb;clear HH;have HH:Hid (WAt b ps w7):=HH2;clear HH2;have HR2:=HR.out.below hb;clear HR;have HR:Hid (RAt bx cs w7):=HR2;clear HR2;clear hb HS)
    | (go_at_call 34;refine (HG.out _ _ HR.out).mono ?_;rintro e w8 ⟨rfl,hb⟩;have BB2:Below W.heap.size W w8:=bstep (by repeat (first|refine Below.setCell ?_ (by simp;try omega) _|refine Below.alloc ?_ (by have:=BB.out.size;simp;try omega) _|refine Below.drew ?_|exact BB.out)) hb;clear BB;have BB:Hid (Below W.heap.size W w8):=BB2;clear BB2;have HR2:=HR.out.below hb;clear HR;have HR:Hid (RAt bx cs w8):=HR2;clear HR2;clear hb HG))
  all_goals go_ret
  all_goals exact ⟨retB (by simp [*]),(by repeat (first|refine Below.setCell ?_ (by simp;try omega) _|refine Below.alloc ?_ (by have:=BB.out.size;simp;try omega) _|refine Below.drew ?_|exact BB.out))⟩
theorem DisplayBuilds_any (v:Value) (l:List Cls) (x:Int) (W:World) (h:IsClss W v l):Calls Tryz.prog 6 #[v,.int .i64 x] W fun e w'=>e=.returned (.bool true)∧Below W.heap.size W w':=by
  have ht:TwW (wldC l) (wld l):=twW l (clss_w h)
  have hJ:WJ (wld l):=(wld_wj l (clss_w h)).2
  obtain ⟨l1,l2,l3⟩:=dsp_len ht.wi x
  refine builds_w (wld l) (wldC l) W v x (dspR (wld l) x).2 (mxD (wld l) (wld l).length) (dspR (wld l) x).1.1 (dspR (wld l) x).1.2.1 (dspR (wld l) x).1.2.2 (fun w hb=>built15_c v l w (clss_kp h hb)) (fun w hb=>of_c v l w (clss_kp h hb)) (fun b w hw=>?_) (fun b w hw=>?_) (fun b w hw=>dps_c hw ht.wi) (fun b w hw=>r15d_c hw ht) (fun u1 u2 u3 v1 v2 v3 w h1 h2=>r15s_c _ _ _ u1 u2 u3 v1 v2 v3 w h1.1 h1.2.1 h1.2.2 h2.1 h2.2.1 h2.2.2 (by omega) (by omega) (by omega))
  · refine (dbl_c hw ht.wi x).mono ?_
    rintro e w' ⟨⟨v1,v2,v3,rfl,ho⟩,hb⟩
    obtain ⟨r1,r2,r3⟩:=ho.rows
    obtain ⟨a1,c1,rfl⟩:=ownv r1
    obtain ⟨a2,c2,rfl⟩:=ownv r2
    obtain ⟨a3,c3,rfl⟩:=ownv r3
    exact ⟨⟨a1,c1,a2,c2,a3,c3,rfl,own_rds r1,own_rds r2,own_rds r3⟩,hb⟩
  · refine (r15b_c hw ht hJ x).mono ?_
    rintro e w' ⟨⟨v1,v2,v3,rfl,r1,r2,r3⟩,hb⟩
    obtain ⟨a1,c1,rfl⟩:=rds_form r1
    obtain ⟨a2,c2,rfl⟩:=rds_form r2
    obtain ⟨a3,c3,rfl⟩:=rds_form r3
    exact ⟨⟨a1,c1,a2,c2,a3,c3,rfl,r1,r2,r3⟩,hb⟩
end Go.Proofs.YtkclpcmkplbclaaGreat
