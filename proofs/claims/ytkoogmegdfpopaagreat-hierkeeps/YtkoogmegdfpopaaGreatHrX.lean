import Derived.Test.YtkoogmegdfpopaaGreatHrZ
import Derived.RangeFuncNested
import Derived.RangeFuncBound
import Derived.Shelf.RegionOpen
import Derived.OwnWalkIn
import Derived.LoopNIn
import Derived.LoopIn
set_option maxHeartbeats 2000000
set_option maxRecDepth 100000
namespace Go.Proofs.YtkoogmegdfpopaaGreat
open Go.RowKit Go.Shelf
attribute [local go_sem] Oper.semAt_some
theorem Zf5 (b:Nat) (k:Int) (w:World):Calls Tryz.prog 43 #[.pointer (some ⟨b,0,none⟩),.int .i64 k] w fun e w' =>
 e=.returned (.func (.func 67) #[] #[.pointer (some ⟨w.heap.size+1,0,none⟩),.pointer (some ⟨w.heap.size,0,none⟩)]) ∧
  w'=(w.alloc (.cells #[.pointer (some ⟨b,0,none⟩)] 24)).alloc (.cells #[.int .i64 k] 3):=by
 go_enter Tryz.func43,Tryz.ntmps43
 go_wp2
 go_ret
 exact ⟨rfl,rfl⟩
theorem Zf2 {c:Code} {n:Nat} {P:Program} {Q:Exit→Act→World→Prop} {a:Act} {w:World} (h:c.wpIn Fence.wide n P (Exit.noGoto Q) a w):(Code.scope c).wpIn Fence.wide n P Q a w:=wpIn_wide.2 (wp_scope_straight (wpIn_wide.1 h))
theorem ch_len {ns:List Nd} (h:WO ns) (a:Nat) (ha:a<ns.length):(chL ns a).length≤a+1:=by
 refine ch_ind h (P:=fun a=>(chL ns a).length≤a+1) (by simp [Zab]) ?_ a ha
 intro k hk h0 hl ih
 rw [Zac h hk h0,List.length_cons];omega
theorem nd_at {ps:List Plc} {k:Nat} {q:Plc} (h:ps[k]?=some q):(ps.map nd)[k]?=some (nd q):=by rw [List.getElem?_map,h];rfl
theorem spO_at {ps:List Plc} {k:Nat} {q:Plc} (h:ps[k]?=some q):spO (ps.map nd) k=q.sp:=by rw [spO,nd_at h];rfl
def KpU (n₀ bw:Nat) (W W':World):Prop:=Below n₀ W W'∧W'.heap[bw]?=W.heap[bw]?
theorem up_in (n:Nat) (hn:1≤n) (l bi bw n₀ N b mb:Nat) (ps:List Plc) (vp:Value) (pv:List PV) (k:Nat) (hk:k<ps.length) (hwo:WO (ps.map nd)) (J Jx:List Nat→World→Prop)
 (hY:∀ (pre:List Nat) (x:Nat) (W:World),J pre W→pre.length<ps.length→YieldAt Fence.wide (n - 1) Tryz.prog l #[.int .i64 (x:Int)] W fun e W' =>
  (e=.returned (.bool true)∧J (pre++[x]) W'∧KpU n₀ bw W W')∨(e=.returned (.bool false)∧Jx (pre++[x]) W'))
 (W:World) (hbi:W.cell? ⟨bi,0,none⟩=some (.int .i64 (k:Int))) (hbw:W.heap[bw]?=some (.cells #[.pointer (some ⟨b,0,none⟩)] 24 (0,0))) (hW:∀ w,Below n₀ W w→HW w N b mb ps vp pv) (h0:J [] W) :
 CallsIn Fence.wide n Tryz.prog 67 #[.func (.yield l) #[] #[],.pointer (some ⟨bi,0,none⟩),.pointer (some ⟨bw,0,none⟩)] W fun e W'=>(∃ v,e=.returned v) ∧
  ((∃ ys,ys=chL (ps.map nd) k∧J ys W')∨(∃ pre,pre <+: chL (ps.map nd) k∧Jx pre W')):=by
 refine callsIn_of_wp Tryz.func67 rfl trivial ?_ rfl
 simp only [Tryz.ntmps67,List.size_toArray,List.length_cons,List.length_nil,Nat.reduceAdd,Nat.reduceSub,Array.replicate_succ,Array.replicate_zero,List.push_toArray,List.append_toArray,List.nil_append,List.cons_append]
 gi_wp2
 refine Zf2 ?_
 gi_wp2
 refine wpIn_label ?_
 gi_wp2
 gi_loopw [4] (fun p wr=>∃ (j:Nat) (pre:List Nat),p=.int .i64 (j:Int)∧j<ps.length∧Hid (chL (ps.map nd) k=pre++chL (ps.map nd) j)∧KpU n₀ bw W wr∧J pre wr) (fun p _=>(intOf p).toNat)
 case atStart=>exact ⟨k,[],rfl,hk,rfl,⟨Below.refl _ _,rfl⟩,h0⟩
 case round =>
  obtain ⟨j,pre,rfl,hj,hch,hkp,hJ⟩:=hrel
  have hml:(ps.map nd).length=ps.length:=List.length_map _
  have hlen:pre.length<ps.length:=by
   have h1:=ch_len hwo k (by rw [hml];exact hk)
   rw [hch.out,List.length_append] at h1
   have h2:=ch_pos (ns:=ps.map nd) j
   omega
  obtain ⟨fn,tmps,assign,body,hy,hR⟩:=hY pre j wr hJ hlen
  have hpre:Hid (pre++[j] <+: chL (ps.map nd) k):=by
   by_cases hz:j=0
   ·subst hz;rw [Hid,hch.out,Zab];exact List.prefix_refl _
   ·rw [Hid,hch.out,Zac hwo (by rw [hml];exact hj) (by omega)]
    exact ⟨chL (ps.map nd) (spO (ps.map nd) j),by simp⟩
  by_cases hz:j=0
  ·subst hz
   have hall:Hid (pre++[0]=chL (ps.map nd) k):=by rw [Hid,hch.out,Zab]
   rw [show ((0:Nat):Int)=0 from rfl] at hy
   clear hch hkp hJ hY h0 hbi hbw hW
   gi_wp2
   refine hR.mono ?_
   rintro e W3 (⟨rfl,hJ3,_⟩|⟨rfl,hJx3⟩)
   ·gi_wp2
    rw [Exit.noGoto_normal]
    go_end0
    exact ⟨⟨_,rfl⟩,.inl ⟨_,hall.out,hJ3⟩⟩
   ·gi_wp2
    rw [Exit.noGoto_normal]
    go_end0
    exact ⟨⟨_,rfl⟩,.inr ⟨_,hpre.out,hJx3⟩⟩
  ·obtain ⟨q,hq⟩:∃ q,ps[j]?=some q:=⟨_,List.getElem?_eq_getElem hj⟩
   have hsp:=hwo.spLt (by rw [hml];exact hj) (show 0<j by omega)
   rw [spO_at hq] at hsp
   have hnext:Hid (chL (ps.map nd) k=(pre++[j])++chL (ps.map nd) q.sp):=by
    rw [Hid,hch.out,Zac hwo (by rw [hml];exact hj) (by omega),spO_at hq];simp
   have hz2:¬ (j:Int)=0:=by omega
   have HCC:Hid (∀ W3:World,Below n₀ W W3→∃ (g cap:Nat),W3.cell? ⟨b,0,none⟩=some (.slice (some ⟨g,0,none⟩) ps.length cap)∧W3.cell? ⟨g,j * 8+6,none⟩=some (.int .i64 (q.sp:Int))):=fun W3 hb=>by
    have h:=hW W3 hb
    obtain ⟨g,cap,p,rfl,hpl,hcell⟩:=h.at hq
    have b0:=cell_of_row W3 b 0 _ _ _ h.hb
    simp only [List.getElem?_toArray,List.getElem?_cons_zero] at b0
    exact ⟨g,cap,b0,by rw [← hpl.sp];exact hcell 6 (by omega)⟩
   have HBW:Hid (wr.heap[bw]?=some (.cells #[.pointer (some ⟨b,0,none⟩)] 24 (0,0))):=hkp.2.trans hbw
   have HKP:Hid (KpU n₀ bw W wr):=hkp
   have hjI:(j:Int)<(ps.length:Int):=by omega
   clear hch hkp hJ hY h0 hbi hbw hW
   gi_wp2
   refine hR.mono ?_
   rintro e W3 (⟨rfl,hJ3,hk3⟩|⟨rfl,hJx3⟩)
   ·have hw3:=hk3.2.trans HBW.out
    have c0:=cell_of_row W3 bw 0 _ _ _ hw3
    simp only [List.getElem?_toArray,List.getElem?_cons_zero] at c0
    obtain ⟨g,cap,b0,g6⟩:=HCC.out W3 (HKP.out.1.trans hk3.1)
    have K3:Hid (KpU n₀ bw W W3):=⟨HKP.out.1.trans hk3.1,hk3.2.trans HKP.out.2⟩
    clear hw3 hk3
    gi_wp2
    go_roundw
    case rel=>exact ⟨q.sp,pre++[j],rfl,by omega,hnext,K3.out,hJ3⟩
    case measure=>simp [intOf];omega
   ·gi_wp2
    rw [Exit.noGoto_normal]
    go_end0
    exact ⟨⟨_,rfl⟩,.inr ⟨_,hpre.out,hJx3⟩⟩
theorem kpU_t {n₀ bw:Nat} {A B C:World} (h:KpU n₀ bw A B) (k:KpU n₀ bw B C):KpU n₀ bw A C:=⟨h.1.trans k.1,k.2.trans h.2⟩
theorem kpU_b {n₀ bw:Nat} {w:World} (hn:n₀≤w.heap.size) (hb:bw<w.heap.size) (W:World) (l:Nat) (o o':Obj) (hl:w.heap.size≤l) (h1:W.heap[l]?=some o) (h2:o.isCells=false) (h3:o.isWalk=false):KpU n₀ bw W (W.putObj l o') :=
 ⟨belowK_b (w:=w) hn W l o o' hl h1 h2 h3,World.putObj_heap_other (by omega)⟩
theorem up_stops (n:Nat) (hn:1≤n) (bi bw n₀ N b mb:Nat) (ps:List Plc) (vp:Value) (pv:List PV) (k:Nat) (hk:k<ps.length) (hwo:WO (ps.map nd)) (w:World) (hbi:bi<w.heap.size) (hn₀:n₀≤w.heap.size)
 (hci:w.cell? ⟨bi,0,none⟩=some (.int .i64 (k:Int))) (hbw:w.heap[bw]?=some (.cells #[.pointer (some ⟨b,0,none⟩)] 24 (0,0))) (hW:∀ w',Below n₀ w w'→HW w' N b mb ps vp pv) :
 SeqStopsK Fence.wide n Tryz.prog 67 #[.pointer (some ⟨bi,0,none⟩),.pointer (some ⟨bw,0,none⟩)] (fun x:Nat=>#[Value.int .i64 (x:Int)]) (KpU n₀ bw) (fun ys=>ys=chL (ps.map nd) k) (fun pre=>pre <+: chL (ps.map nd) k) ps.length w:=fun l J Jx W hB _ _ hY h0 =>
 up_in n hn l bi bw n₀ N b mb ps vp pv k hk hwo J Jx hY W ((hB.cell (p:=⟨bi,0,none⟩) hbi).trans hci) ((hB.block bw (Array.getElem?_eq_some_iff.1 hbw).1).trans hbw) (fun w' hb=>hW w' ((hB.mono hn₀).trans hb)) h0
theorem cell_box {W:World} {B:Nat} {v:Value} {t:TypeId} (h:W.heap[B]?=some (.cells #[v] t (0,0))):W.cell? ⟨B,0,none⟩=some v∧W.frozen? ⟨B,0,none⟩=false:=by
 constructor <;> simp [World.cell?,World.frozen?,h]
theorem Zec {W:World} {B:Nat} {o:Obj} (o':Obj) (h:W.heap[B]?=some o):(W.alloc o').heap[B]?=some o:=(Below.heap_alloc W o' B (Array.getElem?_eq_some_iff.1 h).1).trans h
attribute [local go_sem] Oper.semAt_some
attribute [local go_sem] Oper.semAt_some
theorem Zcx (bi bw N b mb:Nat) (ps:List Plc) (vp:Value) (pv:List PV) (k:Nat) (hk:k<ps.length) (hwo:WO (ps.map nd)) (hn:ps.length≤300) (w:World) (h:HW w N b mb ps vp pv)
 (hbi:w.heap[bi]?=some (.cells #[.int .i64 (k:Int)] 3 (0,0))) (hbw:w.heap[bw]?=some (.cells #[.pointer (some ⟨b,0,none⟩)] 24 (0,0))) :
 Calls Tryz.prog 66 #[.slice none 0 0,.func (.func 67) #[] #[.pointer (some ⟨bi,0,none⟩),.pointer (some ⟨bw,0,none⟩)]] w fun e W'=>∃ v,e=.returned v∧W'.ownsRow w.heap.size 3 1 v (chL (ps.map nd) k).length ((chL (ps.map nd) k).map numV)∧Bw w W':=by
 obtain ⟨i0,hi,hz0,hz1,hz2⟩:=info_parts Tryz.hinfo3
 have hbil:=(Array.getElem?_eq_some_iff.1 hbi).1
 have hbwl:=(Array.getElem?_eq_some_iff.1 hbw).1
 refine (callsIn_wide (n:=9)).1 ?_
 refine callsIn_of_wp_marks Tryz.func66 rfl trivial ?_ rfl
 simp only [Tryz.ntmps66,List.size_toArray,List.length_cons,List.length_nil,Nat.reduceAdd,Nat.reduceSub,Array.replicate_succ,Array.replicate_zero,List.push_toArray,List.append_toArray,List.nil_append,List.cons_append]
 gi_wp2
 have bO:=Boxed.new w 57 (.slice none 0 0)
 have hB0:Bw w (w.alloc (.cells #[.slice none 0 0] 57)):=(Below.refl _ w).alloc (Nat.le_refl _) _
 have d1:(w.alloc (.cells #[.slice none 0 0] 57)).heap[bi]?=some (.cells #[.int .i64 (k:Int)] 3 (0,0)):=Zec _ hbi
 have d2:(w.alloc (.cells #[.slice none 0 0] 57)).heap[bw]?=some (.cells #[.pointer (some ⟨b,0,none⟩)] 24 (0,0)):=Zec _ hbw
 have hz:(w.alloc (.cells #[.slice none 0 0] 57)).heap.size=w.heap.size+1:=by simp
 generalize w.alloc (.cells #[.slice none 0 0] 57)=W0 at *
 refine wpIn_rangeFunc_ownG rfl (by decide) (gf:=67) (lb:=#[.pointer (some ⟨bi,0,none⟩),.pointer (some ⟨bw,0,none⟩)]) rfl trivial (enters_of Tryz.func67 (by kernel_rfl) rfl)
  (up_stops 8 (by decide) bi bw w.heap.size N b mb ps vp pv k hk hwo W0 (by rw [hz];omega) hB0.size (cell_box d1).1 d2 (fun w' hb=>h.below (hB0.trans hb))) kpU_t (kpU_b hB0.size (by rw [hz];omega)) (Below.refl _ _) (fun _=>rfl)
  (fun pre W=>(∃ v,Boxed W w.heap.size 57 v∧W.ownsRow w.heap.size 3 1 v pre.length (pre.map numV)∧(v=.slice none 0 0↔pre=[]))∧Bw w W)
  (fun _ _ _=>False)
  (OwnFrom.and (Own.from (holdsRow_own w.heap.size w.heap.size 57 3 1 (fun pre=>pre.length) (fun pre=>pre.map numV) (fun pre v=>v=.slice none 0 0↔pre=[])) _) (ownFrom_below (Nat.le_refl _) (by rw [hz];omega)))
  (fun _ _ _ _ _ hs _ _=>hs)
  ⟨⟨_,bO,World.ownsRow_nil _ _ _ _,by simp⟩,hB0⟩
  (fun x=>{ tmps:=#[.slice none 0 0,.func (.func 67) #[] #[.pointer (some ⟨bi,0,none⟩),.pointer (some ⟨bw,0,none⟩)],.pointer (some ⟨w.heap.size,0,none⟩),undef,.slice none 0 0,.int .i64 (x:Int),.func (.func 67) #[] #[.pointer (some ⟨bi,0,none⟩),.pointer (some ⟨bw,0,none⟩)],.int .i64 (x:Int),undef,undef,undef,undef,undef],defers:=[] }) ?assign ?body ?done ?stop
 case assign =>
  intro l x W K hK
  gi_wp2
  exact hK
 case body =>
  rintro l pre x W ⟨⟨v,hv,hrow,hnil⟩,hB⟩ hlt
  have hc:=hv.cell
  gi_wp2_with (gi_at_builtin;refine wpListIn_append_own _ rfl _ _ 57 rfl w.heap.size 3 i0 (.int .i64 0) 1 8 Tryz.underlying57 hi hz0 hz1 hz2 rfl (by decide) _ _ _ rfl (hrow.alloc _) ⟨W.heap.size,0,none⟩ 1 1 [.int .i64 (x:Int)] rfl rfl (cell_one_new _ _ _) (by simp [Value.oneCell']) (by unfold maxLen;omega) (by omega) (by have:=hB.size;simp;omega) ?_;intro v' w1 hown' hgrow _;obtain ⟨g',cap',rfl⟩:=ownsRow_succ hown';obtain ⟨hv1,hv2,hr2,hk2,hb2⟩:=hv.appended (by decide) hrow hB.size (Nat.le_refl _) hown' hgrow;have hc1:=hv1.cell;have hf1:=hv1.frozen)
  exact ⟨hk2.from _,⟨hb2,hb2.block bw hbwl⟩,⟨_,hv2,by simpa [numV] using hr2,by simp⟩,hB.trans hb2⟩
 case done =>
  rintro D ys W hD rfl ⟨⟨v,hv,hrow,hnil⟩,hB⟩ hK
  have hc:=hv.cell
  gi_wp2
  refine ⟨by simp,.inl ⟨_,_,rfl,run_takeDeferred hK,?_⟩⟩
  exact ⟨_,results_tmp rfl _ _ _,v,rfl,ownsRow_putObj hrow _ hK rfl,hB.trans (belowK_b (w:=w) (Nat.le_refl _) W D _ _ (by omega) hK rfl rfl)⟩
 case stop =>
  rintro D c pre W _ _ h _
  exact h.elim
theorem Ze3 (bi bw N b mb:Nat) (ps:List Plc) (vp:Value) (pv:List PV) (k:Nat) (hk:k<ps.length) (hwo:WO (ps.map nd)) (hn:ps.length≤300) (w:World) (h:HW w N b mb ps vp pv)
 (hbi:w.heap[bi]?=some (.cells #[.int .i64 (k:Int)] 3 (0,0))) (hbw:w.heap[bw]?=some (.cells #[.pointer (some ⟨b,0,none⟩)] 24 (0,0))) :
 Calls Tryz.prog 42 #[.func (.func 67) #[] #[.pointer (some ⟨bi,0,none⟩),.pointer (some ⟨bw,0,none⟩)]] w fun e W'=>∃ v,e=.returned v∧W'.ownsRow w.heap.size 3 1 v (chL (ps.map nd) k).length ((chL (ps.map nd) k).map numV)∧Bw w W':=by
 have HA:Hid (Calls Tryz.prog 66 #[.slice none 0 0,.func (.func 67) #[] #[.pointer (some ⟨bi,0,none⟩),.pointer (some ⟨bw,0,none⟩)]] w fun e W'=>∃ v,e=.returned v∧W'.ownsRow w.heap.size 3 1 v (chL (ps.map nd) k).length ((chL (ps.map nd) k).map numV)∧Bw w W'):=Zcx bi bw N b mb ps vp pv k hk hwo hn w h hbi hbw
 clear h hbi hbw
 go_enter Tryz.func42,Tryz.ntmps42
 go_wp2_with (go_at_call 66;refine HA.out.mono ?_;rintro e w1 ⟨v,rfl,hown,hb⟩;obtain ⟨a1,c1,rfl⟩:=ownv hown;have O1:Hid (w1.ownsRow w.heap.size 3 1 (.slice a1 (chL (ps.map nd) k).length c1) (chL (ps.map nd) k).length ((chL (ps.map nd) k).map numV)):=hown;have B1:Hid (Bw w w1):=hb;clear hown hb HA)
 exact bodyPost_ret (v:=.slice a1 (chL (ps.map nd) k).length c1) (by simp [results,Tryz.results42,go_sem]) rfl ⟨_,rfl,O1.out,B1.out⟩
theorem Zi4 (N b mb:Nat) (ps:List Plc) (vp:Value) (pv:List PV) (k:Nat) (hk:k<ps.length) (hwo:WO (ps.map nd)) (hn:ps.length≤300) (w:World) (h:HW w N b mb ps vp pv) :
 Calls Tryz.prog 17 #[.pointer (some ⟨b,0,none⟩),.int .i64 (k:Int)] w fun e W'=>∃ v,e=.returned (.tuple #[v,.int .i64 0])∧W'.ownsRow w.heap.size 3 1 v (chL (ps.map nd) k).length ((chL (ps.map nd) k).map numV)∧Bw w W':=by
 have HX:Hid (Calls Tryz.prog 36 #[.pointer (some ⟨b,0,none⟩),.int .i64 (k:Int)] w fun e w'=>e=.returned (.bool true)∧w'=w):=Zaq h k hk
 have HU:Hid (Calls Tryz.prog 43 #[.pointer (some ⟨b,0,none⟩),.int .i64 (k:Int)] w fun e w'=>e=.returned (.func (.func 67) #[] #[.pointer (some ⟨w.heap.size+1,0,none⟩),.pointer (some ⟨w.heap.size,0,none⟩)])∧w'=(w.alloc (.cells #[.pointer (some ⟨b,0,none⟩)] 24)).alloc (.cells #[.int .i64 (k:Int)] 3)):=Zf5 b (k:Int) w
 have hB0:Bw w ((w.alloc (.cells #[.pointer (some ⟨b,0,none⟩)] 24)).alloc (.cells #[.int .i64 (k:Int)] 3)):=((Below.refl _ w).alloc (Nat.le_refl _) _).alloc (by simp) _
 have HC:Hid (Calls Tryz.prog 42 #[.func (.func 67) #[] #[.pointer (some ⟨w.heap.size+1,0,none⟩),.pointer (some ⟨w.heap.size,0,none⟩)]] ((w.alloc (.cells #[.pointer (some ⟨b,0,none⟩)] 24)).alloc (.cells #[.int .i64 (k:Int)] 3)) fun e W'=>∃ v,e=.returned v∧W'.ownsRow w.heap.size 3 1 v (chL (ps.map nd) k).length ((chL (ps.map nd) k).map numV)∧Bw w W'):=by
  refine (Ze3 (w.heap.size+1) w.heap.size N b mb ps vp pv k hk hwo hn _ (h.below hB0) (heap_alloc2_new w _ _) (heap_alloc2_old w _ _)).mono ?_
  rintro e W' ⟨v,rfl,hown,hb⟩
  exact ⟨v,rfl,Go.Joins.ownsRow_le hown (by simp;omega),Zj hB0 hb⟩
 clear h hB0
 go_enter Tryz.func17,Tryz.ntmps17
 go_wp2_with (first
  | (go_at_call 36;refine HX.out.mono ?_;rintro e w9 ⟨rfl,hw9⟩;rw [hw9];clear hw9 w9)
  | (go_at_call 43;refine HU.out.mono ?_;rintro e w9 ⟨rfl,hw9⟩;rw [hw9];clear hw9 w9 HU)
  | (go_at_call 42;refine HC.out.mono ?_;rintro e w1 ⟨v,rfl,hown,hb⟩;obtain ⟨a1,c1,rfl⟩:=ownv hown;have O1:Hid _:=hown;have B1:Hid _:=hb;clear hown hb HC))
 exact bodyPost_ret (results_tmp2 rfl _ _ _) rfl ⟨_,rfl,O1.out,B1.out⟩
end Go.Proofs.YtkoogmegdfpopaaGreat
