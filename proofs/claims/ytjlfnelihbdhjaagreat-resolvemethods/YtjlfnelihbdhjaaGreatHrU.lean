import Derived.Test.YtjlfnelihbdhjaaGreatOrdA
import Derived.RangeFuncNested
import Derived.RangeFuncBound
import Derived.RangeFuncCalls
import Derived.RangeFuncLeaves
import Derived.RangeFuncFrom
import Derived.Shelf.Abstract
import Derived.Shelf.RegionOpen
import Derived.WalkKit
import Derived.OwnWalkIn
import Derived.TacticsInMore
import Derived.LoopNIn
import Derived.LoopIn
import Derived.WalkMore
set_option maxRecDepth 100000
namespace Go.Proofs.YtjlfnelihbdhjaaGreat
open Go.RowKit Go.Shelf
attribute [local go_sem] Oper.semAt_some
set_option maxHeartbeats 400000 in
theorem upFrom_any (b:Nat) (k:Int) (w:World):Calls Tryz.prog 131 #[.pointer (some ⟨b,0,none⟩),.int .i64 k] w fun e w' =>
    e=.returned (.func (.func 200) #[] #[.pointer (some ⟨w.heap.size+1,0,none⟩),.pointer (some ⟨w.heap.size,0,none⟩)]) ∧
      w'=(w.alloc (.cells #[.pointer (some ⟨b,0,none⟩)] 26)).alloc (.cells #[.int .i64 k] 3):=by
  go_enter Tryz.func131,Tryz.ntmps131
  go_wp2
  go_ret
  exact ⟨rfl,rfl⟩
theorem wide_scope {c:Code} {n:Nat} {P:Program} {Q:Exit→Act→World→Prop} {a:Act} {w:World} (h:c.wpIn Fence.wide n P (Exit.noGoto Q) a w):(Code.scope c).wpIn Fence.wide n P Q a w:=wpIn_wide.2 (wp_scope_straight (wpIn_wide.1 h))
theorem ch_len {ns:List Nd} (h:WO ns) (a:Nat) (ha:a<ns.length):(chL ns a).length≤a+1:=by
  refine ch_ind h (P:=fun a=>(chL ns a).length≤a+1) (by simp [chL_zero]) ?_ a ha
  intro k hk h0 hl ih
  rw [chL_cons h hk h0,List.length_cons];omega
theorem nd_at {ps:List Plc} {k:Nat} {q:Plc} (h:ps[k]?=some q):(ps.map nd)[k]?=some (nd q):=by rw [List.getElem?_map,h];rfl
theorem spO_at {ps:List Plc} {k:Nat} {q:Plc} (h:ps[k]?=some q):spO (ps.map nd) k=q.sp:=by rw [spO,nd_at h];rfl
theorem clO_at {ps:List Plc} {k:Nat} {q:Plc} (h:ps[k]?=some q):clO (ps.map nd) k=q.cl:=by rw [clO,nd_at h];rfl
def KpU (n₀ bw:Nat) (W W':World):Prop:=Below n₀ W W'∧W'.heap[bw]?=W.heap[bw]?
set_option maxHeartbeats 1000000 in
theorem up_in (n:Nat) (hn:1≤n) (l bi bw n₀ N b mb:Nat) (ps:List Plc) (vp:Value) (pv:List PV) (k:Nat) (hk:k<ps.length) (hwo:WO (ps.map nd)) (J Jx:List Nat→World→Prop)
    (hY:∀ (pre:List Nat) (x:Nat) (W:World),J pre W→pre.length<ps.length→YieldAt Fence.wide (n - 1) Tryz.prog l #[.int .i64 (x:Int)] W fun e W' =>
      (e=.returned (.bool true)∧J (pre++[x]) W'∧KpU n₀ bw W W')∨(e=.returned (.bool false)∧Jx (pre++[x]) W'))
    (W:World) (hbi:W.cell? ⟨bi,0,none⟩=some (.int .i64 (k:Int))) (hbw:W.heap[bw]?=some (.cells #[.pointer (some ⟨b,0,none⟩)] 26 (0,0))) (hW:∀ w,Below n₀ W w→HW w N b mb ps vp pv) (h0:J [] W) :
    CallsIn Fence.wide n Tryz.prog 200 #[.func (.yield l) #[] #[],.pointer (some ⟨bi,0,none⟩),.pointer (some ⟨bw,0,none⟩)] W fun e W'=>(∃ v,e=.returned v) ∧
      ((∃ ys,ys=chL (ps.map nd) k∧J ys W')∨(∃ pre,pre <+: chL (ps.map nd) k∧Jx pre W')):=by
  refine callsIn_of_wp Tryz.func200 rfl trivial ?_ rfl
  simp only [Tryz.ntmps200,List.size_toArray,List.length_cons,List.length_nil,Nat.reduceAdd,Nat.reduceSub,Array.replicate_succ,Array.replicate_zero,List.push_toArray,List.append_toArray,List.nil_append,List.cons_append]
  gi_wp2
  refine wide_scope ?_
  gi_wp2
  refine wpIn_label ?_
  gi_wp2
  gi_loopw [4] (fun p wr=>∃ (j:Nat) (pre:List Nat),p=.int .i64 (j:Int)∧j<ps.length∧Hid (chL (ps.map nd) k=pre++chL (ps.map nd) j)∧KpU n₀ bw W wr∧J pre wr) (fun p _=>(intOf p).toNat)
  case atStart=>exact ⟨k,[],rfl,hk,rfl,⟨Below.refl _ _,rfl⟩,h0⟩
  case round =>
    obtain ⟨j,pre,rfl,hj,hch,hkp,hJ⟩:=hrel
    have hml:(ps.map nd).length=ps.length:=List.length_map _
    have hlen:pre.length<ps.length:=by
      have h1:=ch_len hwo k (by rw [hml];exact hk)
      rw [hch.out,List.length_append] at h1
      have h2:=ch_pos (ns:=ps.map nd) j
      omega
    obtain ⟨fn,tmps,assign,body,hy,hR⟩:=hY pre j wr hJ hlen
    have hpre:Hid (pre++[j] <+: chL (ps.map nd) k):=by
      by_cases hz:j=0
      · subst hz;rw [Hid,hch.out,chL_zero];exact List.prefix_refl _
      · rw [Hid,hch.out,chL_cons hwo (by rw [hml];exact hj) (by omega)]
        exact ⟨chL (ps.map nd) (spO (ps.map nd) j),by simp⟩
    by_cases hz:j=0
    · subst hz
      have hall:Hid (pre++[0]=chL (ps.map nd) k):=by rw [Hid,hch.out,chL_zero]
      rw [show ((0:Nat):Int)=0 from rfl] at hy
      clear hch hkp hJ hY h0 hbi hbw hW
      gi_wp2
      refine hR.mono ?_
      rintro e W3 (⟨rfl,hJ3,_⟩|⟨rfl,hJx3⟩)
      · gi_wp2
        rw [Exit.noGoto_normal]
        go_end0
        exact ⟨⟨_,rfl⟩,.inl ⟨_,hall.out,hJ3⟩⟩
      · gi_wp2
        rw [Exit.noGoto_normal]
        go_end0
        exact ⟨⟨_,rfl⟩,.inr ⟨_,hpre.out,hJx3⟩⟩
    · obtain ⟨q,hq⟩:∃ q,ps[j]?=some q:=⟨_,List.getElem?_eq_getElem hj⟩
      have hsp:=hwo.spLt (by rw [hml];exact hj) (show 0<j by omega)
      rw [spO_at hq] at hsp
      have hnext:Hid (chL (ps.map nd) k=(pre++[j])++chL (ps.map nd) q.sp):=by
        rw [Hid,hch.out,chL_cons hwo (by rw [hml];exact hj) (by omega),spO_at hq];simp
      have hz2:¬ (j:Int)=0:=by omega
      have HCC:Hid (∀ W3:World,Below n₀ W W3→∃ (g cap:Nat),W3.cell? ⟨b,0,none⟩=some (.slice (some ⟨g,0,none⟩) ps.length cap)∧W3.cell? ⟨g,j * 8+6,none⟩=some (.int .i64 (q.sp:Int))):=fun W3 hb=>by
        have h:=hW W3 hb
        obtain ⟨g,cap,p,rfl,hpl,hcell⟩:=h.at hq
        have b0:=cell_of_row W3 b 0 _ _ _ h.hb
        simp only [List.getElem?_toArray,List.getElem?_cons_zero] at b0
        exact ⟨g,cap,b0,by rw [← hpl.sp];exact hcell 6 (by omega)⟩
      have HBW:Hid (wr.heap[bw]?=some (.cells #[.pointer (some ⟨b,0,none⟩)] 26 (0,0))):=hkp.2.trans hbw
      have HKP:Hid (KpU n₀ bw W wr):=hkp
      have hjI:(j:Int)<(ps.length:Int):=by omega
      clear hch hkp hJ hY h0 hbi hbw hW
      gi_wp2
      refine hR.mono ?_
      rintro e W3 (⟨rfl,hJ3,hk3⟩|⟨rfl,hJx3⟩)
      · have hw3:=hk3.2.trans HBW.out
        have c0:=cell_of_row W3 bw 0 _ _ _ hw3
        simp only [List.getElem?_toArray,List.getElem?_cons_zero] at c0
        obtain ⟨g,cap,b0,g6⟩:=HCC.out W3 (HKP.out.1.trans hk3.1)
        have K3:Hid (KpU n₀ bw W W3):=⟨HKP.out.1.trans hk3.1,hk3.2.trans HKP.out.2⟩
        clear hw3 hk3
        gi_wp2
        go_roundw
        case rel=>exact ⟨q.sp,pre++[j],rfl,by omega,hnext,K3.out,hJ3⟩
        case measure=>simp [intOf];omega
      · gi_wp2
        rw [Exit.noGoto_normal]
        go_end0
        exact ⟨⟨_,rfl⟩,.inr ⟨_,hpre.out,hJx3⟩⟩
theorem kpU_t {n₀ bw:Nat} {A B C:World} (h:KpU n₀ bw A B) (k:KpU n₀ bw B C):KpU n₀ bw A C:=⟨h.1.trans k.1,k.2.trans h.2⟩
theorem kpU_b {n₀ bw:Nat} {w:World} (hn:n₀≤w.heap.size) (hb:bw<w.heap.size) (W:World) (l:Nat) (o o':Obj) (hl:w.heap.size≤l) (h1:W.heap[l]?=some o) (h2:o.isCells=false) (h3:o.isWalk=false):KpU n₀ bw W (W.putObj l o') :=
  ⟨belowK_b (w:=w) hn W l o o' hl h1 h2 h3,World.putObj_heap_other (by omega)⟩
theorem up_stops (n:Nat) (hn:1≤n) (bi bw n₀ N b mb:Nat) (ps:List Plc) (vp:Value) (pv:List PV) (k:Nat) (hk:k<ps.length) (hwo:WO (ps.map nd)) (w:World) (hbi:bi<w.heap.size) (hn₀:n₀≤w.heap.size)
    (hci:w.cell? ⟨bi,0,none⟩=some (.int .i64 (k:Int))) (hbw:w.heap[bw]?=some (.cells #[.pointer (some ⟨b,0,none⟩)] 26 (0,0))) (hW:∀ w',Below n₀ w w'→HW w' N b mb ps vp pv) :
    SeqStopsK Fence.wide n Tryz.prog 200 #[.pointer (some ⟨bi,0,none⟩),.pointer (some ⟨bw,0,none⟩)] (fun x:Nat=>#[Value.int .i64 (x:Int)]) (KpU n₀ bw) (fun ys=>ys=chL (ps.map nd) k) (fun pre=>pre <+: chL (ps.map nd) k) ps.length w:=fun l J Jx W hB _ _ hY h0 =>
  up_in n hn l bi bw n₀ N b mb ps vp pv k hk hwo J Jx hY W ((hB.cell (p:=⟨bi,0,none⟩) hbi).trans hci) ((hB.block bw (Array.getElem?_eq_some_iff.1 hbw).1).trans hbw) (fun w' hb=>hW w' ((hB.mono hn₀).trans hb)) h0
theorem cell_box {W:World} {B:Nat} {v:Value} {t:TypeId} (h:W.heap[B]?=some (.cells #[v] t (0,0))):W.cell? ⟨B,0,none⟩=some v∧W.frozen? ⟨B,0,none⟩=false:=by
  constructor <;> simp [World.cell?,World.frozen?,h]
theorem box_alloc {W:World} {B:Nat} {o:Obj} (o':Obj) (h:W.heap[B]?=some o):(W.alloc o').heap[B]?=some o:=(Below.heap_alloc W o' B (Array.getElem?_eq_some_iff.1 h).1).trans h
end Go.Proofs.YtjlfnelihbdhjaaGreat
