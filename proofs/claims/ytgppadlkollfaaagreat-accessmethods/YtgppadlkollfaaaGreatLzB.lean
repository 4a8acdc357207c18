/- The law AccessMethods: the walk. -/
import Derived.Test.YtgppadlkollfaaaGreatTyC
import Derived.Test.YtgppadlkollfaaaGreatRfX
import Derived.Test.YtgppadlkollfaaaGreatSoE
import Derived.Test.YtgppadlkollfaaaGreatRsC
import Derived.Test.YtgppadlkollfaaaGreatOwnC
import Derived.Test.YtgppadlkollfaaaGreatRfL
import Derived.Deep.LoopGhost
namespace Go.Proofs.YtgppadlkollfaaaGreat
open Go.RowKit Go.Maps











/-- what MethodOpen answers, as a pair -/
def moP (ps : List Plc) (d c i n : Int) : Bool × Int := match plcI ps d, plcI ps n, plcI ps c, methI ps c i with
  | some p, some _, some q, some m => (mOpen ps d c n m.fl (samePk q p), 0)
  | _, _, _, _ => (false, 3)
theorem moI_eq (ps : List Plc) (d c i n : Int) : moI ps d c i n = .tuple #[.bool (moP ps d c i n).1, .int .i64 (moP ps d c i n).2] := by
  unfold moI moP
  cases plcI ps d <;> cases plcI ps n <;> cases plcI ps c <;> cases methI ps c i <;> rfl


theorem spC_eq {cs : List Cls} {ps : List Plc} (ht : TwW cs ps) (a b : Int) : spC cs a b = spI ps a b := by
  unfold spC spI
  rcases ht.tw.clsI a with ⟨h1, h2⟩ | ⟨k, c, q, rfl, hc, hq, hcq, h1, h2⟩
  · rw [h1, h2]
  · rw [h1, h2]
    rcases ht.tw.clsI b with ⟨g1, g2⟩ | ⟨k', c', q', rfl, hc', hq', hcq', g1, g2⟩
    · rw [g1, g2]
    · rw [g1, g2]
      show togB c c' = samePk q q'
      unfold togB samePk
      rw [hcq, hcq']; rfl
theorem ifcC_eq {cs : List Cls} {ps : List Plc} (ht : TwW cs ps) (a : Int) : ifcC cs a = ifcI ps a := by
  unfold ifcC ifcI
  rcases ht.tw.clsI a with ⟨h1, h2⟩ | ⟨k, c, q, rfl, hc, hq, hcq, h1, h2⟩
  · rw [h1, h2]
  · rw [h1, h2]
    simp only
    rw [hcq]; rfl
set_option maxRecDepth 100000 in
theorem rOpen3_c (f : Int) (W : World) : Calls Tryz.prog 82 #[.int .i64 f] W fun e w' => e = .returned (.int .i64 (openI f)) ∧ w' = W := by
  have H1 : Hid (∀ (z : Int) (w : World), z = 1 → Calls Tryz.prog 85 #[.int .i64 f, .int .i64 z] w fun e w' => e = .returned (.bool (hasI f 1)) ∧ w' = w) := fun z w hz => by rw [hz]; exact has_any f 1 w
  have H4 : Hid (∀ (z : Int) (w : World), z = 4 → Calls Tryz.prog 85 #[.int .i64 f, .int .i64 z] w fun e w' => e = .returned (.bool (hasI f 4)) ∧ w' = w) := fun z w hz => by rw [hz]; exact has_any f 4 w
  have H2 : Hid (∀ (z : Int) (w : World), z = 2 → Calls Tryz.prog 85 #[.int .i64 f, .int .i64 z] w fun e w' => e = .returned (.bool (hasI f 2)) ∧ w' = w) := fun z w hz => by rw [hz]; exact has_any f 2 w
  unfold openI
  generalize hasI f 1 = a1 at *
  generalize hasI f 4 = a4 at *
  generalize hasI f 2 = a2 at *
  cases a1 <;> cases a4 <;> cases a2
  all_goals
    go_enter Tryz.func82, Tryz.ntmps82
    go_wp2_with (first
      | (go_at_call 85; refine (H1.out _ _ (by rfl)).mono ?_; rintro e w9 ⟨rfl, hw9⟩; rw [hw9]; clear hw9 w9)
      | (go_at_call 85; refine (H4.out _ _ (by rfl)).mono ?_; rintro e w9 ⟨rfl, hw9⟩; rw [hw9]; clear hw9 w9)
      | (go_at_call 85; refine (H2.out _ _ (by rfl)).mono ?_; rintro e w9 ⟨rfl, hw9⟩; rw [hw9]; clear hw9 w9))
    exact bodyPost_ret (results_tmp rfl _ _ _) rfl ⟨rfl, rfl⟩
set_option maxRecDepth 100000 in
set_option maxHeartbeats 4000000 in
theorem rMO_yes {b : Nat} {cs : List Cls} {ps : List Plc} {W : World} (h : RAt b cs W) (ht : TwW cs ps) (hJ : WJ ps) (k : Nat) (d i n : Int) (p q : Plc) (x : HM) (hd : plcI ps d = some p) (hq : plcI ps (k : Int) = some q) (hn : (plcI ps n).isSome = true) (hm : methI ps (k : Int) i = some x) : Calls Tryz.prog 25 #[.pointer (some ⟨b, 0, none⟩), .int .i64 d, .agg #[.int .i64 (k : Int), .int .i64 i], .int .i64 n] W fun e w' => e = .returned (.tuple #[.bool (mOpen ps d k n x.fl (samePk q p)), .int .i64 0]) ∧ Below W.heap.size W w' := by
  have HMe : Hid (∀ w, Below W.heap.size W w → Calls Tryz.prog 79 #[.pointer (some ⟨b, 0, none⟩), .agg #[.int .i64 (k : Int), .int .i64 i]] w fun e w' => (∃ xn xd xl xs xa xk xc, e = .returned (.tuple #[.agg #[.string xn, .string xd, .int .i64 x.fl, .int .i64 xl, .int .i64 xs, .slice xa xk xc], .int .i64 0])) ∧ Below w.heap.size w w') := fun w hb => by
    have := rMethod_c (h.below hb) ht (k : Int) i
    rw [hm] at this
    refine this.mono fun e w' zz => ⟨?_, zz.2⟩
    obtain ⟨a, m, c, rfl⟩ := zz.1
    exact ⟨_, _, _, _, a, m, c, rfl⟩
  have HD : Hid (∀ (z : Int) w, Below W.heap.size W w → z = d → Calls Tryz.prog 80 #[.pointer (some ⟨b, 0, none⟩), .int .i64 z] w fun e w' => e = .returned (.bool true) ∧ w' = w) := fun z w hb hz => by rw [hz]; exact (rIn_t (h.below hb) ht d).mono fun e w' zz => ⟨by rw [zz.1, hd]; rfl, zz.2⟩
  have HN : Hid (∀ (z : Int) w, Below W.heap.size W w → z = n → Calls Tryz.prog 80 #[.pointer (some ⟨b, 0, none⟩), .int .i64 z] w fun e w' => e = .returned (.bool true) ∧ w' = w) := fun z w hb hz => by rw [hz]; exact (rIn_t (h.below hb) ht n).mono fun e w' zz => ⟨by rw [zz.1, hn], zz.2⟩
  have HS : Hid (∀ w, Below W.heap.size W w → Calls Tryz.prog 81 #[.pointer (some ⟨b, 0, none⟩), .int .i64 (k : Int), .int .i64 d] w fun e w' => e = .returned (.bool (samePk q p)) ∧ Below w.heap.size w w') := fun w hb => (rSame_c (h.below hb) (ht.tw.sz ht.wi) k d).mono fun e w' zz => ⟨by rw [zz.1, spC_eq ht, spI, hq, hd], zz.2⟩
  have HO : Hid (∀ w : World, Calls Tryz.prog 82 #[.int .i64 x.fl] w fun e w' => e = .returned (.int .i64 (openI x.fl)) ∧ w' = w) := rOpen3_c x.fl
  have HI : Hid (∀ w, Below W.heap.size W w → Calls Tryz.prog 83 #[.pointer (some ⟨b, 0, none⟩), .int .i64 (k : Int)] w fun e w' => e = .returned (.bool (ifcI ps k)) ∧ w' = w) := fun w hb => (rIsIface_c (h.below hb) k).mono fun e w' zz => ⟨by rw [zz.1, ifcC_eq ht], zz.2⟩
  have H8 : Hid (∀ w : World, Calls Tryz.prog 85 #[.int .i64 x.fl, .int .i64 8] w fun e w' => e = .returned (.bool (hasI x.fl 8)) ∧ w' = w) := has_any x.fl 8
  have E1 : Hid (∀ (u v : Int) w, Below W.heap.size W w → u = d → v = (k : Int) → Calls Tryz.prog 84 #[.pointer (some ⟨b, 0, none⟩), .int .i64 u, .int .i64 v] w fun e w' => e = .returned (.bool (extI ps d k)) ∧ Below w.heap.size w w') := fun u v w hb hu hv => by rw [hu, hv]; exact rExtends_c (h.below hb) ht hJ d k
  have E2 : Hid (∀ (u v : Int) w, Below W.heap.size W w → u = n → v = d → Calls Tryz.prog 84 #[.pointer (some ⟨b, 0, none⟩), .int .i64 u, .int .i64 v] w fun e w' => e = .returned (.bool (extI ps n d)) ∧ Below w.heap.size w w') := fun u v w hb hu hv => by rw [hu, hv]; exact rExtends_c (h.below hb) ht hJ n d
  have E3 : Hid (∀ (u v : Int) w, Below W.heap.size W w → u = d → v = n → Calls Tryz.prog 84 #[.pointer (some ⟨b, 0, none⟩), .int .i64 u, .int .i64 v] w fun e w' => e = .returned (.bool (extI ps d n)) ∧ Below w.heap.size w w') := fun u v w hb hu hv => by rw [hu, hv]; exact rExtends_c (h.below hb) ht hJ d n
  have HR : Hid (mOpen ps d k n x.fl (samePk q p) = (if openI x.fl = 1 then true else if openI x.fl = 2 then (k : Int) == d else if samePk q p then true else if openI x.fl = 4 then extI ps d k && !ifcI ps k && (hasI x.fl 8 || extI ps n d || extI ps d n) else false)) := rfl
  generalize mOpen ps d k n x.fl (samePk q p) = R at *
  generalize samePk q p = sp at *
  have hop := open_cases x.fl
  generalize openI x.fl = op at *
  generalize hasI x.fl 8 = h8 at *
  generalize x.fl = fl at *
  generalize extI ps d (k : Int) = e1 at *
  generalize ifcI ps (k : Int) = i1 at *
  generalize extI ps n d = e2 at *
  generalize extI ps d n = e3 at *
  clear h ht hJ hd hq hn hm
  rcases hop with rfl | rfl | rfl | rfl
  · have eR : R = true := by rw [HR.out]; rfl
    subst eR
    clear HR HI H8 E1 E2 E3
    go_enter Tryz.func25, Tryz.ntmps25
    go_wp2_with (first
      | (go_at_call 79; refine (HMe.out _ (by repeat (first | exact Below.refl _ _ | refine Below.setCell ?_ (by simp; try omega) _ | refine Below.alloc ?_ (by simp; try omega) _ | refine Below.drew ?_))).mono ?_; rintro e w1 ⟨⟨xn, xd, xl, xs, xa, xk, xc, rfl⟩, hb⟩; have md : w1.heap[W.heap.size]? = some (.cells #[.int .i64 (k : Int), .int .i64 i] 38 (0, 0)) := (hb.block (W.heap.size) (by first | omega | (simp; try omega))).trans (by first | exact mB.out | exact hkeep mB.out | exact hkeep (hkeep mB.out) | exact halloc2 _ _ rfl | exact heap_alloc2_old _ _ _ | exact heap_alloc2_new _ _ _ | exact hkeep (halloc2 _ _ rfl) | exact hkeep (hkeep (halloc2 _ _ rfl)) | exact halloc2 _ _ (by simp; done)); (try clear mB mL mN m0 m1 mf0 mf1); have mB : Hid (w1.heap[W.heap.size]? = some (.cells #[.int .i64 (k : Int), .int .i64 i] 38 (0, 0))) := md; have m0 : w1.cell? ⟨W.heap.size, 0, none⟩ = some (.int .i64 (k : Int)) := (cell_of_row w1 (W.heap.size) 0 _ _ _ md).trans rfl; have mf0 := frozen_of_row w1 (W.heap.size) 0 _ _ md; have m1 : w1.cell? ⟨W.heap.size, 1, none⟩ = some (.int .i64 i) := (cell_of_row w1 (W.heap.size) 1 _ _ _ md).trans rfl; have mf1 := frozen_of_row w1 (W.heap.size) 1 _ _ md; have mL : W.heap.size < w1.heap.size := (Array.getElem?_eq_some_iff.1 md).1; have mN : ¬ W.heap.size = w1.heap.size := (by omega); clear md; have B1 : Hid (Below W.heap.size W w1) := bstep (by repeat (first | exact Below.refl _ _ | refine Below.setCell ?_ (by simp; try omega) _ | refine Below.alloc ?_ (by simp; try omega) _ | refine Below.drew ?_)) hb; clear hb HMe)
      | (go_at_call 80; refine (HD.out _ _ (B1.out.alloc B1.out.size _) (by rfl)).mono ?_; rintro e w9 ⟨rfl, hw9⟩; rw [hw9]; clear hw9 w9 HD)
      | (go_at_call 80; refine (HN.out _ _ (B1.out.alloc B1.out.size _) (by rfl)).mono ?_; rintro e w9 ⟨rfl, hw9⟩; rw [hw9]; clear hw9 w9 HN)
      | (go_at_call 81; refine (HS.out _ (B1.out.alloc B1.out.size _)).mono ?_; rintro e w2 ⟨rfl, hb⟩; have xxd : w2.heap[w1.heap.size]? = some (.cells #[.string xn, .string xd, .int .i64 fl, .int .i64 xl, .int .i64 xs, .slice xa xk xc] 47 (0, 0)) := (hb.block (w1.heap.size) (by first | omega | (simp; try omega))).trans (by first | exact xxB.out | exact hkeep xxB.out | exact hkeep (hkeep xxB.out) | exact halloc2 _ _ rfl | exact heap_alloc2_old _ _ _ | exact heap_alloc2_new _ _ _ | exact hkeep (halloc2 _ _ rfl) | exact hkeep (hkeep (halloc2 _ _ rfl)) | exact halloc2 _ _ (by simp; done)); (try clear xxB xxL xxN xx0 xx1 xx2 xx3 xx4 xx5 xxf0 xxf1 xxf2 xxf3 xxf4 xxf5); have xxB : Hid (w2.heap[w1.heap.size]? = some (.cells #[.string xn, .string xd, .int .i64 fl, .int .i64 xl, .int .i64 xs, .slice xa xk xc] 47 (0, 0))) := xxd; have xx0 : w2.cell? ⟨w1.heap.size, 0, none⟩ = some (.string xn) := (cell_of_row w2 (w1.heap.size) 0 _ _ _ xxd).trans rfl; have xxf0 := frozen_of_row w2 (w1.heap.size) 0 _ _ xxd; have xx1 : w2.cell? ⟨w1.heap.size, 1, none⟩ = some (.string xd) := (cell_of_row w2 (w1.heap.size) 1 _ _ _ xxd).trans rfl; have xxf1 := frozen_of_row w2 (w1.heap.size) 1 _ _ xxd; have xx2 : w2.cell? ⟨w1.heap.size, 2, none⟩ = some (.int .i64 fl) := (cell_of_row w2 (w1.heap.size) 2 _ _ _ xxd).trans rfl; have xxf2 := frozen_of_row w2 (w1.heap.size) 2 _ _ xxd; have xx3 : w2.cell? ⟨w1.heap.size, 3, none⟩ = some (.int .i64 xl) := (cell_of_row w2 (w1.heap.size) 3 _ _ _ xxd).trans rfl; have xxf3 := frozen_of_row w2 (w1.heap.size) 3 _ _ xxd; have xx4 : w2.cell? ⟨w1.heap.size, 4, none⟩ = some (.int .i64 xs) := (cell_of_row w2 (w1.heap.size) 4 _ _ _ xxd).trans rfl; have xxf4 := frozen_of_row w2 (w1.heap.size) 4 _ _ xxd; have xx5 : w2.cell? ⟨w1.heap.size, 5, none⟩ = some (.slice xa xk xc) := (cell_of_row w2 (w1.heap.size) 5 _ _ _ xxd).trans rfl; have xxf5 := frozen_of_row w2 (w1.heap.size) 5 _ _ xxd; have xxL : w1.heap.size < w2.heap.size := (Array.getElem?_eq_some_iff.1 xxd).1; have xxN : ¬ w1.heap.size = w2.heap.size := (by omega); clear xxd; have B2 : Hid (Below W.heap.size W w2) := bstep (B1.out.alloc B1.out.size _) hb; clear hb HS)
      | (go_at_call 82; refine (HO.out _).mono ?_; rintro e w9 ⟨rfl, hw9⟩; rw [hw9]; clear hw9 w9 HO))
    exact bodyPost_ret (results_tmp2 rfl _ _ _) rfl ⟨rfl, B2.out⟩
  · have eR : R = ((k : Int) == d) := by rw [HR.out]; rfl
    subst eR
    clear HR HI H8 E1 E2 E3
    go_enter Tryz.func25, Tryz.ntmps25
    go_wp2_with (first
      | (go_at_call 79; refine (HMe.out _ (by repeat (first | exact Below.refl _ _ | refine Below.setCell ?_ (by simp; try omega) _ | refine Below.alloc ?_ (by simp; try omega) _ | refine Below.drew ?_))).mono ?_; rintro e w1 ⟨⟨xn, xd, xl, xs, xa, xk, xc, rfl⟩, hb⟩; have md : w1.heap[W.heap.size]? = some (.cells #[.int .i64 (k : Int), .int .i64 i] 38 (0, 0)) := (hb.block (W.heap.size) (by first | omega | (simp; try omega))).trans (by first | exact mB.out | exact hkeep mB.out | exact hkeep (hkeep mB.out) | exact halloc2 _ _ rfl | exact heap_alloc2_old _ _ _ | exact heap_alloc2_new _ _ _ | exact hkeep (halloc2 _ _ rfl) | exact hkeep (hkeep (halloc2 _ _ rfl)) | exact halloc2 _ _ (by simp; done)); (try clear mB mL mN m0 m1 mf0 mf1); have mB : Hid (w1.heap[W.heap.size]? = some (.cells #[.int .i64 (k : Int), .int .i64 i] 38 (0, 0))) := md; have m0 : w1.cell? ⟨W.heap.size, 0, none⟩ = some (.int .i64 (k : Int)) := (cell_of_row w1 (W.heap.size) 0 _ _ _ md).trans rfl; have mf0 := frozen_of_row w1 (W.heap.size) 0 _ _ md; have m1 : w1.cell? ⟨W.heap.size, 1, none⟩ = some (.int .i64 i) := (cell_of_row w1 (W.heap.size) 1 _ _ _ md).trans rfl; have mf1 := frozen_of_row w1 (W.heap.size) 1 _ _ md; have mL : W.heap.size < w1.heap.size := (Array.getElem?_eq_some_iff.1 md).1; have mN : ¬ W.heap.size = w1.heap.size := (by omega); clear md; have B1 : Hid (Below W.heap.size W w1) := bstep (by repeat (first | exact Below.refl _ _ | refine Below.setCell ?_ (by simp; try omega) _ | refine Below.alloc ?_ (by simp; try omega) _ | refine Below.drew ?_)) hb; clear hb HMe)
      | (go_at_call 80; refine (HD.out _ _ (B1.out.alloc B1.out.size _) (by rfl)).mono ?_; rintro e w9 ⟨rfl, hw9⟩; rw [hw9]; clear hw9 w9 HD)
      | (go_at_call 80; refine (HN.out _ _ (B1.out.alloc B1.out.size _) (by rfl)).mono ?_; rintro e w9 ⟨rfl, hw9⟩; rw [hw9]; clear hw9 w9 HN)
      | (go_at_call 81; refine (HS.out _ (B1.out.alloc B1.out.size _)).mono ?_; rintro e w2 ⟨rfl, hb⟩; have xxd : w2.heap[w1.heap.size]? = some (.cells #[.string xn, .string xd, .int .i64 fl, .int .i64 xl, .int .i64 xs, .slice xa xk xc] 47 (0, 0)) := (hb.block (w1.heap.size) (by first | omega | (simp; try omega))).trans (by first | exact xxB.out | exact hkeep xxB.out | exact hkeep (hkeep xxB.out) | exact halloc2 _ _ rfl | exact heap_alloc2_old _ _ _ | exact heap_alloc2_new _ _ _ | exact hkeep (halloc2 _ _ rfl) | exact hkeep (hkeep (halloc2 _ _ rfl)) | exact halloc2 _ _ (by simp; done)); (try clear xxB xxL xxN xx0 xx1 xx2 xx3 xx4 xx5 xxf0 xxf1 xxf2 xxf3 xxf4 xxf5); have xxB : Hid (w2.heap[w1.heap.size]? = some (.cells #[.string xn, .string xd, .int .i64 fl, .int .i64 xl, .int .i64 xs, .slice xa xk xc] 47 (0, 0))) := xxd; have xx0 : w2.cell? ⟨w1.heap.size, 0, none⟩ = some (.string xn) := (cell_of_row w2 (w1.heap.size) 0 _ _ _ xxd).trans rfl; have xxf0 := frozen_of_row w2 (w1.heap.size) 0 _ _ xxd; have xx1 : w2.cell? ⟨w1.heap.size, 1, none⟩ = some (.string xd) := (cell_of_row w2 (w1.heap.size) 1 _ _ _ xxd).trans rfl; have xxf1 := frozen_of_row w2 (w1.heap.size) 1 _ _ xxd; have xx2 : w2.cell? ⟨w1.heap.size, 2, none⟩ = some (.int .i64 fl) := (cell_of_row w2 (w1.heap.size) 2 _ _ _ xxd).trans rfl; have xxf2 := frozen_of_row w2 (w1.heap.size) 2 _ _ xxd; have xx3 : w2.cell? ⟨w1.heap.size, 3, none⟩ = some (.int .i64 xl) := (cell_of_row w2 (w1.heap.size) 3 _ _ _ xxd).trans rfl; have xxf3 := frozen_of_row w2 (w1.heap.size) 3 _ _ xxd; have xx4 : w2.cell? ⟨w1.heap.size, 4, none⟩ = some (.int .i64 xs) := (cell_of_row w2 (w1.heap.size) 4 _ _ _ xxd).trans rfl; have xxf4 := frozen_of_row w2 (w1.heap.size) 4 _ _ xxd; have xx5 : w2.cell? ⟨w1.heap.size, 5, none⟩ = some (.slice xa xk xc) := (cell_of_row w2 (w1.heap.size) 5 _ _ _ xxd).trans rfl; have xxf5 := frozen_of_row w2 (w1.heap.size) 5 _ _ xxd; have xxL : w1.heap.size < w2.heap.size := (Array.getElem?_eq_some_iff.1 xxd).1; have xxN : ¬ w1.heap.size = w2.heap.size := (by omega); clear xxd; have B2 : Hid (Below W.heap.size W w2) := bstep (B1.out.alloc B1.out.size _) hb; clear hb HS)
      | (go_at_call 82; refine (HO.out _).mono ?_; rintro e w9 ⟨rfl, hw9⟩; rw [hw9]; clear hw9 w9 HO))
    all_goals go_ret2
    all_goals exact ⟨by simp, B2.out⟩
  · cases sp with
    | true =>
      have eR : R = true := by rw [HR.out]; rfl
      subst eR
      clear HR HI H8 E1 E2 E3
      go_enter Tryz.func25, Tryz.ntmps25
      go_wp2_with (first
        | (go_at_call 79; refine (HMe.out _ (by repeat (first | exact Below.refl _ _ | refine Below.setCell ?_ (by simp; try omega) _ | refine Below.alloc ?_ (by simp; try omega) _ | refine Below.drew ?_))).mono ?_; rintro e w1 ⟨⟨xn, xd, xl, xs, xa, xk, xc, rfl⟩, hb⟩; have md : w1.heap[W.heap.size]? = some (.cells #[.int .i64 (k : Int), .int .i64 i] 38 (0, 0)) := (hb.block (W.heap.size) (by first | omega | (simp; try omega))).trans (by first | exact mB.out | exact hkeep mB.out | exact hkeep (hkeep mB.out) | exact halloc2 _ _ rfl | exact heap_alloc2_old _ _ _ | exact heap_alloc2_new _ _ _ | exact hkeep (halloc2 _ _ rfl) | exact hkeep (hkeep (halloc2 _ _ rfl)) | exact halloc2 _ _ (by simp; done)); (try clear mB mL mN m0 m1 mf0 mf1); have mB : Hid (w1.heap[W.heap.size]? = some (.cells #[.int .i64 (k : Int), .int .i64 i] 38 (0, 0))) := md; have m0 : w1.cell? ⟨W.heap.size, 0, none⟩ = some (.int .i64 (k : Int)) := (cell_of_row w1 (W.heap.size) 0 _ _ _ md).trans rfl; have mf0 := frozen_of_row w1 (W.heap.size) 0 _ _ md; have m1 : w1.cell? ⟨W.heap.size, 1, none⟩ = some (.int .i64 i) := (cell_of_row w1 (W.heap.size) 1 _ _ _ md).trans rfl; have mf1 := frozen_of_row w1 (W.heap.size) 1 _ _ md; have mL : W.heap.size < w1.heap.size := (Array.getElem?_eq_some_iff.1 md).1; have mN : ¬ W.heap.size = w1.heap.size := (by omega); clear md; have B1 : Hid (Below W.heap.size W w1) := bstep (by repeat (first | exact Below.refl _ _ | refine Below.setCell ?_ (by simp; try omega) _ | refine Below.alloc ?_ (by simp; try omega) _ | refine Below.drew ?_)) hb; clear hb HMe)
        | (go_at_call 80; refine (HD.out _ _ (B1.out.alloc B1.out.size _) (by rfl)).mono ?_; rintro e w9 ⟨rfl, hw9⟩; rw [hw9]; clear hw9 w9 HD)
        | (go_at_call 80; refine (HN.out _ _ (B1.out.alloc B1.out.size _) (by rfl)).mono ?_; rintro e w9 ⟨rfl, hw9⟩; rw [hw9]; clear hw9 w9 HN)
        | (go_at_call 81; refine (HS.out _ (B1.out.alloc B1.out.size _)).mono ?_; rintro e w2 ⟨rfl, hb⟩; have xxd : w2.heap[w1.heap.size]? = some (.cells #[.string xn, .string xd, .int .i64 fl, .int .i64 xl, .int .i64 xs, .slice xa xk xc] 47 (0, 0)) := (hb.block (w1.heap.size) (by first | omega | (simp; try omega))).trans (by first | exact xxB.out | exact hkeep xxB.out | exact hkeep (hkeep xxB.out) | exact halloc2 _ _ rfl | exact heap_alloc2_old _ _ _ | exact heap_alloc2_new _ _ _ | exact hkeep (halloc2 _ _ rfl) | exact hkeep (hkeep (halloc2 _ _ rfl)) | exact halloc2 _ _ (by simp; done)); (try clear xxB xxL xxN xx0 xx1 xx2 xx3 xx4 xx5 xxf0 xxf1 xxf2 xxf3 xxf4 xxf5); have xxB : Hid (w2.heap[w1.heap.size]? = some (.cells #[.string xn, .string xd, .int .i64 fl, .int .i64 xl, .int .i64 xs, .slice xa xk xc] 47 (0, 0))) := xxd; have xx0 : w2.cell? ⟨w1.heap.size, 0, none⟩ = some (.string xn) := (cell_of_row w2 (w1.heap.size) 0 _ _ _ xxd).trans rfl; have xxf0 := frozen_of_row w2 (w1.heap.size) 0 _ _ xxd; have xx1 : w2.cell? ⟨w1.heap.size, 1, none⟩ = some (.string xd) := (cell_of_row w2 (w1.heap.size) 1 _ _ _ xxd).trans rfl; have xxf1 := frozen_of_row w2 (w1.heap.size) 1 _ _ xxd; have xx2 : w2.cell? ⟨w1.heap.size, 2, none⟩ = some (.int .i64 fl) := (cell_of_row w2 (w1.heap.size) 2 _ _ _ xxd).trans rfl; have xxf2 := frozen_of_row w2 (w1.heap.size) 2 _ _ xxd; have xx3 : w2.cell? ⟨w1.heap.size, 3, none⟩ = some (.int .i64 xl) := (cell_of_row w2 (w1.heap.size) 3 _ _ _ xxd).trans rfl; have xxf3 := frozen_of_row w2 (w1.heap.size) 3 _ _ xxd; have xx4 : w2.cell? ⟨w1.heap.size, 4, none⟩ = some (.int .i64 xs) := (cell_of_row w2 (w1.heap.size) 4 _ _ _ xxd).trans rfl; have xxf4 := frozen_of_row w2 (w1.heap.size) 4 _ _ xxd; have xx5 : w2.cell? ⟨w1.heap.size, 5, none⟩ = some (.slice xa xk xc) := (cell_of_row w2 (w1.heap.size) 5 _ _ _ xxd).trans rfl; have xxf5 := frozen_of_row w2 (w1.heap.size) 5 _ _ xxd; have xxL : w1.heap.size < w2.heap.size := (Array.getElem?_eq_some_iff.1 xxd).1; have xxN : ¬ w1.heap.size = w2.heap.size := (by omega); clear xxd; have B2 : Hid (Below W.heap.size W w2) := bstep (B1.out.alloc B1.out.size _) hb; clear hb HS)
        | (go_at_call 82; refine (HO.out _).mono ?_; rintro e w9 ⟨rfl, hw9⟩; rw [hw9]; clear hw9 w9 HO))
      exact bodyPost_ret (results_tmp2 rfl _ _ _) rfl ⟨rfl, B2.out⟩
    | false =>
      have HR2 : Hid (R = (e1 && !i1 && (h8 || e2 || e3))) := by rw [Hid, HR.out]; rfl
      clear HR
      cases i1
      all_goals cases e1
      all_goals cases h8
      all_goals cases e2
      all_goals
        have eR := HR2.out
        simp only [Bool.not_true, Bool.not_false, Bool.and_true, Bool.and_false, Bool.false_and, Bool.true_and, Bool.true_or, Bool.or_true, Bool.false_or, Bool.or_false, Bool.or_self, Bool.and_self] at eR
        subst eR
        clear HR2
        go_enter Tryz.func25, Tryz.ntmps25
        go_wp2_with (first
          | (go_at_call 79; refine (HMe.out _ (by repeat (first | exact Below.refl _ _ | refine Below.setCell ?_ (by simp; try omega) _ | refine Below.alloc ?_ (by simp; try omega) _ | refine Below.drew ?_))).mono ?_; rintro e w1 ⟨⟨xn, xd, xl, xs, xa, xk, xc, rfl⟩, hb⟩; have md : w1.heap[W.heap.size]? = some (.cells #[.int .i64 (k : Int), .int .i64 i] 38 (0, 0)) := (hb.block (W.heap.size) (by first | omega | (simp; try omega))).trans (by first | exact mB.out | exact hkeep mB.out | exact hkeep (hkeep mB.out) | exact halloc2 _ _ rfl | exact heap_alloc2_old _ _ _ | exact heap_alloc2_new _ _ _ | exact hkeep (halloc2 _ _ rfl) | exact hkeep (hkeep (halloc2 _ _ rfl)) | exact halloc2 _ _ (by simp; done)); (try clear mB mL mN m0 m1 mf0 mf1); have mB : Hid (w1.heap[W.heap.size]? = some (.cells #[.int .i64 (k : Int), .int .i64 i] 38 (0, 0))) := md; have m0 : w1.cell? ⟨W.heap.size, 0, none⟩ = some (.int .i64 (k : Int)) := (cell_of_row w1 (W.heap.size) 0 _ _ _ md).trans rfl; have mf0 := frozen_of_row w1 (W.heap.size) 0 _ _ md; have m1 : w1.cell? ⟨W.heap.size, 1, none⟩ = some (.int .i64 i) := (cell_of_row w1 (W.heap.size) 1 _ _ _ md).trans rfl; have mf1 := frozen_of_row w1 (W.heap.size) 1 _ _ md; have mL : W.heap.size < w1.heap.size := (Array.getElem?_eq_some_iff.1 md).1; have mN : ¬ W.heap.size = w1.heap.size := (by omega); clear md; have B1 : Hid (Below W.heap.size W w1) := bstep (by repeat (first | exact Below.refl _ _ | refine Below.setCell ?_ (by simp; try omega) _ | refine Below.alloc ?_ (by simp; try omega) _ | refine Below.drew ?_)) hb; clear hb HMe)
          | (go_at_call 80; refine (HD.out _ _ (B1.out.alloc B1.out.size _) (by rfl)).mono ?_; rintro e w9 ⟨rfl, hw9⟩; rw [hw9]; clear hw9 w9 HD)
          | (go_at_call 80; refine (HN.out _ _ (B1.out.alloc B1.out.size _) (by rfl)).mono ?_; rintro e w9 ⟨rfl, hw9⟩; rw [hw9]; clear hw9 w9 HN)
          | (go_at_call 81; refine (HS.out _ (B1.out.alloc B1.out.size _)).mono ?_; rintro e w2 ⟨rfl, hb⟩; have xxd : w2.heap[w1.heap.size]? = some (.cells #[.string xn, .string xd, .int .i64 fl, .int .i64 xl, .int .i64 xs, .slice xa xk xc] 47 (0, 0)) := (hb.block (w1.heap.size) (by first | omega | (simp; try omega))).trans (by first | exact xxB.out | exact hkeep xxB.out | exact hkeep (hkeep xxB.out) | exact halloc2 _ _ rfl | exact heap_alloc2_old _ _ _ | exact heap_alloc2_new _ _ _ | exact hkeep (halloc2 _ _ rfl) | exact hkeep (hkeep (halloc2 _ _ rfl)) | exact halloc2 _ _ (by simp; done)); (try clear xxB xxL xxN xx0 xx1 xx2 xx3 xx4 xx5 xxf0 xxf1 xxf2 xxf3 xxf4 xxf5); have xxB : Hid (w2.heap[w1.heap.size]? = some (.cells #[.string xn, .string xd, .int .i64 fl, .int .i64 xl, .int .i64 xs, .slice xa xk xc] 47 (0, 0))) := xxd; have xx0 : w2.cell? ⟨w1.heap.size, 0, none⟩ = some (.string xn) := (cell_of_row w2 (w1.heap.size) 0 _ _ _ xxd).trans rfl; have xxf0 := frozen_of_row w2 (w1.heap.size) 0 _ _ xxd; have xx1 : w2.cell? ⟨w1.heap.size, 1, none⟩ = some (.string xd) := (cell_of_row w2 (w1.heap.size) 1 _ _ _ xxd).trans rfl; have xxf1 := frozen_of_row w2 (w1.heap.size) 1 _ _ xxd; have xx2 : w2.cell? ⟨w1.heap.size, 2, none⟩ = some (.int .i64 fl) := (cell_of_row w2 (w1.heap.size) 2 _ _ _ xxd).trans rfl; have xxf2 := frozen_of_row w2 (w1.heap.size) 2 _ _ xxd; have xx3 : w2.cell? ⟨w1.heap.size, 3, none⟩ = some (.int .i64 xl) := (cell_of_row w2 (w1.heap.size) 3 _ _ _ xxd).trans rfl; have xxf3 := frozen_of_row w2 (w1.heap.size) 3 _ _ xxd; have xx4 : w2.cell? ⟨w1.heap.size, 4, none⟩ = some (.int .i64 xs) := (cell_of_row w2 (w1.heap.size) 4 _ _ _ xxd).trans rfl; have xxf4 := frozen_of_row w2 (w1.heap.size) 4 _ _ xxd; have xx5 : w2.cell? ⟨w1.heap.size, 5, none⟩ = some (.slice xa xk xc) := (cell_of_row w2 (w1.heap.size) 5 _ _ _ xxd).trans rfl; have xxf5 := frozen_of_row w2 (w1.heap.size) 5 _ _ xxd; have xxL : w1.heap.size < w2.heap.size := (Array.getElem?_eq_some_iff.1 xxd).1; have xxN : ¬ w1.heap.size = w2.heap.size := (by omega); clear xxd; have B2 : Hid (Below W.heap.size W w2) := bstep (B1.out.alloc B1.out.size _) hb; clear hb HS)
          | (go_at_call 82; refine (HO.out _).mono ?_; rintro e w9 ⟨rfl, hw9⟩; rw [hw9]; clear hw9 w9 HO)
          | (go_at_call 83; refine (HI.out _ B2.out).mono ?_; rintro e w9 ⟨rfl, hw9⟩; rw [hw9]; clear hw9 w9 HI)
          | (go_at_call 84; refine (E1.out _ _ _ B2.out (by rfl) (by rfl)).mono ?_; rintro e w3 ⟨rfl, hb⟩; have xxd : w3.heap[w1.heap.size]? = some (.cells #[.string xn, .string xd, .int .i64 fl, .int .i64 xl, .int .i64 xs, .slice xa xk xc] 47 (0, 0)) := (hb.block (w1.heap.size) (by first | omega | (simp; try omega))).trans (by first | exact xxB.out | exact hkeep xxB.out | exact hkeep (hkeep xxB.out) | exact halloc2 _ _ rfl | exact heap_alloc2_old _ _ _ | exact heap_alloc2_new _ _ _ | exact hkeep (halloc2 _ _ rfl) | exact hkeep (hkeep (halloc2 _ _ rfl)) | exact halloc2 _ _ (by simp; done)); (try clear xxB xxL xxN xx0 xx1 xx2 xx3 xx4 xx5 xxf0 xxf1 xxf2 xxf3 xxf4 xxf5); have xxB : Hid (w3.heap[w1.heap.size]? = some (.cells #[.string xn, .string xd, .int .i64 fl, .int .i64 xl, .int .i64 xs, .slice xa xk xc] 47 (0, 0))) := xxd; have xx0 : w3.cell? ⟨w1.heap.size, 0, none⟩ = some (.string xn) := (cell_of_row w3 (w1.heap.size) 0 _ _ _ xxd).trans rfl; have xxf0 := frozen_of_row w3 (w1.heap.size) 0 _ _ xxd; have xx1 : w3.cell? ⟨w1.heap.size, 1, none⟩ = some (.string xd) := (cell_of_row w3 (w1.heap.size) 1 _ _ _ xxd).trans rfl; have xxf1 := frozen_of_row w3 (w1.heap.size) 1 _ _ xxd; have xx2 : w3.cell? ⟨w1.heap.size, 2, none⟩ = some (.int .i64 fl) := (cell_of_row w3 (w1.heap.size) 2 _ _ _ xxd).trans rfl; have xxf2 := frozen_of_row w3 (w1.heap.size) 2 _ _ xxd; have xx3 : w3.cell? ⟨w1.heap.size, 3, none⟩ = some (.int .i64 xl) := (cell_of_row w3 (w1.heap.size) 3 _ _ _ xxd).trans rfl; have xxf3 := frozen_of_row w3 (w1.heap.size) 3 _ _ xxd; have xx4 : w3.cell? ⟨w1.heap.size, 4, none⟩ = some (.int .i64 xs) := (cell_of_row w3 (w1.heap.size) 4 _ _ _ xxd).trans rfl; have xxf4 := frozen_of_row w3 (w1.heap.size) 4 _ _ xxd; have xx5 : w3.cell? ⟨w1.heap.size, 5, none⟩ = some (.slice xa xk xc) := (cell_of_row w3 (w1.heap.size) 5 _ _ _ xxd).trans rfl; have xxf5 := frozen_of_row w3 (w1.heap.size) 5 _ _ xxd; have xxL : w1.heap.size < w3.heap.size := (Array.getElem?_eq_some_iff.1 xxd).1; have xxN : ¬ w1.heap.size = w3.heap.size := (by omega); clear xxd; have B3 : Hid (Below W.heap.size W w3) := bstep B2.out hb; clear hb E1)
          | (go_at_call 85; refine (H8.out _).mono ?_; rintro e w9 ⟨rfl, hw9⟩; rw [hw9]; clear hw9 w9 H8)
          | (go_at_call 84; refine (E2.out _ _ _ B3.out (by rfl) (by rfl)).mono ?_; rintro e w4 ⟨rfl, hb⟩; have B4 : Hid (Below W.heap.size W w4) := bstep B3.out hb; clear hb E2)
          | (go_at_call 84; refine (E3.out _ _ _ B4.out (by rfl) (by rfl)).mono ?_; rintro e w5 ⟨rfl, hb⟩; have B5 : Hid (Below W.heap.size W w5) := bstep B4.out hb; clear hb E3))
        all_goals first | exact bodyPost_ret (results_tmp2 rfl _ _ _) rfl ⟨rfl, B2.out⟩ | exact bodyPost_ret (results_tmp2 rfl _ _ _) rfl ⟨rfl, B3.out⟩ | exact bodyPost_ret (results_tmp2 rfl _ _ _) rfl ⟨rfl, B4.out⟩ | exact bodyPost_ret (results_tmp2 rfl _ _ _) rfl ⟨rfl, B5.out⟩
  · have eR : R = sp := by rw [HR.out]; cases sp <;> rfl
    subst eR
    clear HR HI H8 E1 E2 E3
    go_enter Tryz.func25, Tryz.ntmps25
    go_wp2_with (first
      | (go_at_call 79; refine (HMe.out _ (by repeat (first | exact Below.refl _ _ | refine Below.setCell ?_ (by simp; try omega) _ | refine Below.alloc ?_ (by simp; try omega) _ | refine Below.drew ?_))).mono ?_; rintro e w1 ⟨⟨xn, xd, xl, xs, xa, xk, xc, rfl⟩, hb⟩; have md : w1.heap[W.heap.size]? = some (.cells #[.int .i64 (k : Int), .int .i64 i] 38 (0, 0)) := (hb.block (W.heap.size) (by first | omega | (simp; try omega))).trans (by first | exact mB.out | exact hkeep mB.out | exact hkeep (hkeep mB.out) | exact halloc2 _ _ rfl | exact heap_alloc2_old _ _ _ | exact heap_alloc2_new _ _ _ | exact hkeep (halloc2 _ _ rfl) | exact hkeep (hkeep (halloc2 _ _ rfl)) | exact halloc2 _ _ (by simp; done)); (try clear mB mL mN m0 m1 mf0 mf1); have mB : Hid (w1.heap[W.heap.size]? = some (.cells #[.int .i64 (k : Int), .int .i64 i] 38 (0, 0))) := md; have m0 : w1.cell? ⟨W.heap.size, 0, none⟩ = some (.int .i64 (k : Int)) := (cell_of_row w1 (W.heap.size) 0 _ _ _ md).trans rfl; have mf0 := frozen_of_row w1 (W.heap.size) 0 _ _ md; have m1 : w1.cell? ⟨W.heap.size, 1, none⟩ = some (.int .i64 i) := (cell_of_row w1 (W.heap.size) 1 _ _ _ md).trans rfl; have mf1 := frozen_of_row w1 (W.heap.size) 1 _ _ md; have mL : W.heap.size < w1.heap.size := (Array.getElem?_eq_some_iff.1 md).1; have mN : ¬ W.heap.size = w1.heap.size := (by omega); clear md; have B1 : Hid (Below W.heap.size W w1) := bstep (by repeat (first | exact Below.refl _ _ | refine Below.setCell ?_ (by simp; try omega) _ | refine Below.alloc ?_ (by simp; try omega) _ | refine Below.drew ?_)) hb; clear hb HMe)
      | (go_at_call 80; refine (HD.out _ _ (B1.out.alloc B1.out.size _) (by rfl)).mono ?_; rintro e w9 ⟨rfl, hw9⟩; rw [hw9]; clear hw9 w9 HD)
      | (go_at_call 80; refine (HN.out _ _ (B1.out.alloc B1.out.size _) (by rfl)).mono ?_; rintro e w9 ⟨rfl, hw9⟩; rw [hw9]; clear hw9 w9 HN)
      | (go_at_call 81; refine (HS.out _ (B1.out.alloc B1.out.size _)).mono ?_; rintro e w2 ⟨rfl, hb⟩; have xxd : w2.heap[w1.heap.size]? = some (.cells #[.string xn, .string xd, .int .i64 fl, .int .i64 xl, .int .i64 xs, .slice xa xk xc] 47 (0, 0)) := (hb.block (w1.heap.size) (by first | omega | (simp; try omega))).trans (by first | exact xxB.out | exact hkeep xxB.out | exact hkeep (hkeep xxB.out) | exact halloc2 _ _ rfl | exact heap_alloc2_old _ _ _ | exact heap_alloc2_new _ _ _ | exact hkeep (halloc2 _ _ rfl) | exact hkeep (hkeep (halloc2 _ _ rfl)) | exact halloc2 _ _ (by simp; done)); (try clear xxB xxL xxN xx0 xx1 xx2 xx3 xx4 xx5 xxf0 xxf1 xxf2 xxf3 xxf4 xxf5); have xxB : Hid (w2.heap[w1.heap.size]? = some (.cells #[.string xn, .string xd, .int .i64 fl, .int .i64 xl, .int .i64 xs, .slice xa xk xc] 47 (0, 0))) := xxd; have xx0 : w2.cell? ⟨w1.heap.size, 0, none⟩ = some (.string xn) := (cell_of_row w2 (w1.heap.size) 0 _ _ _ xxd).trans rfl; have xxf0 := frozen_of_row w2 (w1.heap.size) 0 _ _ xxd; have xx1 : w2.cell? ⟨w1.heap.size, 1, none⟩ = some (.string xd) := (cell_of_row w2 (w1.heap.size) 1 _ _ _ xxd).trans rfl; have xxf1 := frozen_of_row w2 (w1.heap.size) 1 _ _ xxd; have xx2 : w2.cell? ⟨w1.heap.size, 2, none⟩ = some (.int .i64 fl) := (cell_of_row w2 (w1.heap.size) 2 _ _ _ xxd).trans rfl; have xxf2 := frozen_of_row w2 (w1.heap.size) 2 _ _ xxd; have xx3 : w2.cell? ⟨w1.heap.size, 3, none⟩ = some (.int .i64 xl) := (cell_of_row w2 (w1.heap.size) 3 _ _ _ xxd).trans rfl; have xxf3 := frozen_of_row w2 (w1.heap.size) 3 _ _ xxd; have xx4 : w2.cell? ⟨w1.heap.size, 4, none⟩ = some (.int .i64 xs) := (cell_of_row w2 (w1.heap.size) 4 _ _ _ xxd).trans rfl; have xxf4 := frozen_of_row w2 (w1.heap.size) 4 _ _ xxd; have xx5 : w2.cell? ⟨w1.heap.size, 5, none⟩ = some (.slice xa xk xc) := (cell_of_row w2 (w1.heap.size) 5 _ _ _ xxd).trans rfl; have xxf5 := frozen_of_row w2 (w1.heap.size) 5 _ _ xxd; have xxL : w1.heap.size < w2.heap.size := (Array.getElem?_eq_some_iff.1 xxd).1; have xxN : ¬ w1.heap.size = w2.heap.size := (by omega); clear xxd; have B2 : Hid (Below W.heap.size W w2) := bstep (B1.out.alloc B1.out.size _) hb; clear hb HS)
      | (go_at_call 82; refine (HO.out _).mono ?_; rintro e w9 ⟨rfl, hw9⟩; rw [hw9]; clear hw9 w9 HO))
    exact bodyPost_ret (results_tmp2 rfl _ _ _) rfl ⟨rfl, B2.out⟩
set_option maxRecDepth 100000 in
set_option maxHeartbeats 1000000 in
theorem rMO_c {b : Nat} {cs : List Cls} {ps : List Plc} {W : World} (h : RAt b cs W) (ht : TwW cs ps) (hJ : WJ ps) (d c i n : Int) : Calls Tryz.prog 25 #[.pointer (some ⟨b, 0, none⟩), .int .i64 d, .agg #[.int .i64 c, .int .i64 i], .int .i64 n] W fun e w' => e = .returned (.tuple #[.bool (moP ps d c i n).1, .int .i64 (moP ps d c i n).2]) ∧ Below W.heap.size W w' := by
  have HD : Hid (∀ (z : Int) w, Below W.heap.size W w → z = d → Calls Tryz.prog 80 #[.pointer (some ⟨b, 0, none⟩), .int .i64 z] w fun e w' => e = .returned (.bool (plcI ps d).isSome) ∧ w' = w) := fun z w hb hz => by rw [hz]; exact rIn_t (h.below hb) ht d
  have HN : Hid (∀ (z : Int) w, Below W.heap.size W w → z = n → Calls Tryz.prog 80 #[.pointer (some ⟨b, 0, none⟩), .int .i64 z] w fun e w' => e = .returned (.bool (plcI ps n).isSome) ∧ w' = w) := fun z w hb hz => by rw [hz]; exact rIn_t (h.below hb) ht n
  have HMe : Hid (∀ w, Below W.heap.size W w → Calls Tryz.prog 79 #[.pointer (some ⟨b, 0, none⟩), .agg #[.int .i64 c, .int .i64 i]] w fun e w' => MthS (methI ps c i) e ∧ Below w.heap.size w w') := fun w hb => rMethod_c (h.below hb) ht c i
  cases hm : methI ps c i with
  | none =>
    have e : moP ps d c i n = (false, 3) := by
      unfold moP; rw [hm]
      cases plcI ps d <;> cases plcI ps n <;> cases plcI ps c <;> rfl
    rw [e]
    rw [hm] at HMe
    clear h ht hJ e hm HD HN
    go_enter Tryz.func25, Tryz.ntmps25
    go_wp2_with (first
      | (go_at_call 79; refine (HMe.out _ (by repeat (first | exact Below.refl _ _ | refine Below.setCell ?_ (by simp; try omega) _ | refine Below.alloc ?_ (by simp; try omega) _ | refine Below.drew ?_))).mono ?_; rintro e w1 ⟨hr, hb⟩; simp only [MthS, noM] at hr; subst hr; have B1 : Hid (Below W.heap.size W w1) := bstep (by repeat (first | exact Below.refl _ _ | refine Below.setCell ?_ (by simp; try omega) _ | refine Below.alloc ?_ (by simp; try omega) _ | refine Below.drew ?_)) hb; clear hb HMe))
    exact bodyPost_ret (results_tmp2 rfl _ _ _) rfl ⟨rfl, B1.out.alloc B1.out.size _⟩
  | some x =>
    obtain ⟨k, q, rfl, hq, hqI, _⟩ := meth_plc hm
    have HMf : Hid (∀ w, Below W.heap.size W w → Calls Tryz.prog 79 #[.pointer (some ⟨b, 0, none⟩), .agg #[.int .i64 (k : Int), .int .i64 i]] w fun e w' => (∃ xn xd xl xs xa xk xc, e = .returned (.tuple #[.agg #[.string xn, .string xd, .int .i64 x.fl, .int .i64 xl, .int .i64 xs, .slice xa xk xc], .int .i64 0])) ∧ Below w.heap.size w w') := fun w hb => by
      have := HMe.out w hb
      rw [hm] at this
      refine this.mono fun e w' zz => ⟨?_, zz.2⟩
      obtain ⟨a, m, c, rfl⟩ := zz.1
      exact ⟨_, _, _, _, a, m, c, rfl⟩
    clear HMe
    have HMe := HMf
    clear HMf
    cases hd : plcI ps d with
    | none =>
      have e : moP ps d k i n = (false, 3) := by unfold moP; rw [hd]
      rw [e]
      rw [hd] at HD
      simp only [Option.isSome_none] at HD
      clear h ht hJ e hm hd hq hqI HN
      go_enter Tryz.func25, Tryz.ntmps25
      go_wp2_with (first
        | (go_at_call 79; refine (HMe.out _ (by repeat (first | exact Below.refl _ _ | refine Below.setCell ?_ (by simp; try omega) _ | refine Below.alloc ?_ (by simp; try omega) _ | refine Below.drew ?_))).mono ?_; rintro e w1 ⟨⟨xn, xd, xl, xs, xa, xk, xc, rfl⟩, hb⟩; have B1 : Hid (Below W.heap.size W w1) := bstep (by repeat (first | exact Below.refl _ _ | refine Below.setCell ?_ (by simp; try omega) _ | refine Below.alloc ?_ (by simp; try omega) _ | refine Below.drew ?_)) hb; clear hb HMe)
        | (go_at_call 80; refine (HD.out _ _ (B1.out.alloc B1.out.size _) (by rfl)).mono ?_; rintro e w9 ⟨rfl, hw9⟩; rw [hw9]; clear hw9 w9 HD))
      exact bodyPost_ret (results_tmp2 rfl _ _ _) rfl ⟨rfl, B1.out.alloc B1.out.size _⟩
    | some p =>
      cases hn : plcI ps n with
      | none =>
        have e : moP ps d k i n = (false, 3) := by unfold moP; rw [hd, hn]
        rw [e]
        rw [hd] at HD
        rw [hn] at HN
        simp only [Option.isSome_none, Option.isSome_some] at HN HD
        clear h ht hJ e hm hd hq hqI hn
        go_enter Tryz.func25, Tryz.ntmps25
        go_wp2_with (first
          | (go_at_call 79; refine (HMe.out _ (by repeat (first | exact Below.refl _ _ | refine Below.setCell ?_ (by simp; try omega) _ | refine Below.alloc ?_ (by simp; try omega) _ | refine Below.drew ?_))).mono ?_; rintro e w1 ⟨⟨xn, xd, xl, xs, xa, xk, xc, rfl⟩, hb⟩; have B1 : Hid (Below W.heap.size W w1) := bstep (by repeat (first | exact Below.refl _ _ | refine Below.setCell ?_ (by simp; try omega) _ | refine Below.alloc ?_ (by simp; try omega) _ | refine Below.drew ?_)) hb; clear hb HMe)
          | (go_at_call 80; refine (HD.out _ _ (B1.out.alloc B1.out.size _) (by rfl)).mono ?_; rintro e w9 ⟨rfl, hw9⟩; rw [hw9]; clear hw9 w9 HD)
          | (go_at_call 80; refine (HN.out _ _ (B1.out.alloc B1.out.size _) (by rfl)).mono ?_; rintro e w9 ⟨rfl, hw9⟩; rw [hw9]; clear hw9 w9 HN))
        exact bodyPost_ret (results_tmp2 rfl _ _ _) rfl ⟨rfl, B1.out.alloc B1.out.size _⟩
      | some r =>
        have e : moP ps d k i n = (mOpen ps d k n x.fl (samePk q p), 0) := by unfold moP; rw [hd, hn, hqI, hm]
        rw [e]
        exact rMO_yes h ht hJ k d i n p q x hd hqI (by rw [hn]; rfl) hm


set_option maxRecDepth 100000 in
theorem awake8_c (W : World) : Calls Tryz.prog 22 #[] W fun e w' => e = .returned (.bool true) ∧ Below W.heap.size W w' := by
  have HN : Hid (∀ w : World, Calls Tryz.prog 66 #[] w fun e w' => e = .returned (.pointer (some ⟨w.heap.size + 1, 0, none⟩)) ∧ (∃ vp pv, HW w' w.heap.size (w.heap.size + 1) w.heap.size P3 vp pv) ∧ Below w.heap.size w w') := new_any
  have HO : Hid (∀ (w : World) (b : Nat), WAt b P3 w → Calls Tryz.prog 76 #[.pointer (some ⟨b, 0, none⟩), .int .i64 1, .int .i64 0] w fun e w' => e = .returned (.tuple #[.bool true, .int .i64 0]) ∧ Below w.heap.size w w') := fun w b h => classOpen_c h wi3.pb 1 0
  go_enter Tryz.func22, Tryz.ntmps22
  go_wp2_with (first
    | (go_at_call 66; refine (HN.out _).mono ?_; rintro e w1 ⟨rfl, ⟨vp, pv, hw⟩, hb⟩; have H1 : Hid (WAt (W.heap.size + 1) P3 w1) := hw.wat; have B1 : Hid (Below W.heap.size W w1) := hb; clear hw hb HN)
    | (go_at_call 76; refine (HO.out _ _ H1.out).mono ?_; rintro e w2 ⟨rfl, hb⟩; have B2 : Hid (Below W.heap.size W w2) := bstep B1.out hb; clear hb HO))
  exact bodyPost_ret (results_tmp rfl _ _ _) rfl ⟨rfl, B2.out⟩

theorem clss_keep {w w' : World} {v : Value} {l : List Cls} (h : IsClss w v l) (hb : Below w.heap.size w w') : IsClss w' v l := by
  obtain ⟨ao, cap, rfl, h1, h2, h3⟩ := h
  refine ⟨ao, cap, rfl, h1, h2, fun hne => ?_⟩
  obtain ⟨bk, o, e, hlt, hc⟩ := h3 hne
  refine ⟨bk, o, e, Nat.lt_of_lt_of_le hlt hb.size, fun k c hk => ?_⟩
  obtain ⟨vi, vm, h4, h5⟩ := hc k c hk
  exact ⟨vi, vm, fun j u hj => (hb.cell hlt).trans (h4 j u hj), h5.keep hb⟩


/-- a call of four operands as a step of a region that draws -/
theorem step_call4 {P : Program} {ops : Array Oper} {o : Oper} {a : Act} {w : World} {K : Act → World → Prop} {Q : Exit → Act → World → Prop} {E : Prop} (hg : o.guard = none) (f : Nat) (hf : ∀ (vs : Array Value) (w : World), (callFunc f vs).run P w = .ok (.enter f vs) w) (x y z u : Operand) (t1 t2 t3 t4 : TypeId)
    (hop : o.op = Op.call { callee := Callee.value (Operand.func f), args := #[x, y, z, u], argTypes := #[t1, t2, t3, t4] }) {R : Ending → World → Prop} (v1 v2 v3 v4 : Value) (hv1 : a.eval x = v1) (hv2 : a.eval y = v2) (hv3 : a.eval z = v3) (hv4 : a.eval u = v4) (h : Calls P f #[v1, v2, v3, v4] w R) (hR : ∀ e w', R e w' → ∃ u, e = .returned u ∧ K (a.put o.dst u) w') :
    if Region.wanted o (yielded ops a.tmps) = true then Oper.wp P o a w K Q else E := by
  have hw : Region.wanted o (yielded ops a.tmps) = true := by simp [Region.wanted, hg]
  rw [if_pos hw]
  unfold Oper.wp
  have e : (execOp a.eval o).run P w = .ok (.enter f #[v1, v2, v3, v4]) w := by
    simp [execOp, hop, resolve, invoke, hv1, hv2, hv3, hv4]
    simp [go_sem, hf]
  rw [e, Oper.upon_enter]
  exact h.mono (fun e w' hr => by obtain ⟨u, rfl, hk⟩ := hR e w' hr; exact hk)
theorem callB8 (vs : Array Value) (w : World) : (callFunc 24 vs).run Tryz.prog w = .ok (.enter 24 vs) w := by simp [go_sem]
theorem callMO (vs : Array Value) (w : World) : (callFunc 23 vs).run Tryz.prog w = .ok (.enter 23 vs) w := by simp [go_sem]
theorem callOf (vs : Array Value) (w : World) : (callFunc 17 vs).run Tryz.prog w = .ok (.enter 17 vs) w := by simp [go_sem]
theorem callRMO (vs : Array Value) (w : World) : (callFunc 25 vs).run Tryz.prog w = .ok (.enter 25 vs) w := by simp [go_sem]
set_option maxRecDepth 100000 in
set_option maxHeartbeats 4000000 in
theorem AccessMethods_any (v : Value) (l : List Cls) (d c i n : Int) (W : World) (h : IsClss W v l) : Calls Tryz.prog 4 #[v, .int .i64 d, .agg #[.int .i64 c, .int .i64 i], .int .i64 n] W fun e w' => e = .returned (.bool true) ∧ Below W.heap.size W w' := by
  have hCW := clss_w h
  obtain ⟨hWI, hWJ⟩ := wld_wj l hCW
  have hT := twW l hCW
  obtain ⟨ps, hps⟩ : ∃ ps, ps = wld l := ⟨_, rfl⟩
  obtain ⟨cs, hcs⟩ : ∃ cs, cs = wldC l := ⟨_, rfl⟩
  rw [← hps] at hWI hWJ hT
  rw [← hcs] at hT
  have HA : Hid (∀ w : World, Calls Tryz.prog 22 #[] w fun e w' => e = .returned (.bool true) ∧ Below w.heap.size w w') := awake8_c
  have HB : Hid (∀ w : World, Below W.heap.size W w → Calls Tryz.prog 24 #[v] w fun e w' => (∃ b, e = .returned (.pointer (some ⟨b, 0, none⟩)) ∧ WAt b ps w') ∧ Below w.heap.size w w') := fun w hb => by rw [hps]; exact built8_c v l w (clss_keep h hb)
  have HO : Hid (∀ w : World, Below W.heap.size W w → Calls Tryz.prog 17 #[v] w fun e w' => (∃ b, e = .returned (.pointer (some ⟨b, 0, none⟩)) ∧ RAt b cs w') ∧ Below w.heap.size w w') := fun w hb => by rw [hcs]; exact of_c v l w (clss_keep h hb)
  have M1 : Hid (∀ b w, WAt b ps w → Calls Tryz.prog 23 #[.pointer (some ⟨b, 0, none⟩), .int .i64 d, .agg #[.int .i64 c, .int .i64 i], .int .i64 n] w fun e w' => e = .returned (.tuple #[.bool (moP ps d c i n).1, .int .i64 (moP ps d c i n).2]) ∧ Below w.heap.size w w') := fun b w hw => (methodOpen_c hw hWI d c i n).mono fun e w' zz => ⟨by rw [zz.1, moI_eq], zz.2⟩
  have M2 : Hid (∀ b w, RAt b cs w → Calls Tryz.prog 25 #[.pointer (some ⟨b, 0, none⟩), .int .i64 d, .agg #[.int .i64 c, .int .i64 i], .int .i64 n] w fun e w' => e = .returned (.tuple #[.bool (moP ps d c i n).1, .int .i64 (moP ps d c i n).2]) ∧ Below w.heap.size w w') := fun b w hw => rMO_c hw hT hWJ d c i n
  generalize moP ps d c i n = R at *
  obtain ⟨R1, R2⟩ := R
  simp only at M1 M2
  obtain ⟨av, nv, cv, rfl⟩ : ∃ a n c, v = .slice a n c := by
    obtain ⟨ao, cap, e, _⟩ := h
    exact ⟨_, _, _, e⟩
  clear h hCW hWI hWJ hT hps hcs
  have BB : Hid (Below W.heap.size W W) := Below.refl _ _
  go_enter Tryz.func4, Tryz.ntmps4
  go_wp2_with (first
    | (go_at_call 22; refine (HA.out _).mono ?_; rintro e w1 ⟨rfl, hb⟩; have md : w1.heap[W.heap.size]? = some (.cells #[.int .i64 c, .int .i64 i] 38 (0, 0)) := (hb.block (W.heap.size) (by first | omega | (simp; try omega))).trans (by first | exact mB.out | exact hkeep mB.out | exact hkeep (hkeep mB.out) | exact halloc2 _ _ rfl | exact heap_alloc2_old _ _ _ | exact heap_alloc2_new _ _ _ | exact hkeep (halloc2 _ _ rfl) | exact hkeep (hkeep (halloc2 _ _ rfl)) | exact halloc2 _ _ (by simp; done)); (try clear mB mL mN m0 m1 mf0 mf1); have mB : Hid (w1.heap[W.heap.size]? = some (.cells #[.int .i64 c, .int .i64 i] 38 (0, 0))) := md; have m0 : w1.cell? ⟨W.heap.size, 0, none⟩ = some (.int .i64 c) := (cell_of_row w1 (W.heap.size) 0 _ _ _ md).trans rfl; have mf0 := frozen_of_row w1 (W.heap.size) 0 _ _ md; have m1 : w1.cell? ⟨W.heap.size, 1, none⟩ = some (.int .i64 i) := (cell_of_row w1 (W.heap.size) 1 _ _ _ md).trans rfl; have mf1 := frozen_of_row w1 (W.heap.size) 1 _ _ md; have mL : W.heap.size < w1.heap.size := (Array.getElem?_eq_some_iff.1 md).1; have mN : ¬ W.heap.size = w1.heap.size := (by omega); clear md; have BB2 : Below W.heap.size W w1 := bstep (by repeat (first | exact BB.out | exact Below.refl _ _ | refine Below.setCell ?_ (by simp; try omega) _ | refine Below.alloc ?_ (by have := BB.out.size; simp; try omega) _ | refine Below.drew ?_)) hb; clear BB; have BB : Hid (Below W.heap.size W w1) := BB2; clear hb HA BB2))
  go_region_law (first
    | (refine step_call1 rfl 24 callB8 (.tmp 16) 22 rfl (.slice av nv cv) (by simp [Act.eval, Act.put]) (HB.out _ BB.out.drew) ?_; rintro e w2 ⟨⟨b, rfl, hw⟩, hb⟩; refine ⟨_, rfl, ?_⟩; have k0 := (hb.cell (p := ⟨W.heap.size, 0, none⟩) mL).trans m0; have k1 := (hb.cell (p := ⟨W.heap.size, 1, none⟩) mL).trans m1; have kL : W.heap.size < w2.heap.size := Nat.lt_of_lt_of_le mL hb.size; have kB : Hid (w2.heap[W.heap.size]? = some (.cells #[.int .i64 c, .int .i64 i] 38 (0, 0))) := (hb.block W.heap.size mL).trans mB.out; have H2 : Hid (WAt b ps w2) := hw; have B2 : Hid (Below W.heap.size W w2) := bstep BB.out.drew hb; clear hb hw HB)
    | (refine step_call4 rfl 23 callMO (.tmp 17) (.tmp 18) (.tmp 19) (.tmp 20) 26 3 38 3 rfl (.pointer (some ⟨b, 0, none⟩)) (.int .i64 d) (.agg #[.int .i64 c, .int .i64 i]) (.int .i64 n) (by simp [Act.eval]) (by simp [Act.eval]) (by simp [Act.eval]) (by simp [Act.eval]) (M1.out _ _ H2.out) ?_; rintro e w3 ⟨rfl, hb⟩; refine ⟨_, rfl, ?_⟩; have B3 : Hid (Below W.heap.size W w3) := bstep B2.out hb; have j0 := (hb.cell (p := ⟨W.heap.size, 0, none⟩) kL).trans k0; have j1 := (hb.cell (p := ⟨W.heap.size, 1, none⟩) kL).trans k1; have jL : W.heap.size < w3.heap.size := Nat.lt_of_lt_of_le kL hb.size; clear hb M1))
  all_goals
    clear m0 m1 mf0 mf1 mL mN mB k0 k1 kL kB
    go_wp2
    simp [Act.put]
    go_region_law (first
      | (refine step_call1 rfl 17 callOf (.tmp 25) 22 rfl (.slice av nv cv) (by simp [Act.eval, Act.put]) (HO.out _ B3.out.drew) ?_; rintro e w4 ⟨⟨bx, rfl, hw⟩, hb⟩; refine ⟨_, rfl, ?_⟩; have k0 := (hb.cell (p := ⟨W.heap.size, 0, none⟩) jL).trans j0; have k1 := (hb.cell (p := ⟨W.heap.size, 1, none⟩) jL).trans j1; have H4 : Hid (RAt bx cs w4) := hw; have B4 : Hid (Below W.heap.size W w4) := bstep B3.out.drew hb; clear hb hw HO)
      | (refine step_call4 rfl 25 callRMO (.tmp 26) (.tmp 27) (.tmp 28) (.tmp 29) 28 3 38 3 rfl (.pointer (some ⟨bx, 0, none⟩)) (.int .i64 d) (.agg #[.int .i64 c, .int .i64 i]) (.int .i64 n) (by simp [Act.eval]) (by simp [Act.eval]) (by simp [Act.eval]) (by simp [Act.eval]) (M2.out _ _ H4.out) ?_; rintro e w5 ⟨rfl, hb⟩; refine ⟨_, rfl, ?_⟩; have B5 : Hid (Below W.heap.size W w5) := bstep B4.out hb; clear hb M2))
    all_goals go_wp2
    all_goals (try simp [Act.put])
    all_goals (try go_wp2)
    all_goals go_ret
    all_goals exact ⟨retB (by simp), B5.out⟩
end Go.Proofs.YtgppadlkollfaaaGreat
