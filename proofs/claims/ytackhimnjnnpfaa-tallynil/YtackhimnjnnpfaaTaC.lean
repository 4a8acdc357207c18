/- The laws of layer 16: awake; TallyTwo. -/
import Derived.Test.YtackhimnjnnpfaaTaB
namespace Go.Proofs.Ytackhimnjnnpfaa
open Go.RowKit

theorem tadd_in {W : World} {p q : Nat} {xs : List Int} (h : TAt W p q xs) (k : Nat) (x y s : Int) (hx : xs[k]? = some x) (hs : wrap64 (x + y) = s) : Calls Try.prog 15 #[.pointer (some ⟨p, 0, none⟩), .int .i64 (k : Int), .int .i64 y] W fun e w' => e = .returned (.tuple #[.int .i64 s, .int .i64 0]) ∧ TAt w' p q (xs.set k s) ∧ w'.heap.size = W.heap.size ∧ (∀ j, j ≠ q → w'.heap[j]? = W.heap[j]?) ∧ (∀ N, N ≤ q → Below N W w') := by
  refine (tadd_yes h k x y hx).mono ?_
  rintro e w' ⟨rfl, rfl⟩
  rw [hs]
  exact ⟨rfl, h.set k s, by simp, fun j hj => Below.heap_setCell _ _ _ _ hj, fun N hN => (Below.refl N W).setCell (p := ⟨q, k, none⟩) hN _⟩

set_option maxRecDepth 100000 in
theorem tawake_c (W : World) : Calls Try.prog 7 #[] W fun e w' => e = .returned (.bool true) ∧ Below W.heap.size W w' := by
  have HN : Hid (Calls Try.prog 8 #[.int .i64 2] W fun e w' => e = .returned (.tuple #[.pointer (some ⟨W.heap.size + 1, 0, none⟩), .int .i64 0]) ∧ TAt w' (W.heap.size + 1) W.heap.size (List.replicate 2 0) ∧ Below W.heap.size W w' ∧ w'.heap.size = W.heap.size + 2) := tnew_yes 2 (by decide) (by decide) W
  have e5 : Hid (wrap64 (0 + 5) = 5) := by unfold Hid wrap64; decide
  go_enter Try.func7, Try.ntmps7
  go_wp2_with (go_at_call 8; refine HN.out.mono ?_; rintro e w1 ⟨rfl, h1, hb, hs⟩; have T1 : Hid (TAt w1 (W.heap.size + 1) W.heap.size [0, 0]) := h1; have B1 : Hid (Below W.heap.size W w1) := hb; clear h1 hb hs HN)
  go_wp2_with (go_at_call 15; refine (tadd_in T1.out 1 0 5 5 rfl e5.out).mono ?_; rintro e w2 ⟨rfl, h1, _, _, hb⟩; have T2 : Hid (TAt w2 (W.heap.size + 1) W.heap.size [0, 5]) := h1; have B2 : Hid (Below W.heap.size W w2) := B1.out.trans (hb _ (Nat.le_refl _)); clear T1 B1 h1 hb)
  go_wp2_with (go_at_call 10; refine (tlen_c T2.out).mono ?_; rintro e w3 ⟨rfl, rfl⟩)
  go_ret
  exact ⟨rfl, B2.out⟩

set_option maxRecDepth 100000 in
set_option maxHeartbeats 4000000 in
theorem two_no (n k y m : Int) (h : n < 1 ∨ 64 < n) (W : World) : Calls Try.prog 5 #[.int .i64 n, .int .i64 k, .int .i64 y, .int .i64 m] W fun e w' => e = .returned (.bool true) ∧ Below W.heap.size W w' := by
  have HA : Hid (∀ w, Calls Try.prog 7 #[] w fun e w' => e = .returned (.bool true) ∧ Below w.heap.size w w') := tawake_c
  have HN : Hid (∀ w, Calls Try.prog 8 #[.int .i64 n] w fun e w' => e = .returned (.tuple #[.pointer none, .int .i64 7]) ∧ w' = w) := tnew_no n h
  clear h
  go_enter Try.func5, Try.ntmps5
  go_wp2_with (first | (go_at_call 7; refine (HA.out _).mono ?_; rintro e w1 ⟨rfl, hb⟩; have B1 : Hid (Below W.heap.size W w1) := hb; clear hb) | (go_at_call 8; refine (HN.out _).mono ?_; rintro e w2 ⟨rfl, rfl⟩))
  go_ret
  exact ⟨rfl, B1.out⟩

/-- where the first tally's block lies ahead of the second's -/
theorem two_far {w w' : World} {p q q2 : Nat} {xs : List Int} (T : TAt w p q xs) (hT : ∀ j, j ≠ q2 → w'.heap[j]? = w.heap[j]?) (h1 : p ≠ q2) (h2 : q ≠ q2) : TAt w' p q xs := T.keep (hT p h1) (hT q h2)

set_option maxRecDepth 100000 in
set_option maxHeartbeats 4000000 in
theorem two_out1 (n : Nat) (k y m : Int) (h1 : 1 ≤ n) (h2 : n ≤ 64) (g1 : k < 0) (W : World) : Calls Try.prog 5 #[.int .i64 (n : Int), .int .i64 k, .int .i64 y, .int .i64 m] W fun e w' => e = .returned (.bool true) ∧ Below W.heap.size W w' := by
  have HA : Hid (∀ w, Calls Try.prog 7 #[] w fun e w' => e = .returned (.bool true) ∧ Below w.heap.size w w') := tawake_c
  have HN : Hid (∀ w, Calls Try.prog 8 #[.int .i64 (n : Int)] w fun e w' => e = .returned (.tuple #[.pointer (some ⟨w.heap.size + 1, 0, none⟩), .int .i64 0]) ∧ TAt w' (w.heap.size + 1) w.heap.size (List.replicate n 0) ∧ Below w.heap.size w w' ∧ w'.heap.size = w.heap.size + 2) := tnew_yes n h1 h2
  have HK : Hid (k < 0 ∨ ((List.replicate n (0 : Int)).length : Int) ≤ k) := by unfold Hid; rw [List.length_replicate]; omega
  go_enter Try.func5, Try.ntmps5
  go_wp2_with (go_at_call 7; refine (HA.out _).mono ?_; rintro e w1 ⟨rfl, hb⟩; have B1 : Hid (Below W.heap.size W w1) := hb; clear hb)
  go_wp2_with (go_at_call 8; refine (HN.out _).mono ?_; rintro e w2 ⟨rfl, ht, hb, hs⟩; have T2 : Hid (TAt w2 (w1.heap.size + 1) w1.heap.size (List.replicate n 0)) := ht; have L2 : Hid (w1.heap.size + 2 = w2.heap.size) := hs.symm; have L1 : Hid (W.heap.size ≤ w1.heap.size) := B1.out.size; have B2 : Hid (Below W.heap.size W w2) := B1.out.trans (hb.mono B1.out.size); clear hb hs ht B1)
  go_wp2_with (go_at_call 8; refine (HN.out _).mono ?_; rintro e w3 ⟨rfl, ht, hb, hs⟩; have T3 : Hid (TAt w3 (w1.heap.size + 1) w1.heap.size (List.replicate n 0)) := T2.out.below hb; have U3 : Hid (TAt w3 (w2.heap.size + 1) w2.heap.size (List.replicate n 0)) := ht; have B3 : Hid (Below W.heap.size W w3) := B2.out.trans (hb.mono B2.out.size); clear hb hs ht B2 T2 HN)
  go_wp2_with (go_at_call 15; refine (tadd_no T3.out k y HK.out).mono ?_; rintro e w4 ⟨rfl, rfl⟩)
  go_ret
  exact ⟨rfl, B3.out⟩
set_option maxRecDepth 100000 in
set_option maxHeartbeats 4000000 in
theorem two_out2 (n : Nat) (k y m : Int) (h1 : 1 ≤ n) (h2 : n ≤ 64) (g1 : ¬ k < 0) (g2 : (n : Int) ≤ k) (W : World) : Calls Try.prog 5 #[.int .i64 (n : Int), .int .i64 k, .int .i64 y, .int .i64 m] W fun e w' => e = .returned (.bool true) ∧ Below W.heap.size W w' := by
  have HA : Hid (∀ w, Calls Try.prog 7 #[] w fun e w' => e = .returned (.bool true) ∧ Below w.heap.size w w') := tawake_c
  have HN : Hid (∀ w, Calls Try.prog 8 #[.int .i64 (n : Int)] w fun e w' => e = .returned (.tuple #[.pointer (some ⟨w.heap.size + 1, 0, none⟩), .int .i64 0]) ∧ TAt w' (w.heap.size + 1) w.heap.size (List.replicate n 0) ∧ Below w.heap.size w w' ∧ w'.heap.size = w.heap.size + 2) := tnew_yes n h1 h2
  have HK : Hid (k < 0 ∨ ((List.replicate n (0 : Int)).length : Int) ≤ k) := by unfold Hid; rw [List.length_replicate]; omega
  go_enter Try.func5, Try.ntmps5
  go_wp2_with (go_at_call 7; refine (HA.out _).mono ?_; rintro e w1 ⟨rfl, hb⟩; have B1 : Hid (Below W.heap.size W w1) := hb; clear hb)
  go_wp2_with (go_at_call 8; refine (HN.out _).mono ?_; rintro e w2 ⟨rfl, ht, hb, hs⟩; have T2 : Hid (TAt w2 (w1.heap.size + 1) w1.heap.size (List.replicate n 0)) := ht; have L2 : Hid (w1.heap.size + 2 = w2.heap.size) := hs.symm; have L1 : Hid (W.heap.size ≤ w1.heap.size) := B1.out.size; have B2 : Hid (Below W.heap.size W w2) := B1.out.trans (hb.mono B1.out.size); clear hb hs ht B1)
  go_wp2_with (go_at_call 8; refine (HN.out _).mono ?_; rintro e w3 ⟨rfl, ht, hb, hs⟩; have T3 : Hid (TAt w3 (w1.heap.size + 1) w1.heap.size (List.replicate n 0)) := T2.out.below hb; have U3 : Hid (TAt w3 (w2.heap.size + 1) w2.heap.size (List.replicate n 0)) := ht; have B3 : Hid (Below W.heap.size W w3) := B2.out.trans (hb.mono B2.out.size); clear hb hs ht B2 T2 HN)
  go_wp2_with (go_at_call 15; refine (tadd_no T3.out k y HK.out).mono ?_; rintro e w4 ⟨rfl, rfl⟩)
  go_ret
  exact ⟨rfl, B3.out⟩
set_option linter.unusedVariables false in
set_option maxRecDepth 100000 in
set_option maxHeartbeats 4000000 in
theorem two_a1 (n k : Nat) (y m : Int) (h1 : 1 ≤ n) (h2 : n ≤ 64) (hk : k < n) (hy : -9223372036854775808 ≤ y ∧ y ≤ 9223372036854775807) (hm : -9223372036854775808 ≤ m ∧ m ≤ 9223372036854775807) (g0 : m ≤ y) (g1 : y ≤ -1000000) (W : World) : Calls Try.prog 5 #[.int .i64 (n : Int), .int .i64 (k : Int), .int .i64 y, .int .i64 m] W fun e w' => e = .returned (.bool true) ∧ Below W.heap.size W w' := by
  have HA : Hid (∀ w, Calls Try.prog 7 #[] w fun e w' => e = .returned (.bool true) ∧ Below w.heap.size w w') := tawake_c
  have HN : Hid (∀ w, Calls Try.prog 8 #[.int .i64 (n : Int)] w fun e w' => e = .returned (.tuple #[.pointer (some ⟨w.heap.size + 1, 0, none⟩), .int .i64 0]) ∧ TAt w' (w.heap.size + 1) w.heap.size (List.replicate n 0) ∧ Below w.heap.size w w' ∧ w'.heap.size = w.heap.size + 2) := tnew_yes n h1 h2
  have gk : ¬ (k : Int) < 0 := by omega
  have gn : ¬ (n : Int) ≤ (k : Int) := by omega
  have EY : Hid (wrap64 (0 + y) = y) := by unfold Hid wrap64; omega
  have EZ : Hid (max y m = y) := by unfold Hid; omega
  have X0 : Hid ((List.replicate n (0 : Int))[k]? = some 0) := by rw [Hid, List.getElem?_replicate, if_pos hk]
  have X1 : Hid (∀ v : Int, ((List.replicate n (0 : Int)).set k v)[k]? = some v) := fun v => by rw [List.getElem?_set_self (by rw [List.length_replicate]; exact hk)]
  have X2 : Hid (∀ v u : Int, (((List.replicate n (0 : Int)).set k v).set k u)[k]? = some u) := fun v u => by rw [List.getElem?_set_self (by rw [List.length_set, List.length_replicate]; exact hk)]
  go_enter Try.func5, Try.ntmps5
  go_wp2_with (go_at_call 7; refine (HA.out _).mono ?_; rintro e w1 ⟨rfl, hb⟩; have B1 : Hid (Below W.heap.size W w1) := hb; clear hb)
  go_wp2_with (go_at_call 8; refine (HN.out _).mono ?_; rintro e w2 ⟨rfl, ht, hb, hs⟩; have T2 : Hid (TAt w2 (w1.heap.size + 1) w1.heap.size (List.replicate n 0)) := ht; have L2 : Hid (w1.heap.size + 2 = w2.heap.size) := hs.symm; have L1 : Hid (W.heap.size ≤ w1.heap.size) := B1.out.size; have B2 : Hid (Below W.heap.size W w2) := B1.out.trans (hb.mono B1.out.size); clear hb hs ht B1)
  go_wp2_with (go_at_call 8; refine (HN.out _).mono ?_; rintro e w3 ⟨rfl, ht, hb, hs⟩; have T3 : Hid (TAt w3 (w1.heap.size + 1) w1.heap.size (List.replicate n 0)) := T2.out.below hb; have U3 : Hid (TAt w3 (w2.heap.size + 1) w2.heap.size (List.replicate n 0)) := ht; have B3 : Hid (Below W.heap.size W w3) := B2.out.trans (hb.mono B2.out.size); clear hb hs ht B2 T2 HN)
  go_wp2_with (go_at_call 15; refine (tadd_in T3.out k 0 y y X0.out EY.out).mono ?_; rintro e w4 ⟨rfl, ht, _, hf, hb⟩; have T4 : Hid (TAt w4 (w1.heap.size + 1) w1.heap.size ((List.replicate n (0 : Int)).set k y)) := ht; have U4 : Hid (TAt w4 (w2.heap.size + 1) w2.heap.size (List.replicate n (0 : Int))) := two_far U3.out hf (by have := L2.out; omega) (by have := L2.out; omega); have B4 : Hid (Below W.heap.size W w4) := B3.out.trans (hb _ L1.out); clear ht hf hb B3 U3 T3)
  go_wp2_with (go_at_call 16; refine (tread_yes U4.out k 0 X0.out).mono ?_; rintro e w5 ⟨rfl, rfl⟩; clear U4)
  go_wp2_with (go_at_call 17; refine (tmost_yes T4.out k y m (X1.out y)).mono ?_; rw [EZ.out]; rintro e w6 ⟨rfl, ht, _, hf, hb⟩; have T6 : Hid (TAt w6 (w1.heap.size + 1) w1.heap.size (((List.replicate n (0 : Int)).set k y).set k (y))) := ht; have B6 : Hid (Below W.heap.size W w6) := B4.out.trans (hb _ L1.out); clear ht hf hb B4 T4)
  go_wp2_with (go_at_call 16; refine (tread_yes T6.out k (y) (X2.out y (y))).mono ?_; rintro e w7 ⟨rfl, rfl⟩)
  go_ret
  exact ⟨rfl, B6.out⟩
set_option linter.unusedVariables false in
set_option maxRecDepth 100000 in
set_option maxHeartbeats 4000000 in
theorem two_a2 (n k : Nat) (y m : Int) (h1 : 1 ≤ n) (h2 : n ≤ 64) (hk : k < n) (hy : -9223372036854775808 ≤ y ∧ y ≤ 9223372036854775807) (hm : -9223372036854775808 ≤ m ∧ m ≤ 9223372036854775807) (g0 : m ≤ y) (g1 : ¬ y ≤ -1000000) (g2 : 1000000 ≤ y) (W : World) : Calls Try.prog 5 #[.int .i64 (n : Int), .int .i64 (k : Int), .int .i64 y, .int .i64 m] W fun e w' => e = .returned (.bool true) ∧ Below W.heap.size W w' := by
  have HA : Hid (∀ w, Calls Try.prog 7 #[] w fun e w' => e = .returned (.bool true) ∧ Below w.heap.size w w') := tawake_c
  have HN : Hid (∀ w, Calls Try.prog 8 #[.int .i64 (n : Int)] w fun e w' => e = .returned (.tuple #[.pointer (some ⟨w.heap.size + 1, 0, none⟩), .int .i64 0]) ∧ TAt w' (w.heap.size + 1) w.heap.size (List.replicate n 0) ∧ Below w.heap.size w w' ∧ w'.heap.size = w.heap.size + 2) := tnew_yes n h1 h2
  have gk : ¬ (k : Int) < 0 := by omega
  have gn : ¬ (n : Int) ≤ (k : Int) := by omega
  have EY : Hid (wrap64 (0 + y) = y) := by unfold Hid wrap64; omega
  have EZ : Hid (max y m = y) := by unfold Hid; omega
  have X0 : Hid ((List.replicate n (0 : Int))[k]? = some 0) := by rw [Hid, List.getElem?_replicate, if_pos hk]
  have X1 : Hid (∀ v : Int, ((List.replicate n (0 : Int)).set k v)[k]? = some v) := fun v => by rw [List.getElem?_set_self (by rw [List.length_replicate]; exact hk)]
  have X2 : Hid (∀ v u : Int, (((List.replicate n (0 : Int)).set k v).set k u)[k]? = some u) := fun v u => by rw [List.getElem?_set_self (by rw [List.length_set, List.length_replicate]; exact hk)]
  go_enter Try.func5, Try.ntmps5
  go_wp2_with (go_at_call 7; refine (HA.out _).mono ?_; rintro e w1 ⟨rfl, hb⟩; have B1 : Hid (Below W.heap.size W w1) := hb; clear hb)
  go_wp2_with (go_at_call 8; refine (HN.out _).mono ?_; rintro e w2 ⟨rfl, ht, hb, hs⟩; have T2 : Hid (TAt w2 (w1.heap.size + 1) w1.heap.size (List.replicate n 0)) := ht; have L2 : Hid (w1.heap.size + 2 = w2.heap.size) := hs.symm; have L1 : Hid (W.heap.size ≤ w1.heap.size) := B1.out.size; have B2 : Hid (Below W.heap.size W w2) := B1.out.trans (hb.mono B1.out.size); clear hb hs ht B1)
  go_wp2_with (go_at_call 8; refine (HN.out _).mono ?_; rintro e w3 ⟨rfl, ht, hb, hs⟩; have T3 : Hid (TAt w3 (w1.heap.size + 1) w1.heap.size (List.replicate n 0)) := T2.out.below hb; have U3 : Hid (TAt w3 (w2.heap.size + 1) w2.heap.size (List.replicate n 0)) := ht; have B3 : Hid (Below W.heap.size W w3) := B2.out.trans (hb.mono B2.out.size); clear hb hs ht B2 T2 HN)
  go_wp2_with (go_at_call 15; refine (tadd_in T3.out k 0 y y X0.out EY.out).mono ?_; rintro e w4 ⟨rfl, ht, _, hf, hb⟩; have T4 : Hid (TAt w4 (w1.heap.size + 1) w1.heap.size ((List.replicate n (0 : Int)).set k y)) := ht; have U4 : Hid (TAt w4 (w2.heap.size + 1) w2.heap.size (List.replicate n (0 : Int))) := two_far U3.out hf (by have := L2.out; omega) (by have := L2.out; omega); have B4 : Hid (Below W.heap.size W w4) := B3.out.trans (hb _ L1.out); clear ht hf hb B3 U3 T3)
  go_wp2_with (go_at_call 16; refine (tread_yes U4.out k 0 X0.out).mono ?_; rintro e w5 ⟨rfl, rfl⟩; clear U4)
  go_wp2_with (go_at_call 17; refine (tmost_yes T4.out k y m (X1.out y)).mono ?_; rw [EZ.out]; rintro e w6 ⟨rfl, ht, _, hf, hb⟩; have T6 : Hid (TAt w6 (w1.heap.size + 1) w1.heap.size (((List.replicate n (0 : Int)).set k y).set k (y))) := ht; have B6 : Hid (Below W.heap.size W w6) := B4.out.trans (hb _ L1.out); clear ht hf hb B4 T4)
  go_wp2_with (go_at_call 16; refine (tread_yes T6.out k (y) (X2.out y (y))).mono ?_; rintro e w7 ⟨rfl, rfl⟩)
  go_ret
  exact ⟨rfl, B6.out⟩
set_option linter.unusedVariables false in
set_option maxRecDepth 100000 in
set_option maxHeartbeats 4000000 in
theorem two_a3 (n k : Nat) (y m : Int) (h1 : 1 ≤ n) (h2 : n ≤ 64) (hk : k < n) (hy : -9223372036854775808 ≤ y ∧ y ≤ 9223372036854775807) (hm : -9223372036854775808 ≤ m ∧ m ≤ 9223372036854775807) (g0 : m ≤ y) (g1 : ¬ y ≤ -1000000) (g2 : ¬ 1000000 ≤ y) (W : World) : Calls Try.prog 5 #[.int .i64 (n : Int), .int .i64 (k : Int), .int .i64 y, .int .i64 m] W fun e w' => e = .returned (.bool true) ∧ Below W.heap.size W w' := by
  have HA : Hid (∀ w, Calls Try.prog 7 #[] w fun e w' => e = .returned (.bool true) ∧ Below w.heap.size w w') := tawake_c
  have HN : Hid (∀ w, Calls Try.prog 8 #[.int .i64 (n : Int)] w fun e w' => e = .returned (.tuple #[.pointer (some ⟨w.heap.size + 1, 0, none⟩), .int .i64 0]) ∧ TAt w' (w.heap.size + 1) w.heap.size (List.replicate n 0) ∧ Below w.heap.size w w' ∧ w'.heap.size = w.heap.size + 2) := tnew_yes n h1 h2
  have gk : ¬ (k : Int) < 0 := by omega
  have gn : ¬ (n : Int) ≤ (k : Int) := by omega
  have EY : Hid (wrap64 (0 + y) = y) := by unfold Hid wrap64; omega
  have EZ : Hid (max y m = y) := by unfold Hid; omega
  have X0 : Hid ((List.replicate n (0 : Int))[k]? = some 0) := by rw [Hid, List.getElem?_replicate, if_pos hk]
  have X1 : Hid (∀ v : Int, ((List.replicate n (0 : Int)).set k v)[k]? = some v) := fun v => by rw [List.getElem?_set_self (by rw [List.length_replicate]; exact hk)]
  have X2 : Hid (∀ v u : Int, (((List.replicate n (0 : Int)).set k v).set k u)[k]? = some u) := fun v u => by rw [List.getElem?_set_self (by rw [List.length_set, List.length_replicate]; exact hk)]
  go_enter Try.func5, Try.ntmps5
  go_wp2_with (go_at_call 7; refine (HA.out _).mono ?_; rintro e w1 ⟨rfl, hb⟩; have B1 : Hid (Below W.heap.size W w1) := hb; clear hb)
  go_wp2_with (go_at_call 8; refine (HN.out _).mono ?_; rintro e w2 ⟨rfl, ht, hb, hs⟩; have T2 : Hid (TAt w2 (w1.heap.size + 1) w1.heap.size (List.replicate n 0)) := ht; have L2 : Hid (w1.heap.size + 2 = w2.heap.size) := hs.symm; have L1 : Hid (W.heap.size ≤ w1.heap.size) := B1.out.size; have B2 : Hid (Below W.heap.size W w2) := B1.out.trans (hb.mono B1.out.size); clear hb hs ht B1)
  go_wp2_with (go_at_call 8; refine (HN.out _).mono ?_; rintro e w3 ⟨rfl, ht, hb, hs⟩; have T3 : Hid (TAt w3 (w1.heap.size + 1) w1.heap.size (List.replicate n 0)) := T2.out.below hb; have U3 : Hid (TAt w3 (w2.heap.size + 1) w2.heap.size (List.replicate n 0)) := ht; have B3 : Hid (Below W.heap.size W w3) := B2.out.trans (hb.mono B2.out.size); clear hb hs ht B2 T2 HN)
  go_wp2_with (go_at_call 15; refine (tadd_in T3.out k 0 y y X0.out EY.out).mono ?_; rintro e w4 ⟨rfl, ht, _, hf, hb⟩; have T4 : Hid (TAt w4 (w1.heap.size + 1) w1.heap.size ((List.replicate n (0 : Int)).set k y)) := ht; have U4 : Hid (TAt w4 (w2.heap.size + 1) w2.heap.size (List.replicate n (0 : Int))) := two_far U3.out hf (by have := L2.out; omega) (by have := L2.out; omega); have B4 : Hid (Below W.heap.size W w4) := B3.out.trans (hb _ L1.out); clear ht hf hb B3 U3 T3)
  go_wp2_with (go_at_call 16; refine (tread_yes U4.out k 0 X0.out).mono ?_; rintro e w5 ⟨rfl, rfl⟩; clear U4)
  go_wp2_with (go_at_call 17; refine (tmost_yes T4.out k y m (X1.out y)).mono ?_; rw [EZ.out]; rintro e w6 ⟨rfl, ht, _, hf, hb⟩; have T6 : Hid (TAt w6 (w1.heap.size + 1) w1.heap.size (((List.replicate n (0 : Int)).set k y).set k (y))) := ht; have B6 : Hid (Below W.heap.size W w6) := B4.out.trans (hb _ L1.out); clear ht hf hb B4 T4)
  go_wp2_with (go_at_call 16; refine (tread_yes T6.out k (y) (X2.out y (y))).mono ?_; rintro e w7 ⟨rfl, rfl⟩)
  have E0 : Hid (wrap64 (y + -(y)) = 0) := by unfold Hid wrap64; omega
  have X3 : Hid (∀ v u t : Int, ((((List.replicate n (0 : Int)).set k v).set k u).set k t)[k]? = some t) := fun v u t => by rw [List.getElem?_set_self (by rw [List.length_set, List.length_set, List.length_replicate]; exact hk)]
  go_wp2_with (go_at_call 15; refine (tadd_in T6.out k (y) (-(y)) 0 (X2.out y (y)) E0.out).mono ?_; rintro e w8 ⟨rfl, ht, _, hf, hb⟩; have T8 : Hid (TAt w8 (w1.heap.size + 1) w1.heap.size ((((List.replicate n (0 : Int)).set k y).set k (y)).set k 0)) := ht; have B8 : Hid (Below W.heap.size W w8) := B6.out.trans (hb _ L1.out); clear ht hf hb B6 T6)
  go_wp2_with (go_at_call 16; refine (tread_yes T8.out k 0 (X3.out _ _ _)).mono ?_; rintro e w9 ⟨rfl, rfl⟩)
  go_ret
  exact ⟨rfl, B8.out⟩
set_option linter.unusedVariables false in
set_option maxRecDepth 100000 in
set_option maxHeartbeats 4000000 in
theorem two_b1 (n k : Nat) (y m : Int) (h1 : 1 ≤ n) (h2 : n ≤ 64) (hk : k < n) (hy : -9223372036854775808 ≤ y ∧ y ≤ 9223372036854775807) (hm : -9223372036854775808 ≤ m ∧ m ≤ 9223372036854775807) (g0 : y < m) (g1 : m ≤ -1000000) (W : World) : Calls Try.prog 5 #[.int .i64 (n : Int), .int .i64 (k : Int), .int .i64 y, .int .i64 m] W fun e w' => e = .returned (.bool true) ∧ Below W.heap.size W w' := by
  have HA : Hid (∀ w, Calls Try.prog 7 #[] w fun e w' => e = .returned (.bool true) ∧ Below w.heap.size w w') := tawake_c
  have HN : Hid (∀ w, Calls Try.prog 8 #[.int .i64 (n : Int)] w fun e w' => e = .returned (.tuple #[.pointer (some ⟨w.heap.size + 1, 0, none⟩), .int .i64 0]) ∧ TAt w' (w.heap.size + 1) w.heap.size (List.replicate n 0) ∧ Below w.heap.size w w' ∧ w'.heap.size = w.heap.size + 2) := tnew_yes n h1 h2
  have gk : ¬ (k : Int) < 0 := by omega
  have gn : ¬ (n : Int) ≤ (k : Int) := by omega
  have EY : Hid (wrap64 (0 + y) = y) := by unfold Hid wrap64; omega
  have EZ : Hid (max y m = m) := by unfold Hid; omega
  have X0 : Hid ((List.replicate n (0 : Int))[k]? = some 0) := by rw [Hid, List.getElem?_replicate, if_pos hk]
  have X1 : Hid (∀ v : Int, ((List.replicate n (0 : Int)).set k v)[k]? = some v) := fun v => by rw [List.getElem?_set_self (by rw [List.length_replicate]; exact hk)]
  have X2 : Hid (∀ v u : Int, (((List.replicate n (0 : Int)).set k v).set k u)[k]? = some u) := fun v u => by rw [List.getElem?_set_self (by rw [List.length_set, List.length_replicate]; exact hk)]
  go_enter Try.func5, Try.ntmps5
  go_wp2_with (go_at_call 7; refine (HA.out _).mono ?_; rintro e w1 ⟨rfl, hb⟩; have B1 : Hid (Below W.heap.size W w1) := hb; clear hb)
  go_wp2_with (go_at_call 8; refine (HN.out _).mono ?_; rintro e w2 ⟨rfl, ht, hb, hs⟩; have T2 : Hid (TAt w2 (w1.heap.size + 1) w1.heap.size (List.replicate n 0)) := ht; have L2 : Hid (w1.heap.size + 2 = w2.heap.size) := hs.symm; have L1 : Hid (W.heap.size ≤ w1.heap.size) := B1.out.size; have B2 : Hid (Below W.heap.size W w2) := B1.out.trans (hb.mono B1.out.size); clear hb hs ht B1)
  go_wp2_with (go_at_call 8; refine (HN.out _).mono ?_; rintro e w3 ⟨rfl, ht, hb, hs⟩; have T3 : Hid (TAt w3 (w1.heap.size + 1) w1.heap.size (List.replicate n 0)) := T2.out.below hb; have U3 : Hid (TAt w3 (w2.heap.size + 1) w2.heap.size (List.replicate n 0)) := ht; have B3 : Hid (Below W.heap.size W w3) := B2.out.trans (hb.mono B2.out.size); clear hb hs ht B2 T2 HN)
  go_wp2_with (go_at_call 15; refine (tadd_in T3.out k 0 y y X0.out EY.out).mono ?_; rintro e w4 ⟨rfl, ht, _, hf, hb⟩; have T4 : Hid (TAt w4 (w1.heap.size + 1) w1.heap.size ((List.replicate n (0 : Int)).set k y)) := ht; have U4 : Hid (TAt w4 (w2.heap.size + 1) w2.heap.size (List.replicate n (0 : Int))) := two_far U3.out hf (by have := L2.out; omega) (by have := L2.out; omega); have B4 : Hid (Below W.heap.size W w4) := B3.out.trans (hb _ L1.out); clear ht hf hb B3 U3 T3)
  go_wp2_with (go_at_call 16; refine (tread_yes U4.out k 0 X0.out).mono ?_; rintro e w5 ⟨rfl, rfl⟩; clear U4)
  go_wp2_with (go_at_call 17; refine (tmost_yes T4.out k y m (X1.out y)).mono ?_; rw [EZ.out]; rintro e w6 ⟨rfl, ht, _, hf, hb⟩; have T6 : Hid (TAt w6 (w1.heap.size + 1) w1.heap.size (((List.replicate n (0 : Int)).set k y).set k (m))) := ht; have B6 : Hid (Below W.heap.size W w6) := B4.out.trans (hb _ L1.out); clear ht hf hb B4 T4)
  go_wp2_with (go_at_call 16; refine (tread_yes T6.out k (m) (X2.out y (m))).mono ?_; rintro e w7 ⟨rfl, rfl⟩)
  go_ret
  exact ⟨rfl, B6.out⟩
set_option linter.unusedVariables false in
set_option maxRecDepth 100000 in
set_option maxHeartbeats 4000000 in
theorem two_b2 (n k : Nat) (y m : Int) (h1 : 1 ≤ n) (h2 : n ≤ 64) (hk : k < n) (hy : -9223372036854775808 ≤ y ∧ y ≤ 9223372036854775807) (hm : -9223372036854775808 ≤ m ∧ m ≤ 9223372036854775807) (g0 : y < m) (g1 : ¬ m ≤ -1000000) (g2 : 1000000 ≤ m) (W : World) : Calls Try.prog 5 #[.int .i64 (n : Int), .int .i64 (k : Int), .int .i64 y, .int .i64 m] W fun e w' => e = .returned (.bool true) ∧ Below W.heap.size W w' := by
  have HA : Hid (∀ w, Calls Try.prog 7 #[] w fun e w' => e = .returned (.bool true) ∧ Below w.heap.size w w') := tawake_c
  have HN : Hid (∀ w, Calls Try.prog 8 #[.int .i64 (n : Int)] w fun e w' => e = .returned (.tuple #[.pointer (some ⟨w.heap.size + 1, 0, none⟩), .int .i64 0]) ∧ TAt w' (w.heap.size + 1) w.heap.size (List.replicate n 0) ∧ Below w.heap.size w w' ∧ w'.heap.size = w.heap.size + 2) := tnew_yes n h1 h2
  have gk : ¬ (k : Int) < 0 := by omega
  have gn : ¬ (n : Int) ≤ (k : Int) := by omega
  have EY : Hid (wrap64 (0 + y) = y) := by unfold Hid wrap64; omega
  have EZ : Hid (max y m = m) := by unfold Hid; omega
  have X0 : Hid ((List.replicate n (0 : Int))[k]? = some 0) := by rw [Hid, List.getElem?_replicate, if_pos hk]
  have X1 : Hid (∀ v : Int, ((List.replicate n (0 : Int)).set k v)[k]? = some v) := fun v => by rw [List.getElem?_set_self (by rw [List.length_replicate]; exact hk)]
  have X2 : Hid (∀ v u : Int, (((List.replicate n (0 : Int)).set k v).set k u)[k]? = some u) := fun v u => by rw [List.getElem?_set_self (by rw [List.length_set, List.length_replicate]; exact hk)]
  go_enter Try.func5, Try.ntmps5
  go_wp2_with (go_at_call 7; refine (HA.out _).mono ?_; rintro e w1 ⟨rfl, hb⟩; have B1 : Hid (Below W.heap.size W w1) := hb; clear hb)
  go_wp2_with (go_at_call 8; refine (HN.out _).mono ?_; rintro e w2 ⟨rfl, ht, hb, hs⟩; have T2 : Hid (TAt w2 (w1.heap.size + 1) w1.heap.size (List.replicate n 0)) := ht; have L2 : Hid (w1.heap.size + 2 = w2.heap.size) := hs.symm; have L1 : Hid (W.heap.size ≤ w1.heap.size) := B1.out.size; have B2 : Hid (Below W.heap.size W w2) := B1.out.trans (hb.mono B1.out.size); clear hb hs ht B1)
  go_wp2_with (go_at_call 8; refine (HN.out _).mono ?_; rintro e w3 ⟨rfl, ht, hb, hs⟩; have T3 : Hid (TAt w3 (w1.heap.size + 1) w1.heap.size (List.replicate n 0)) := T2.out.below hb; have U3 : Hid (TAt w3 (w2.heap.size + 1) w2.heap.size (List.replicate n 0)) := ht; have B3 : Hid (Below W.heap.size W w3) := B2.out.trans (hb.mono B2.out.size); clear hb hs ht B2 T2 HN)
  go_wp2_with (go_at_call 15; refine (tadd_in T3.out k 0 y y X0.out EY.out).mono ?_; rintro e w4 ⟨rfl, ht, _, hf, hb⟩; have T4 : Hid (TAt w4 (w1.heap.size + 1) w1.heap.size ((List.replicate n (0 : Int)).set k y)) := ht; have U4 : Hid (TAt w4 (w2.heap.size + 1) w2.heap.size (List.replicate n (0 : Int))) := two_far U3.out hf (by have := L2.out; omega) (by have := L2.out; omega); have B4 : Hid (Below W.heap.size W w4) := B3.out.trans (hb _ L1.out); clear ht hf hb B3 U3 T3)
  go_wp2_with (go_at_call 16; refine (tread_yes U4.out k 0 X0.out).mono ?_; rintro e w5 ⟨rfl, rfl⟩; clear U4)
  go_wp2_with (go_at_call 17; refine (tmost_yes T4.out k y m (X1.out y)).mono ?_; rw [EZ.out]; rintro e w6 ⟨rfl, ht, _, hf, hb⟩; have T6 : Hid (TAt w6 (w1.heap.size + 1) w1.heap.size (((List.replicate n (0 : Int)).set k y).set k (m))) := ht; have B6 : Hid (Below W.heap.size W w6) := B4.out.trans (hb _ L1.out); clear ht hf hb B4 T4)
  go_wp2_with (go_at_call 16; refine (tread_yes T6.out k (m) (X2.out y (m))).mono ?_; rintro e w7 ⟨rfl, rfl⟩)
  go_ret
  exact ⟨rfl, B6.out⟩
set_option linter.unusedVariables false in
set_option maxRecDepth 100000 in
set_option maxHeartbeats 4000000 in
theorem two_b3 (n k : Nat) (y m : Int) (h1 : 1 ≤ n) (h2 : n ≤ 64) (hk : k < n) (hy : -9223372036854775808 ≤ y ∧ y ≤ 9223372036854775807) (hm : -9223372036854775808 ≤ m ∧ m ≤ 9223372036854775807) (g0 : y < m) (g1 : ¬ m ≤ -1000000) (g2 : ¬ 1000000 ≤ m) (W : World) : Calls Try.prog 5 #[.int .i64 (n : Int), .int .i64 (k : Int), .int .i64 y, .int .i64 m] W fun e w' => e = .returned (.bool true) ∧ Below W.heap.size W w' := by
  have HA : Hid (∀ w, Calls Try.prog 7 #[] w fun e w' => e = .returned (.bool true) ∧ Below w.heap.size w w') := tawake_c
  have HN : Hid (∀ w, Calls Try.prog 8 #[.int .i64 (n : Int)] w fun e w' => e = .returned (.tuple #[.pointer (some ⟨w.heap.size + 1, 0, none⟩), .int .i64 0]) ∧ TAt w' (w.heap.size + 1) w.heap.size (List.replicate n 0) ∧ Below w.heap.size w w' ∧ w'.heap.size = w.heap.size + 2) := tnew_yes n h1 h2
  have gk : ¬ (k : Int) < 0 := by omega
  have gn : ¬ (n : Int) ≤ (k : Int) := by omega
  have EY : Hid (wrap64 (0 + y) = y) := by unfold Hid wrap64; omega
  have EZ : Hid (max y m = m) := by unfold Hid; omega
  have X0 : Hid ((List.replicate n (0 : Int))[k]? = some 0) := by rw [Hid, List.getElem?_replicate, if_pos hk]
  have X1 : Hid (∀ v : Int, ((List.replicate n (0 : Int)).set k v)[k]? = some v) := fun v => by rw [List.getElem?_set_self (by rw [List.length_replicate]; exact hk)]
  have X2 : Hid (∀ v u : Int, (((List.replicate n (0 : Int)).set k v).set k u)[k]? = some u) := fun v u => by rw [List.getElem?_set_self (by rw [List.length_set, List.length_replicate]; exact hk)]
  go_enter Try.func5, Try.ntmps5
  go_wp2_with (go_at_call 7; refine (HA.out _).mono ?_; rintro e w1 ⟨rfl, hb⟩; have B1 : Hid (Below W.heap.size W w1) := hb; clear hb)
  go_wp2_with (go_at_call 8; refine (HN.out _).mono ?_; rintro e w2 ⟨rfl, ht, hb, hs⟩; have T2 : Hid (TAt w2 (w1.heap.size + 1) w1.heap.size (List.replicate n 0)) := ht; have L2 : Hid (w1.heap.size + 2 = w2.heap.size) := hs.symm; have L1 : Hid (W.heap.size ≤ w1.heap.size) := B1.out.size; have B2 : Hid (Below W.heap.size W w2) := B1.out.trans (hb.mono B1.out.size); clear hb hs ht B1)
  go_wp2_with (go_at_call 8; refine (HN.out _).mono ?_; rintro e w3 ⟨rfl, ht, hb, hs⟩; have T3 : Hid (TAt w3 (w1.heap.size + 1) w1.heap.size (List.replicate n 0)) := T2.out.below hb; have U3 : Hid (TAt w3 (w2.heap.size + 1) w2.heap.size (List.replicate n 0)) := ht; have B3 : Hid (Below W.heap.size W w3) := B2.out.trans (hb.mono B2.out.size); clear hb hs ht B2 T2 HN)
  go_wp2_with (go_at_call 15; refine (tadd_in T3.out k 0 y y X0.out EY.out).mono ?_; rintro e w4 ⟨rfl, ht, _, hf, hb⟩; have T4 : Hid (TAt w4 (w1.heap.size + 1) w1.heap.size ((List.replicate n (0 : Int)).set k y)) := ht; have U4 : Hid (TAt w4 (w2.heap.size + 1) w2.heap.size (List.replicate n (0 : Int))) := two_far U3.out hf (by have := L2.out; omega) (by have := L2.out; omega); have B4 : Hid (Below W.heap.size W w4) := B3.out.trans (hb _ L1.out); clear ht hf hb B3 U3 T3)
  go_wp2_with (go_at_call 16; refine (tread_yes U4.out k 0 X0.out).mono ?_; rintro e w5 ⟨rfl, rfl⟩; clear U4)
  go_wp2_with (go_at_call 17; refine (tmost_yes T4.out k y m (X1.out y)).mono ?_; rw [EZ.out]; rintro e w6 ⟨rfl, ht, _, hf, hb⟩; have T6 : Hid (TAt w6 (w1.heap.size + 1) w1.heap.size (((List.replicate n (0 : Int)).set k y).set k (m))) := ht; have B6 : Hid (Below W.heap.size W w6) := B4.out.trans (hb _ L1.out); clear ht hf hb B4 T4)
  go_wp2_with (go_at_call 16; refine (tread_yes T6.out k (m) (X2.out y (m))).mono ?_; rintro e w7 ⟨rfl, rfl⟩)
  have E0 : Hid (wrap64 (m + -(m)) = 0) := by unfold Hid wrap64; omega
  have X3 : Hid (∀ v u t : Int, ((((List.replicate n (0 : Int)).set k v).set k u).set k t)[k]? = some t) := fun v u t => by rw [List.getElem?_set_self (by rw [List.length_set, List.length_set, List.length_replicate]; exact hk)]
  go_wp2_with (go_at_call 15; refine (tadd_in T6.out k (m) (-(m)) 0 (X2.out y (m)) E0.out).mono ?_; rintro e w8 ⟨rfl, ht, _, hf, hb⟩; have T8 : Hid (TAt w8 (w1.heap.size + 1) w1.heap.size ((((List.replicate n (0 : Int)).set k y).set k (m)).set k 0)) := ht; have B8 : Hid (Below W.heap.size W w8) := B6.out.trans (hb _ L1.out); clear ht hf hb B6 T6)
  go_wp2_with (go_at_call 16; refine (tread_yes T8.out k 0 (X3.out _ _ _)).mono ?_; rintro e w9 ⟨rfl, rfl⟩)
  go_ret
  exact ⟨rfl, B8.out⟩
theorem TallyTwo_any (n k y m : Int) (hy : -9223372036854775808 ≤ y ∧ y ≤ 9223372036854775807) (hm : -9223372036854775808 ≤ m ∧ m ≤ 9223372036854775807) (W : World) : Calls Try.prog 5 #[.int .i64 n, .int .i64 k, .int .i64 y, .int .i64 m] W fun e w' => e = .returned (.bool true) ∧ Below W.heap.size W w' := by
  by_cases h : n < 1 ∨ 64 < n
  · exact two_no n k y m h W
  · obtain ⟨N, rfl⟩ : ∃ N : Nat, n = N := ⟨n.toNat, by omega⟩
    by_cases g1 : k < 0
    · exact two_out1 N k y m (by omega) (by omega) g1 W
    · by_cases g2 : (N : Int) ≤ k
      · exact two_out2 N k y m (by omega) (by omega) g1 g2 W
      · obtain ⟨K, rfl⟩ : ∃ K : Nat, k = K := ⟨k.toNat, by omega⟩
        by_cases gz : m ≤ y
        · by_cases c1 : y ≤ -1000000
          · exact two_a1 N K y m (by omega) (by omega) (by omega) hy hm gz c1 W
          · by_cases c2 : 1000000 ≤ y
            · exact two_a2 N K y m (by omega) (by omega) (by omega) hy hm gz c1 c2 W
            · exact two_a3 N K y m (by omega) (by omega) (by omega) hy hm gz c1 c2 W
        · by_cases c1 : m ≤ -1000000
          · exact two_b1 N K y m (by omega) (by omega) (by omega) hy hm (by omega) c1 W
          · by_cases c2 : 1000000 ≤ m
            · exact two_b2 N K y m (by omega) (by omega) (by omega) hy hm (by omega) c1 c2 W
            · exact two_b3 N K y m (by omega) (by omega) (by omega) hy hm (by omega) c1 c2 W
end Go.Proofs.Ytackhimnjnnpfaa
