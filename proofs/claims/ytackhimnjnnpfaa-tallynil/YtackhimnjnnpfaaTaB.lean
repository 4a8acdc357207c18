/- Package tally: a counter's most; Add, Read, Most of a tally. -/
import Derived.Test.YtackhimnjnnpfaaTaA
namespace Go.Proofs.Ytackhimnjnnpfaa
open Go.RowKit

set_option maxRecDepth 100000 in
theorem cmost_no (q k : Nat) (x y : Int) (W : World) (h0 : W.cell? ⟨q, k, none⟩ = some (.int .i64 x)) (hxy : y ≤ x) :
    Calls Try.prog 32 #[.pointer (some ⟨q, k, none⟩), .int .i64 y] W fun e w' => e = .returned (.int .i64 x) ∧ w' = W := by
  have hr := cread_c q k x W h0
  go_enter Try.func32, Try.ntmps32
  go_wp2
  go_loopw [4, 5] (fun _ _ wr => wr = W) (fun _ _ _ => 0)
  case atStart => rfl
  case round =>
    subst hrel
    go_wp2_with (go_at_call 30; refine hr.mono ?_; rintro e w' ⟨rfl, rfl⟩)
    go_ret
    exact ⟨rfl, rfl⟩
set_option maxRecDepth 100000 in
theorem cmost_yes (q k : Nat) (x y : Int) (W : World) (h0 : W.cell? ⟨q, k, none⟩ = some (.int .i64 x)) (f0 : W.frozen? ⟨q, k, none⟩ = false) (hxy : x < y) :
    Calls Try.prog 32 #[.pointer (some ⟨q, k, none⟩), .int .i64 y] W fun e w' => e = .returned (.int .i64 y) ∧ w' = W.setCell ⟨q, k, none⟩ (.int .i64 y) := by
  have hr := cread_c q k x W h0
  have hcas := run_call_cas_hit (P := Try.prog) Try.func58 (by kernel_rfl) (by kernel_rfl) (by kernel_rfl) .i64 (by kernel_rfl) (y := y) h0 f0
  have hn : ¬ y ≤ x := by omega
  go_enter Try.func32, Try.ntmps32
  go_wp2
  go_loopw [4, 5] (fun _ _ wr => wr = W) (fun _ _ _ => 0)
  case atStart => rfl
  case round =>
    subst hrel
    go_wp2_with (first | (go_at_call 30; refine hr.mono ?_; rintro e w' ⟨rfl, rfl⟩) | (go_at_call 40; go_in))
    go_ret
    exact ⟨rfl, rfl⟩

theorem tadd_nil (k y : Int) (W : World) : Calls Try.prog 15 #[.pointer none, .int .i64 k, .int .i64 y] W fun e w' => e = .returned (.tuple #[.int .i64 0, .int .i64 2]) ∧ w' = W := by
  have hc := tchk_nil k W
  go_enter Try.func15, Try.ntmps15
  go_wp2_with (go_at_call 31; refine hc.mono ?_; rintro e w' ⟨rfl, rfl⟩)
  go_ret2
  exact ⟨rfl, rfl⟩
theorem tadd_no {W : World} {p q : Nat} {xs : List Int} (h : TAt W p q xs) (k y : Int) (hk : k < 0 ∨ xs.length ≤ k) : Calls Try.prog 15 #[.pointer (some ⟨p, 0, none⟩), .int .i64 k, .int .i64 y] W fun e w' => e = .returned (.tuple #[.int .i64 0, .int .i64 3]) ∧ w' = W := by
  have hc := tchk_no h k hk
  go_enter Try.func15, Try.ntmps15
  go_wp2_with (go_at_call 31; refine hc.mono ?_; rintro e w' ⟨rfl, rfl⟩)
  go_ret2
  exact ⟨rfl, rfl⟩
set_option maxRecDepth 100000 in
theorem tadd_yes {W : World} {p q : Nat} {xs : List Int} (h : TAt W p q xs) (k : Nat) (x y : Int) (hx : xs[k]? = some x) : Calls Try.prog 15 #[.pointer (some ⟨p, 0, none⟩), .int .i64 (k : Int), .int .i64 y] W fun e w' => e = .returned (.tuple #[.int .i64 (wrap64 (x + y)), .int .i64 0]) ∧ w' = W.setCell ⟨q, k, none⟩ (.int .i64 (wrap64 (x + y))) := by
  have hk : k < xs.length := (List.getElem?_eq_some_iff.1 hx).1
  have hc := tchk_yes h k hk
  have hp := h.cellP
  have ha := cadd_c q k x y W (h.cellQ hx) (h.frz k)
  have g1 : (k : Int) < (xs.length : Int) := by omega
  obtain ⟨n, hn⟩ : ∃ n, xs.length = n := ⟨_, rfl⟩
  rw [hn] at hp g1 hk
  clear hn hx
  go_enter Try.func15, Try.ntmps15
  go_wp2_with (first | (go_at_call 31; refine hc.mono ?_; rintro e w' ⟨rfl, rfl⟩) | (go_at_call 28; refine ha.mono ?_; rintro e w' ⟨rfl, rfl⟩))
  go_ret2
  exact ⟨rfl, rfl⟩
theorem tread_nil (k : Int) (W : World) : Calls Try.prog 16 #[.pointer none, .int .i64 k] W fun e w' => e = .returned (.tuple #[.int .i64 0, .int .i64 2]) ∧ w' = W := by
  have hc := tchk_nil k W
  go_enter Try.func16, Try.ntmps16
  go_wp2_with (go_at_call 31; refine hc.mono ?_; rintro e w' ⟨rfl, rfl⟩)
  go_ret2
  exact ⟨rfl, rfl⟩
theorem tread_no {W : World} {p q : Nat} {xs : List Int} (h : TAt W p q xs) (k : Int) (hk : k < 0 ∨ xs.length ≤ k) : Calls Try.prog 16 #[.pointer (some ⟨p, 0, none⟩), .int .i64 k] W fun e w' => e = .returned (.tuple #[.int .i64 0, .int .i64 3]) ∧ w' = W := by
  have hc := tchk_no h k hk
  go_enter Try.func16, Try.ntmps16
  go_wp2_with (go_at_call 31; refine hc.mono ?_; rintro e w' ⟨rfl, rfl⟩)
  go_ret2
  exact ⟨rfl, rfl⟩
set_option maxRecDepth 100000 in
theorem tread_yes {W : World} {p q : Nat} {xs : List Int} (h : TAt W p q xs) (k : Nat) (x : Int) (hx : xs[k]? = some x) : Calls Try.prog 16 #[.pointer (some ⟨p, 0, none⟩), .int .i64 (k : Int)] W fun e w' => e = .returned (.tuple #[.int .i64 x, .int .i64 0]) ∧ w' = W := by
  have hk : k < xs.length := (List.getElem?_eq_some_iff.1 hx).1
  have hc := tchk_yes h k hk
  have hp := h.cellP
  have ha := cread_c q k x W (h.cellQ hx)
  have g1 : (k : Int) < (xs.length : Int) := by omega
  obtain ⟨n, hn⟩ : ∃ n, xs.length = n := ⟨_, rfl⟩
  rw [hn] at hp g1 hk
  clear hn hx
  go_enter Try.func16, Try.ntmps16
  go_wp2_with (first | (go_at_call 31; refine hc.mono ?_; rintro e w' ⟨rfl, rfl⟩) | (go_at_call 30; refine ha.mono ?_; rintro e w' ⟨rfl, rfl⟩))
  go_ret2
  exact ⟨rfl, rfl⟩
theorem tmost_nil (k y : Int) (W : World) : Calls Try.prog 17 #[.pointer none, .int .i64 k, .int .i64 y] W fun e w' => e = .returned (.tuple #[.int .i64 0, .int .i64 2]) ∧ w' = W := by
  have hc := tchk_nil k W
  go_enter Try.func17, Try.ntmps17
  go_wp2_with (go_at_call 31; refine hc.mono ?_; rintro e w' ⟨rfl, rfl⟩)
  go_ret2
  exact ⟨rfl, rfl⟩
theorem tmost_no {W : World} {p q : Nat} {xs : List Int} (h : TAt W p q xs) (k y : Int) (hk : k < 0 ∨ xs.length ≤ k) : Calls Try.prog 17 #[.pointer (some ⟨p, 0, none⟩), .int .i64 k, .int .i64 y] W fun e w' => e = .returned (.tuple #[.int .i64 0, .int .i64 3]) ∧ w' = W := by
  have hc := tchk_no h k hk
  go_enter Try.func17, Try.ntmps17
  go_wp2_with (go_at_call 31; refine hc.mono ?_; rintro e w' ⟨rfl, rfl⟩)
  go_ret2
  exact ⟨rfl, rfl⟩
theorem set_self {xs : List Int} {k : Nat} {x : Int} (h : xs[k]? = some x) : xs.set k x = xs := by
  apply List.ext_getElem?
  intro i
  rw [List.getElem?_set]
  split
  · rename_i e; subst e; split
    · exact h.symm
    · rename_i h2; rw [List.getElem?_eq_none (by omega)]
  · rfl
/-- a counter set higher: where it is not less, storing what stands there leaves the world -/
theorem cmost_c (q k : Nat) (x y : Int) (W : World) (h0 : W.cell? ⟨q, k, none⟩ = some (.int .i64 x)) (f0 : W.frozen? ⟨q, k, none⟩ = false) :
    Calls Try.prog 32 #[.pointer (some ⟨q, k, none⟩), .int .i64 y] W fun e w' => e = .returned (.int .i64 (max x y)) ∧ ((y ≤ x ∧ w' = W) ∨ (x < y ∧ w' = W.setCell ⟨q, k, none⟩ (.int .i64 (max x y)))) := by
  by_cases hxy : y ≤ x
  · refine (cmost_no q k x y W h0 hxy).mono ?_
    rintro e w' ⟨rfl, rfl⟩
    exact ⟨by rw [Int.max_eq_left hxy], .inl ⟨hxy, rfl⟩⟩
  · refine (cmost_yes q k x y W h0 f0 (by omega)).mono ?_
    rintro e w' ⟨rfl, rfl⟩
    rw [Int.max_eq_right (by omega)]
    exact ⟨rfl, .inr ⟨by omega, rfl⟩⟩
set_option maxRecDepth 100000 in
theorem tmost_yes {W : World} {p q : Nat} {xs : List Int} (h : TAt W p q xs) (k : Nat) (x y : Int) (hx : xs[k]? = some x) : Calls Try.prog 17 #[.pointer (some ⟨p, 0, none⟩), .int .i64 (k : Int), .int .i64 y] W fun e w' => e = .returned (.tuple #[.int .i64 (max x y), .int .i64 0]) ∧ TAt w' p q (xs.set k (max x y)) ∧ w'.heap.size = W.heap.size ∧ (∀ j, j ≠ q → w'.heap[j]? = W.heap[j]?) ∧ (∀ N, N ≤ q → Below N W w') := by
  have hk : k < xs.length := (List.getElem?_eq_some_iff.1 hx).1
  have hc := tchk_yes h k hk
  have hp := h.cellP
  have ha := cmost_c q k x y W (h.cellQ hx) (h.frz k)
  have g1 : (k : Int) < (xs.length : Int) := by omega
  have FIN : Hid (∀ w', ((y ≤ x ∧ w' = W) ∨ (x < y ∧ w' = W.setCell ⟨q, k, none⟩ (.int .i64 (max x y)))) → TAt w' p q (xs.set k (max x y)) ∧ w'.heap.size = W.heap.size ∧ (∀ j, j ≠ q → w'.heap[j]? = W.heap[j]?) ∧ (∀ N, N ≤ q → Below N W w')) := by
    rintro w' (⟨hl, rfl⟩ | ⟨hl, rfl⟩)
    · rw [Int.max_eq_left hl, set_self hx]
      exact ⟨h, rfl, fun _ _ => rfl, fun N _ => Below.refl _ _⟩
    · exact ⟨h.set k _, by simp, fun j hj => Below.heap_setCell _ _ _ _ hj, fun N hN => (Below.refl N W).setCell (p := ⟨q, k, none⟩) hN _⟩
  obtain ⟨z, hz⟩ : ∃ z, max x y = z := ⟨_, rfl⟩
  obtain ⟨L, hL⟩ : ∃ L, xs.set k (max x y) = L := ⟨_, rfl⟩
  rw [hL] at FIN ⊢
  rw [hz] at ha FIN ⊢
  obtain ⟨n, hn⟩ : ∃ n, xs.length = n := ⟨_, rfl⟩
  rw [hn] at hp g1 hk
  clear hn hx hz hL
  go_enter Try.func17, Try.ntmps17
  go_wp2_with (first | (go_at_call 31; refine hc.mono ?_; rintro e w' ⟨rfl, rfl⟩) | (go_at_call 32; refine ha.mono ?_; rintro e w' ⟨rfl, hw⟩; replace hw := FIN.out _ hw; have HW : Hid _ := hw; clear hw))
  go_ret2
  exact ⟨rfl, HW.out⟩
end Go.Proofs.Ytackhimnjnnpfaa
