/- A nil tally; TallyNil. -/
import Derived.Test.YtackhimnjnnpfaaTaC
namespace Go.Proofs.Ytackhimnjnnpfaa
open Go.RowKit

set_option maxRecDepth 100000 in
theorem each_nil (f : FuncId) (W : World) : Calls Try.prog 29 #[.pointer none, .func (.func f) #[] #[]] W fun e w' => e = .returned (.slice none 0 0) ∧ w' = W := by
  have hl := tlen_nil W
  go_enter Try.func29, Try.ntmps29
  go_wp2_with (go_at_call 10; refine hl.mono ?_; rintro e w' ⟨rfl, rfl⟩)
  go_loopw [5, 9] (fun a b wr => a = .slice none 0 0 ∧ b = .int .i64 0 ∧ wr = w') (fun _ _ _ => 0)
  case atStart => exact ⟨rfl, rfl, rfl⟩
  case round =>
    obtain ⟨rfl, rfl, rfl⟩ := hrel
    go_wp2
    go_ret
    exact ⟨rfl, rfl⟩
theorem all_nil (W : World) : Calls Try.prog 13 #[.pointer none] W fun e w' => e = .returned (.slice none 0 0) ∧ w' = W := by
  go_enter Try.func13, Try.ntmps13
  go_wp2_with (go_at_call 29; refine (each_nil _ _).mono ?_; rintro e w' ⟨rfl, rfl⟩)
  go_ret
  exact ⟨rfl, rfl⟩
theorem take_nil (W : World) : Calls Try.prog 18 #[.pointer none] W fun e w' => e = .returned (.slice none 0 0) ∧ w' = W := by
  go_enter Try.func18, Try.ntmps18
  go_wp2_with (go_at_call 29; refine (each_nil _ _).mono ?_; rintro e w' ⟨rfl, rfl⟩)
  go_ret
  exact ⟨rfl, rfl⟩
set_option maxRecDepth 100000 in
theorem cspr_nil (v : Value) (n : Int) (W : World) : Calls Try.prog 24 #[.pointer none, v, .int .i64 n] W fun e w' => e = .returned (.int .i64 2) ∧ w' = W := by
  go_enter Try.func24, Try.ntmps24
  go_wp2
  go_ret
  exact ⟨rfl, rfl⟩
set_option maxRecDepth 100000 in
theorem spread_nil (n : Int) (W : World) : Calls Try.prog 12 #[.pointer none, .slice none 0 0, .int .i64 n] W fun e w' => e = .returned (.int .i64 2) ∧ Below W.heap.size W w' := by
  have HC : Hid (∀ w, Calls Try.prog 24 #[.pointer none, .slice none 0 0, .int .i64 n] w fun e w' => e = .returned (.int .i64 2) ∧ w' = w) := cspr_nil _ n
  go_enter Try.func12, Try.ntmps12
  go_wp2_with (go_at_call 24; refine (HC.out _).mono ?_; rintro e w' ⟨rfl, rfl⟩)
  go_ret
  exact ⟨rfl, (by repeat (first | exact Below.refl _ _ | refine Below.setCell ?_ (by simp; try omega) _ | refine Below.alloc ?_ (by simp; try omega) _ | refine Below.drew ?_))⟩
set_option maxRecDepth 100000 in
set_option maxHeartbeats 4000000 in
theorem TallyNil_any (W : World) : Calls Try.prog 6 #[] W fun e w' => e = .returned (.bool true) ∧ Below W.heap.size W w' := by
  have HS : Hid (∀ w, Calls Try.prog 12 #[.pointer none, .slice none 0 0, .int .i64 1] w fun e w' => e = .returned (.int .i64 2) ∧ Below w.heap.size w w') := spread_nil 1
  go_enter Try.func6, Try.ntmps6
  go_wp2_with (first | (go_at_call 7; refine (tawake_c _).mono ?_; rintro e w1 ⟨rfl, hb⟩; have B1 : Hid (Below W.heap.size W w1) := hb; clear hb) | (go_at_call 15; refine (tadd_nil _ _ _).mono ?_; rintro e w2 ⟨rfl, rfl⟩) | (go_at_call 16; refine (tread_nil _ _).mono ?_; rintro e w2 ⟨rfl, rfl⟩) | (go_at_call 17; refine (tmost_nil _ _ _).mono ?_; rintro e w2 ⟨rfl, rfl⟩) | (go_at_call 10; refine (tlen_nil _).mono ?_; rintro e w2 ⟨rfl, rfl⟩) | (go_at_call 13; refine (all_nil _).mono ?_; rintro e w2 ⟨rfl, rfl⟩) | (go_at_call 18; refine (take_nil _).mono ?_; rintro e w2 ⟨rfl, rfl⟩) | (go_at_call 12; refine (HS.out _).mono ?_; rintro e w3 ⟨rfl, hb⟩; have B3 : Hid (Below W.heap.size W w3) := B1.out.trans (hb.mono B1.out.size); clear hb B1))
  go_ret
  exact ⟨rfl, B3.out⟩
end Go.Proofs.Ytackhimnjnnpfaa
