/- The statements' awake of layer 2 returns true; a type that was handed in by value is opened and shut. -/
import Derived.Test.YtaljppicmookeaaOwnRefs
import Derived.WalkKit
import Derived.ProofKit
import Derived.OpenShut
import Derived.ShutString
import Derived.Carry
import Derived.Lib.SmallJoins
namespace Go.Proofs.Ytaljppicmookeaa
open Go.RowKit

theorem awk_par : parT [91, 76, 112, 47, 65, 59] = (1, [112, 47, 65]) ∧ parE [91, 76, 112, 47, 65, 59] = 0 := by decide

set_option maxHeartbeats 400000 in
theorem awake_any (w : World) : Calls Try.prog 8 #[] w fun e w' => e = .returned (.bool true) ∧ Below w.heap.size w w' := by
  have HP : Hid (∀ w, Calls Try.prog 9 #[.string ⟨#[91, 76, 112, 47, 65, 59]⟩] w fun e w' => e = .returned (.tuple #[.agg #[.int .i64 1, .string ⟨#[112, 47, 65]⟩], .int .i64 0]) ∧ Below w.heap.size w w') := fun w => by
    have h := parse_any ⟨#[91, 76, 112, 47, 65, 59]⟩ (by unfold maxLen; decide) w
    rw [awk_par.1, awk_par.2] at h
    exact h
  go_enter Try.func8, Try.ntmps8
  go_wp2_with (go_at_call 9; refine ((HP.out) _).mono ?_; rintro e w1 ⟨rfl, hb1⟩)
  go_ret
  exact ⟨rfl, hb1.alloc hb1.size _⟩

end Go.Proofs.Ytaljppicmookeaa
