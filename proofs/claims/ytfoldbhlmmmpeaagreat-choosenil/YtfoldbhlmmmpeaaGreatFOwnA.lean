/- Walks of package flags, what takes flags: hasAny, hasAll, the fits.. functions, CheckClass, CheckMethod, Open, each returns what the plain functions say; flagOf at the words that the package's variable holds. -/
import Derived.Test.YtfoldbhlmmmpeaaGreatFlagsMask
import Derived.Handy
namespace Go.Proofs.YtfoldbhlmmmpeaaGreat.Fl
open Go.RowKit

set_option maxRecDepth 100000 in
set_option maxHeartbeats 400000 in
theorem hasAny_any (f x : Int) (w : World) : Calls Tryz.prog 196 #[.int .i64 f, .int .i64 x] w fun e w' => e = .returned (.bool (hasI f x)) ∧ w' = w := by
  go_enter Tryz.func196, Tryz.ntmps196
  go_wp2
  go_ret
  exact ⟨rfl, rfl⟩

theorem own_open (f : Int) : openI f = if hasI f 1 then 1 else if hasI f 4 then 4 else bits .and .i64 f 2 := by
  have h : bits .and .i64 f 2 = 0 ∨ bits .and .i64 f 2 = 2 := by
    have e : bits .and .i64 f 2 = IntKind.wrap .i64 (((BitVec.ofInt 64 f).toNat &&& 2 : Nat) : Int) := rfl
    rw [e]
    have h1 : (BitVec.ofInt 64 f).toNat &&& 2 ≤ 2 := Nat.and_le_right
    have h2 : ((BitVec.ofInt 64 f).toNat &&& 2).testBit 0 = false := by rw [Nat.testBit_and]; simp
    generalize (BitVec.ofInt 64 f).toNat &&& 2 = m at h1 h2
    have : m = 0 ∨ m = 1 ∨ m = 2 := by omega
    rcases this with rfl | rfl | rfl
    · exact .inl rfl
    · simp at h2
    · exact .inr rfl
  unfold openI
  by_cases h1 : hasI f 1 = true
  · rw [if_pos h1, if_pos h1]
  · rw [if_neg h1, if_neg h1]
    by_cases h4 : hasI f 4 = true
    · rw [if_pos h4, if_pos h4]
    · rw [if_neg h4, if_neg h4]
      unfold hasI
      rcases h with h | h <;> rw [h] <;> rfl

end Go.Proofs.YtfoldbhlmmmpeaaGreat.Fl
