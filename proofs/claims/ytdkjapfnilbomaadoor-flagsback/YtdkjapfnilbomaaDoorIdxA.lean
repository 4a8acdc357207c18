/- The walk of strings.Index at one byte: the place of the first such byte, or -1. -/
import Derived.Test.YtdkjapfnilbomaaDoorOwnB
import Derived.Test.YtdkjapfnilbomaaDoorShelf
namespace Go.Proofs.YtdkjapfnilbomaaDoor
open Go.RowKit

set_option maxRecDepth 100000 in
set_option maxHeartbeats 400000 in
theorem slIndex_any (s : ByteArray) (w : World) : Calls Tryd.prog 56 #[.string s, .string ⟨#[32]⟩] w fun e w' => e = .returned (.int .i64 (Lib.indexByte s.data.toList 32)) ∧ w' = w := by
  have HB : Hid (∀ w : World, Calls Tryd.prog 57 #[.string s, .int .u8 32] w fun e w' => e = .returned (.int .i64 (Lib.indexByte s.data.toList 32)) ∧ w' = w) := fun w => Tryd.stringslite_IndexByte s 32 w
  have HR : Hid (([32] == s.toList) = true → Lib.indexByte s.data.toList 32 = 0) := fun h => by
    have e : s.data.toList = [32] := by rw [← Lib.toList_data]; exact (eq_of_beq h).symm
    rw [e]; rfl
  generalize Lib.indexByte s.data.toList 32 = r at *
  go_enter Tryd.func56, Tryd.ntmps56
  go_wp2_with (go_at_call 57; refine (HB.out _).mono ?_; rintro e w1 ⟨rfl, rfl⟩)
  · rename_i hc
    go_ret
    exact ⟨ret_int (HR.out hc).symm, rfl⟩
  · go_ret
    exact ⟨rfl, rfl⟩

set_option maxHeartbeats 400000 in
theorem index_any (s : ByteArray) (w : World) : Calls Tryd.prog 52 #[.string s, .string ⟨#[32]⟩] w fun e w' => e = .returned (.int .i64 (Lib.indexByte s.data.toList 32)) ∧ w' = w := by
  have HB : Hid (∀ w : World, _) := slIndex_any s
  generalize Lib.indexByte s.data.toList 32 = r at *
  go_enter Tryd.func52, Tryd.ntmps52
  go_wp2_with (go_at_call 56; refine (HB.out _).mono ?_; rintro e w1 ⟨rfl, rfl⟩)
  go_ret
  exact ⟨rfl, rfl⟩
end Go.Proofs.YtdkjapfnilbomaaDoor
