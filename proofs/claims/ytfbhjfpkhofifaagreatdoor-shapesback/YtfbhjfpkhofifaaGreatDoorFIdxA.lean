/- The walk of strings.Index at one byte: the place of the first such byte, or -1. -/
import Derived.Test.YtfbhjfpkhofifaaGreatDoorFOwnC
import Derived.Test.YtfbhjfpkhofifaaGreatDoorFShelf
namespace Go.Proofs.YtfbhjfpkhofifaaGreatDoor.Fl
open Go.RowKit

set_option maxRecDepth 100000 in
set_option maxHeartbeats 400000 in
theorem slIndex_any (s : ByteArray) (w : World) : Calls Tryz.prog 154 #[.string s, .string ⟨#[32]⟩] w fun e w' => e = .returned (.int .i64 (Lib.indexByte s.data.toList 32)) ∧ w' = w := by
  have HB : Hid (∀ w : World, Calls Tryz.prog 175 #[.string s, .int .u8 32] w fun e w' => e = .returned (.int .i64 (Lib.indexByte s.data.toList 32)) ∧ w' = w) := fun w => Tryz.stringslite_IndexByte s 32 w
  have HR : Hid (([32] == s.toList) = true → Lib.indexByte s.data.toList 32 = 0) := fun h => by
    have e : s.data.toList = [32] := by rw [← Lib.toList_data]; exact (eq_of_beq h).symm
    rw [e]; rfl
  generalize Lib.indexByte s.data.toList 32 = r at *
  go_enter Tryz.func154, Tryz.ntmps154
  go_wp2_with (go_at_call 175; refine (HB.out _).mono ?_; rintro e w1 ⟨rfl, rfl⟩)
  · rename_i hc
    go_ret
    exact ⟨fret_int (HR.out hc).symm, rfl⟩
  · go_ret
    exact ⟨rfl, rfl⟩

set_option maxRecDepth 100000 in
set_option maxHeartbeats 400000 in
theorem index_any (s : ByteArray) (w : World) : Calls Tryz.prog 181 #[.string s, .string ⟨#[32]⟩] w fun e w' => e = .returned (.int .i64 (Lib.indexByte s.data.toList 32)) ∧ w' = w := by
  have HB : Hid (∀ w : World, _) := slIndex_any s
  generalize Lib.indexByte s.data.toList 32 = r at *
  go_enter Tryz.func181, Tryz.ntmps181
  go_wp2_with (go_at_call 154; refine (HB.out _).mono ?_; rintro e w1 ⟨rfl, rfl⟩)
  go_ret
  exact ⟨rfl, rfl⟩
end Go.Proofs.YtfbhjfpkhofifaaGreatDoor.Fl
