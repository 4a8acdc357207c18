/- Walks of the small functions of package names and of what they call: each returns what the plain function on lists of bytes says; the world stays. -/
import Derived.Test.YtijlipllahfakaaGreatDoorRows
import Derived.Test.YtijlipllahfakaaGreatDoorPure
import Derived.WalkKit
import Derived.WalkSpells
import Derived.WalkLawsBesides
import Derived.Lib.Walk
import Derived.Laws.Externs
namespace Go.Proofs.YtijlipllahfakaaGreatDoor
open Go.RowKit

theorem ret_bool {a b : Bool} (h : a = b) : Ending.returned (.bool a) = .returned (.bool b) := by rw [h]
theorem ret_int {k : IntKind} {a b : Int} (h : a = b) : Ending.returned (.int k a) = .returned (.int k b) := by rw [h]
theorem ret_str {a b : ByteArray} (h : a = b) : Ending.returned (.string a) = .returned (.string b) := by rw [h]
/-- two texts with the same bytes -/
theorem bytes_ext {a b : ByteArray} (h : a.data.toList = b.data.toList) : a = b := by
  obtain ⟨⟨x⟩⟩ := a; obtain ⟨⟨y⟩⟩ := b; simp at h; rw [h]

set_option maxHeartbeats 400000 in
theorem isDigit_any (c : Int) (w : World) :
    Calls Tryz.prog 83 #[.int .u8 c] w fun e w' => e = .returned (.bool (digI c)) ∧ w' = w := by
  by_cases h1 : (48 : Int) ≤ c
  · by_cases h2 : c ≤ 57
    · go_enter Tryz.func83, Tryz.ntmps83
      go_wp2
      go_ret
      exact ⟨ret_bool (by rw [Bool.eq_iff_iff]; simp [digI]; omega), rfl⟩
    · go_enter Tryz.func83, Tryz.ntmps83
      go_wp2
      go_ret
      exact ⟨ret_bool (by rw [Bool.eq_iff_iff]; simp [digI]; omega), rfl⟩
  · go_enter Tryz.func83, Tryz.ntmps83
    go_wp2
    go_ret
    exact ⟨ret_bool (by rw [Bool.eq_iff_iff]; simp [digI]; omega), rfl⟩

set_option maxHeartbeats 400000 in
theorem isLetter_any (c : Int) (w : World) :
    Calls Tryz.prog 84 #[.int .u8 c] w fun e w' => e = .returned (.bool (ltrI c)) ∧ w' = w := by
  go_enter Tryz.func84, Tryz.ntmps84
  go_wp2
  all_goals (go_ret; exact ⟨ret_bool (by rw [Bool.eq_iff_iff]; simp [ltrI]; try omega), rfl⟩)

theorem last_le (s : ByteArray) : -1 ≤ lastL s.data.toList ∧ lastL s.data.toList < s.size := by
  have := lastL_bounds s.data.toList
  simpa using this

/-- the beginning of a text -/
theorem take_bytes (s : ByteArray) (n : Nat) : (s.extract 0 n) = ⟨(s.data.toList.take n).toArray⟩ := by
  apply bytes_ext; rw [Lib.extract_data]; simp
theorem drop_bytes (s : ByteArray) (n : Nat) : (s.extract n s.size) = ⟨(s.data.toList.drop n).toArray⟩ := by
  apply bytes_ext; rw [Lib.extract_to_end]

set_option maxRecDepth 100000 in
set_option maxHeartbeats 400000 in
theorem indexByte_any (s : ByteArray) (w : World) :
    Calls Tryz.prog 59 #[.string s, .int .u8 47] w fun e w' => e = .returned (.int .i64 (Lib.indexByte s.data.toList 47)) ∧ w' = w := by
  go_enter Tryz.func59, Tryz.ntmps59
  go_wp2
  rw [run_callFunc_extern Tryz.func75 (by kernel_rfl) (by kernel_rfl) (by kernel_rfl) (e := Extern.BytealgIndexByte.indexByte) (by kernel_rfl), Lib.run_indexByteString]
  simp only [Result.andThen]
  rw [Oper.upon_value]
  go_wp2
  go_ret
  exact ⟨rfl, rfl⟩

set_option maxRecDepth 100000 in
set_option maxHeartbeats 400000 in
theorem index_any (s : ByteArray) (w : World) :
    Calls Tryz.prog 40 #[.string s, .string ⟨#[47]⟩] w fun e w' => e = .returned (.int .i64 (Lib.indexByte s.data.toList 47)) ∧ w' = w := by
  by_cases hq : ([47] == s.toList) = true
  · have hi : Lib.indexByte s.data.toList 47 = 0 := by
      have : s.data.toList = [47] := by rw [← Lib.toList_data]; exact (beq_iff_eq.1 hq).symm
      rw [this]; rfl
    have HI : Hid (Lib.indexByte s.data.toList 47 = 0) := hi
    clear hi
    go_enter Tryz.func40, Tryz.ntmps40
    go_wp2
    go_ret
    exact ⟨ret_int HI.out.symm, rfl⟩
  · have hq' : ([47] == s.toList) = false := by simpa using hq
    clear hq
    go_enter Tryz.func40, Tryz.ntmps40
    go_wp2_with (go_at_call 59; refine (indexByte_any s _).mono ?_; rintro e w' ⟨rfl, rfl⟩)
    go_ret
    exact ⟨rfl, rfl⟩

set_option maxHeartbeats 400000 in
theorem liteCut_miss (s : ByteArray) (w : World) (h : Lib.indexByte s.data.toList 47 = -1) :
    Calls Tryz.prog 28 #[.string s, .string ⟨#[47]⟩] w fun e w' => e = .returned (.tuple #[.string s, .string ⟨#[]⟩, .bool false]) ∧ ∃ n, w' = w.drewN n := by
  have HB : Hid (∀ w, _) := index_any s
  rw [h] at HB
  clear h
  go_enter Tryz.func28, Tryz.ntmps28
  go_wp2_with (go_at_call 40; refine ((HB.out) _).mono ?_; rintro e w' ⟨rfl, rfl⟩)
  go_ret3
  exact ⟨rfl, 0, rfl⟩

set_option maxHeartbeats 400000 in
theorem liteCut_hit (s : ByteArray) (hs : s.size ≤ maxLen) (w : World) (n : Nat) (hn : n < s.size) (h : Lib.indexByte s.data.toList 47 = n) :
    Calls Tryz.prog 28 #[.string s, .string ⟨#[47]⟩] w fun e w' => e = .returned (.tuple #[.string (s.extract 0 n), .string (s.extract (n + 1) s.size), .bool true]) ∧ ∃ n, w' = w.drewN n := by
  have HB : Hid (∀ w, _) := index_any s
  rw [h] at HB
  clear h
  unfold maxLen at hs
  go_enter Tryz.func28, Tryz.ntmps28
  go_wp2_with (go_at_call 40; refine ((HB.out) _).mono ?_; rintro e w' ⟨rfl, rfl⟩)
  go_region
  all_goals (go_wp2; go_ret3; exact ⟨rfl, 1, rfl⟩)

set_option maxHeartbeats 400000 in
theorem cut_miss (s : ByteArray) (w : World) (h : Lib.indexByte s.data.toList 47 = -1) :
    Calls Tryz.prog 12 #[.string s, .string ⟨#[47]⟩] w fun e w' => e = .returned (.tuple #[.string s, .string ⟨#[]⟩, .bool false]) ∧ ∃ n, w' = w.drewN n := by
  have HB : Hid (∀ w, _) := fun w => liteCut_miss s w h
  clear h
  go_enter Tryz.func12, Tryz.ntmps12
  go_wp2_with (go_at_call 28; refine ((HB.out) _).mono ?_; rintro e w' ⟨rfl, n, rfl⟩)
  go_ret3
  exact ⟨rfl, _, rfl⟩

set_option maxHeartbeats 400000 in
theorem cut_hit (s : ByteArray) (hs : s.size ≤ maxLen) (w : World) (n : Nat) (hn : n < s.size) (h : Lib.indexByte s.data.toList 47 = n) :
    Calls Tryz.prog 12 #[.string s, .string ⟨#[47]⟩] w fun e w' => e = .returned (.tuple #[.string (s.extract 0 n), .string (s.extract (n + 1) s.size), .bool true]) ∧ ∃ n, w' = w.drewN n := by
  have HB : Hid (∀ w, _) := fun w => liteCut_hit s hs w n hn h
  clear h
  go_enter Tryz.func12, Tryz.ntmps12
  go_wp2_with (go_at_call 28; refine ((HB.out) _).mono ?_; rintro e w' ⟨rfl, n, rfl⟩)
  go_ret3
  exact ⟨rfl, _, rfl⟩

end Go.Proofs.YtijlipllahfakaaGreatDoor
