/- Walks of the document's answers of layer 4 (arbiterref04): words, op; what was there before stays. -/
import Derived.Test.YtfbhjfpkhofifaaGreatDoorCodeL
namespace Go.Proofs.YtfbhjfpkhofifaaGreatDoor
open Go.RowKit

/-- the words of the instructions, by their bytes -/
def wordsL : List (List UInt8) := [[], [105, 99, 111, 110, 115, 116], [105, 108, 111, 97, 100], [105, 115, 116, 111, 114, 101], [97, 108, 111, 97, 100], [97, 115, 116, 111, 114, 101], [110, 117, 108, 108], [105, 97, 100, 100], [105, 115, 117, 98], [105, 109, 117, 108], [105, 100, 105, 118], [103, 111, 116, 111], [105, 102, 101, 113], [105, 102, 110, 101], [105, 102, 108, 116], [105, 102, 99, 109, 112, 101, 113], [105, 102, 99, 109, 112, 108, 116], [105, 102, 97, 99, 109, 112, 101, 113], [105, 102, 110, 117, 108, 108], [112, 111, 112], [100, 117, 112], [115, 119, 97, 112], [110, 101, 119], [110, 101, 119, 97, 114, 114, 97, 121], [109, 117, 108, 116, 105, 110, 101, 119], [97, 114, 114, 97, 121, 108, 101, 110, 103, 116, 104], [105, 97, 108, 111, 97, 100], [105, 97, 115, 116, 111, 114, 101], [97, 97, 108, 111, 97, 100], [97, 97, 115, 116, 111, 114, 101], [99, 104, 101, 99, 107, 99, 97, 115, 116], [105, 110, 115, 116, 97, 110, 99, 101, 111, 102], [105, 110, 118, 111, 107, 101, 118, 105, 114, 116, 117, 97, 108], [105, 110, 118, 111, 107, 101, 105, 110, 116, 101, 114, 102, 97, 99, 101], [105, 110, 118, 111, 107, 101, 115, 112, 101, 99, 105, 97, 108], [105, 110, 118, 111, 107, 101, 115, 116, 97, 116, 105, 99], [105, 114, 101, 116, 117, 114, 110], [97, 114, 101, 116, 117, 114, 110], [114, 101, 116, 117, 114, 110], [112, 114, 105, 110, 116], [112, 114, 105, 110, 116, 99, 108, 97, 115, 115]]
def wordsC : Array Value := (wordsL.map strV).toArray

theorem words_size : wordsL.length = 41 := rfl

set_option maxRecDepth 100000 in
set_option maxHeartbeats 4000000 in
theorem rWords_any (w : World) : Calls Tryz.prog 83 #[] w fun e w' => e = .returned (.slice (some ⟨w.heap.size, 0, none⟩) 41 41) ∧ w' = w.alloc (.cells wordsC 9) := by
  go_enter Tryz.func83, Tryz.ntmps83
  go_wp2
  go_ret
  exact ⟨rfl, rfl⟩

theorem words_cell (w : World) (i : Nat) (x : List UInt8) (h : wordsL[i]? = some x) : (w.alloc (.cells wordsC 9)).cell? ⟨w.heap.size, i, none⟩ = some (.string ⟨x.toArray⟩) := by
  rw [cell_of_row _ w.heap.size i _ 9 (0, 0) (heap_alloc_new w _)]
  rw [wordsC, List.getElem?_toArray, List.getElem?_map, h]; rfl

theorem rWords_row (w : World) : Calls Tryz.prog 83 #[] w fun e w' => e = .returned (.slice (some ⟨w.heap.size, 0, none⟩) 41 41) ∧ Below w.heap.size w w' ∧ ∀ (i : Nat) (x : List UInt8), wordsL[i]? = some x → w'.cell? ⟨w.heap.size, i, none⟩ = some (.string ⟨x.toArray⟩) :=
  (rWords_any w).mono fun e w' ⟨he, hw⟩ => ⟨he, by rw [hw]; exact (Below.refl _ _).alloc (Nat.le_refl _) _, by rw [hw]; exact words_cell w⟩

/-- the number of a word among those from i on, or 0 -/
def opFrom (l : List UInt8) : Nat → List (List UInt8) → Nat
  | _, [] => 0
  | i, x :: r => if x = l then i else opFrom l (i + 1) r
def opOf (l : List UInt8) : Nat := opFrom l 1 (wordsL.drop 1)

theorem opFrom_at (l : List UInt8) (i : Nat) (x : List UInt8) (h : wordsL[i]? = some x) : opFrom l i (wordsL.drop i) = if x = l then i else opFrom l (i + 1) (wordsL.drop (i + 1)) := by
  obtain ⟨hi, hx⟩ := List.getElem?_eq_some_iff.1 h
  rw [List.drop_eq_getElem_cons hi, opFrom, hx]

theorem str_beq (a b : ByteArray) : (a.toList == b.toList) = (a.data.toList == b.data.toList) := by rw [Lib.toList_data, Lib.toList_data]

set_option maxRecDepth 100000 in
set_option maxHeartbeats 1000000 in
theorem rOp_any (s : ByteArray) (w : World) : Calls Tryz.prog 96 #[.string s] w fun e w' => e = .returned (.int .i64 (opOf s.data.toList)) ∧ Below w.heap.size w w' := by
  have HW : Hid (∀ w, _) := rWords_row
  go_enter Tryz.func96, Tryz.ntmps96
  go_wp2_with (go_at_call 83; refine (HW.out _).mono ?_; rintro e w1 ⟨rfl, HB, HC⟩; have HB : Hid _ := HB; have HC : Hid _ := HC; clear HW)
  go_loop [4] (fun iv => ∃ (i : Nat), iv = .int .i64 i ∧ 1 ≤ i ∧ i ≤ 41 ∧ Hid (opOf s.data.toList = opFrom s.data.toList i (wordsL.drop i))) (fun iv => 41 - (intOf iv).toNat)
  case atStart => exact ⟨1, rfl, by omega, by omega, rfl⟩
  case round =>
    obtain ⟨i, rfl, hi1, hi, hO⟩ := hrel
    by_cases hlt : i < 41
    · obtain ⟨x, hx⟩ : ∃ x, wordsL[i]? = some x := ⟨_, List.getElem?_eq_getElem (by rw [words_size]; exact hlt)⟩
      have c0 := HC.out i x hx
      have hst := opFrom_at s.data.toList i x hx
      obtain ⟨X, hX⟩ : ∃ X : ByteArray, X = ⟨x.toArray⟩ := ⟨_, rfl⟩
      rw [← hX] at c0
      have hbe : (X.toList == s.toList) = (x == s.data.toList) := by rw [str_beq, hX]
      by_cases he : x = s.data.toList
      · have hq : (X.toList == s.toList) = true := by rw [hbe]; simp [he]
        have HN : Hid (opOf s.data.toList = i) := by rw [Hid, hO.out, hst, if_pos he]
        clear hst hbe hO HC hx hX he
        go_wp2
        go_ret
        exact ⟨ret_int (by rw [HN.out]), HB.out⟩
      · have hq : (X.toList == s.toList) = false := by rw [hbe]; simp [he]
        have HN : Hid (opOf s.data.toList = opFrom s.data.toList (i + 1) (wordsL.drop (i + 1))) := by rw [Hid, hO.out, hst, if_neg he]
        clear hst hbe hO HC hx hX he
        go_wp2
        go_round
        case rel => exact ⟨i + 1, by go_num, by omega, by omega, HN⟩
        case measure => simp [intOf]; omega
    · have HN : Hid (opOf s.data.toList = 0) := by
        have : i = 41 := by omega
        rw [Hid, hO.out, this]; rfl
      clear hO HC
      go_wp2
      go_ret
      exact ⟨ret_int (by rw [HN.out]; rfl), HB.out⟩

end Go.Proofs.YtfbhjfpkhofifaaGreatDoor
