/- Walks of the document's answers of layer 4 (arbiterref04): words, op; what was there before stays. -/
import Derived.Test.YtijlipllahfakaaDoorCodeA
namespace Go.Proofs.YtijlipllahfakaaDoor
open Go.RowKit

/-- the words of the instructions, by their bytes -/
def wordsL : List (List UInt8) := [[], [105, 99, 111, 110, 115, 116], [105, 108, 111, 97, 100], [105, 115, 116, 111, 114, 101], [97, 108, 111, 97, 100], [97, 115, 116, 111, 114, 101], [110, 117, 108, 108], [105, 97, 100, 100], [105, 115, 117, 98], [105, 109, 117, 108], [105, 100, 105, 118], [103, 111, 116, 111], [105, 102, 101, 113], [105, 102, 110, 101], [105, 102, 108, 116], [105, 102, 99, 109, 112, 101, 113], [105, 102, 99, 109, 112, 108, 116], [105, 102, 97, 99, 109, 112, 101, 113], [105, 102, 110, 117, 108, 108], [112, 111, 112], [100, 117, 112], [115, 119, 97, 112], [110, 101, 119], [110, 101, 119, 97, 114, 114, 97, 121], [109, 117, 108, 116, 105, 110, 101, 119], [97, 114, 114, 97, 121, 108, 101, 110, 103, 116, 104], [105, 97, 108, 111, 97, 100], [105, 97, 115, 116, 111, 114, 101], [97, 97, 108, 111, 97, 100], [97, 97, 115, 116, 111, 114, 101], [99, 104, 101, 99, 107, 99, 97, 115, 116], [105, 110, 115, 116, 97, 110, 99, 101, 111, 102], [105, 110, 118, 111, 107, 101, 118, 105, 114, 116, 117, 97, 108], [105, 110, 118, 111, 107, 101, 105, 110, 116, 101, 114, 102, 97, 99, 101], [105, 110, 118, 111, 107, 101, 115, 112, 101, 99, 105, 97, 108], [105, 110, 118, 111, 107, 101, 115, 116, 97, 116, 105, 99], [105, 114, 101, 116, 117, 114, 110], [97, 114, 101, 116, 117, 114, 110], [114, 101, 116, 117, 114, 110], [112, 114, 105, 110, 116], [112, 114, 105, 110, 116, 99, 108, 97, 115, 115]]
def wordsC : Array Value := (wordsL.map strV).toArray

theorem words_size : wordsL.length = 41 := rfl

set_option maxRecDepth 100000 in
set_option maxHeartbeats 4000000 in
theorem rWords_any (w : World) : Calls Tryd.prog 29 #[] w fun e w' => e = .returned (.slice (some ⟨w.heap.size, 0, none⟩) 41 41) ∧ w' = w.alloc (.cells wordsC 9) := by
  go_enter Tryd.func29, Tryd.ntmps29
  go_wp2
  go_ret
  exact ⟨rfl, rfl⟩

theorem words_cell (w : World) (i : Nat) (x : List UInt8) (h : wordsL[i]? = some x) : (w.alloc (.cells wordsC 9)).cell? ⟨w.heap.size, i, none⟩ = some (.string ⟨x.toArray⟩) := by
  rw [cell_of_row _ w.heap.size i _ 9 (0, 0) (heap_alloc_new w _)]
  rw [wordsC, List.getElem?_toArray, List.getElem?_map, h]; rfl

theorem rWords_row (w : World) : Calls Tryd.prog 29 #[] w fun e w' => e = .returned (.slice (some ⟨w.heap.size, 0, none⟩) 41 41) ∧ Below w.heap.size w w' ∧ ∀ (i : Nat) (x : List UInt8), wordsL[i]? = some x → w'.cell? ⟨w.heap.size, i, none⟩ = some (.string ⟨x.toArray⟩) :=
  (rWords_any w).mono fun e w' ⟨he, hw⟩ => ⟨he, by rw [hw]; exact (Below.refl _ _).alloc (Nat.le_refl _) _, by rw [hw]; exact words_cell w⟩

/-- the number of a word among those from i on, or 0 -/
def opFrom (l : List UInt8) : Nat → List (List UInt8) → Nat
  | _, [] => 0
  | i, x :: r => if x = l then i else opFrom l (i + 1) r
def opOf (l : List UInt8) : Nat := opFrom l 1 (wordsL.drop 1)

theorem opFrom_at (l : List UInt8) (i : Nat) (x : List UInt8) (h : wordsL[i]? = some x) : opFrom l i (wordsL.drop i) = if x = l then i else opFrom l (i + 1) (wordsL.drop (i + 1)) := by
  obtain ⟨hi, hx⟩ := List.getElem?_eq_some_iff.1 h
  rw [List.drop_eq_getElem_cons hi, opFrom, hx]

theorem str_beq (a b : ByteArray) : (a.toList == b.toList) = (a.data.toList == b.data.toList) := by rw [Lib.toList_data, Lib.toList_data]

end Go.Proofs.YtijlipllahfakaaDoor
