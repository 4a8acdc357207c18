/- Walks of the document's answers of layer 2 (arbiterref02) that take a type: Check, Same, written, Text, RefText, ArrayOf, Component, Element: each returns what the plain functions say; what was there before stays. -/
import Derived.Test.YtijlipllahfakaaGreatDoorRefLists
import Derived.Test.YtijlipllahfakaaGreatDoorTypesPure
import Derived.Laws.IdiomStrings
namespace Go.Proofs.YtijlipllahfakaaGreatDoor
open Go.RowKit

/-- a sound type, as numbers and bytes -/
def sndB (d : Int) (l : List UInt8) : Bool := decide (0 ≤ d) && decide (d ≤ 255) && (l.isEmpty || validL l)

/-- OK or ErrForm -/
def chkI (b : Bool) : Int := if b then 0 else 1

theorem Below.step {w w1 w2 : World} (h1 : Below w.heap.size w w1) (h2 : Below w1.heap.size w1 w2) : Below w.heap.size w w2 := h1.trans (h2.mono h1.size)

theorem Tryz.info5 : (Tryz.prog.info? 5).map (fun i => (i.zero, i.size, i.bytes)) = some (some (.int .u8 0), 1, 1) := by kernel_rfl

/-- while the brackets are laid: the row of bytes, the type's own block, what was there before -/
structure Brk (G k j : Nat) (s : ByteArray) (w wr : World) : Prop where
  own : ∃ Y, wr.ownsRow (w.heap.size + 1) 5 1 (.slice (some ⟨G, 0, none⟩) k k) k Y ∧ Y.take j = List.replicate j (.int .u8 91)
  c0 : wr.cell? ⟨w.heap.size, 0, none⟩ = some (.int .i64 k)
  c1 : wr.cell? ⟨w.heap.size, 1, none⟩ = some (.string s)
  bel : Below w.heap.size w wr

theorem Brk.put {G k j : Nat} {s : ByteArray} {w wr : World} (h : Brk G k j s w wr) (hj : j < k) : Brk G k (j + 1) s w (wr.setCell ⟨G, j, none⟩ (.int .u8 91)) := by
  obtain ⟨⟨Y, ho, ht⟩, c0, c1, hb⟩ := h
  have hs := ho.stored j (.int .u8 91)
  have hG := (ho.lt G rfl).1
  have hl : Y.length = k := by have := ho.1; omega
  refine ⟨⟨_, hs.1, ?_⟩, hs.2.cell c0 (by simp; omega), hs.2.cell c1 (by simp; omega), hb.setCell (by show w.heap.size ≤ G; omega) _⟩
  rw [List.take_set, List.take_succ_eq_append_getElem (by omega), ht, List.set_append_right _ _ (by simp)]
  simp [List.replicate_succ']

theorem Brk.text {G k : Nat} {s : ByteArray} {w wr : World} (h : Brk G k k s w wr) : (convert 78 9 (.slice (some ⟨G, 0, none⟩) k k)).run Tryz.prog wr = .ok (.string ⟨(List.replicate k (91 : UInt8)).toArray⟩) wr := by
  obtain ⟨⟨Y, ho, ht⟩, _, _, _⟩ := h
  have hl : Y.length = k := by have := ho.1; omega
  have hY : Y = List.replicate k (.int .u8 91) := by rw [← hl, List.take_length, hl] at ht; exact ht
  have := run_convert_bytes_back (P := Tryz.prog) wr 78 9 5 ⟨G, 0, none⟩ k (List.replicate k (91 : UInt8)) Tryz.underlying78 Tryz.underlying5 Tryz.underlying9 (fun j hj => by
    rw [Addr.add_lit, Nat.zero_add, ho.cellAt j (by simp at hj; omega), hY, List.getElem?_replicate, if_pos (by simpa using hj)]
    simp)
  rw [List.length_replicate] at this
  exact this

end Go.Proofs.YtijlipllahfakaaGreatDoor
