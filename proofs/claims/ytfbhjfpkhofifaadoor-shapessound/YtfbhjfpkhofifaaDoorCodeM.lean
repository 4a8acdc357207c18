/- The walk of the document's Parse (arbiterref04): an instruction from its line; what was there before stays. -/
import Derived.Test.YtfbhjfpkhofifaaDoorCodeG
import Derived.Test.YtfbhjfpkhofifaaDoorCodeI
import Derived.Test.YtfbhjfpkhofifaaDoorCodeL
namespace Go.Proofs.YtfbhjfpkhofifaaDoor
open Go.RowKit

def zero7 : Array Value := #[.int .i64 0, .int .i64 0, .string ⟨#[]⟩, .bool false, .string ⟨#[]⟩, .string ⟨#[]⟩, .string ⟨#[]⟩]
/-- a block that holds the zero instruction -/
def ZB (w : World) (b : Nat) : Prop := w.heap[b]? = some (.cells zero7 58 (0, 0))

theorem ZB.keep {w w' : World} {N b : Nat} (h : ZB w b) (hb : Below N w w') (hlt : b < N) : ZB w' b := by
  unfold ZB; rw [hb.block _ hlt]; exact h

theorem ZB.facts {w : World} {b : Nat} (h : ZB w b) : w.cell? ⟨b, 0, none⟩ = some (.int .i64 0) ∧ w.cell? ⟨b, 1, none⟩ = some (.int .i64 0) ∧ w.cell? ⟨b, 2, none⟩ = some (.string ⟨#[]⟩) ∧ w.cell? ⟨b, 3, none⟩ = some (.bool false) ∧ w.cell? ⟨b, 4, none⟩ = some (.string ⟨#[]⟩) ∧ w.cell? ⟨b, 5, none⟩ = some (.string ⟨#[]⟩) ∧ w.cell? ⟨b, 6, none⟩ = some (.string ⟨#[]⟩) ∧
    w.frozen? ⟨b, 0, none⟩ = false ∧ w.frozen? ⟨b, 1, none⟩ = false ∧ w.frozen? ⟨b, 2, none⟩ = false ∧ w.frozen? ⟨b, 3, none⟩ = false ∧ w.frozen? ⟨b, 4, none⟩ = false ∧ w.frozen? ⟨b, 5, none⟩ = false ∧ w.frozen? ⟨b, 6, none⟩ = false := by
  unfold ZB at h
  refine ⟨?_, ?_, ?_, ?_, ?_, ?_, ?_, ?_, ?_, ?_, ?_, ?_, ?_, ?_⟩
  · rw [cell_of_row _ b 0 _ 58 (0, 0) h]; rfl
  · rw [cell_of_row _ b 1 _ 58 (0, 0) h]; rfl
  · rw [cell_of_row _ b 2 _ 58 (0, 0) h]; rfl
  · rw [cell_of_row _ b 3 _ 58 (0, 0) h]; rfl
  · rw [cell_of_row _ b 4 _ 58 (0, 0) h]; rfl
  · rw [cell_of_row _ b 5 _ 58 (0, 0) h]; rfl
  · rw [cell_of_row _ b 6 _ 58 (0, 0) h]; rfl
  all_goals simp [World.frozen?, h]

theorem own_words {w : World} {base : Nat} {v : Value} {ps : List (List UInt8)} (h : w.ownsRow base 9 1 v ps.length (ps.map strV)) (hne : ps ≠ []) :
    ∃ g cap, v = .slice (some ⟨g, 0, none⟩) ps.length cap ∧ ps.length ≤ cap ∧ cap ≤ maxLen ∧ base ≤ g ∧ g < w.heap.size ∧ ∀ j p, ps[j]? = some p → w.cell? ⟨g, j, none⟩ = some (.string ⟨p.toArray⟩) := by
  have h' := h
  rcases h.2 with ⟨rfl, h0⟩ | ⟨g, cap, cur, rfl, hb, hg, hn, hm, _, _⟩
  · exact absurd (List.length_eq_zero_iff.1 h0) hne
  · refine ⟨g, cap, rfl, hn, hm, hb, (Array.getElem?_eq_some_iff.1 hg).1, fun j p hj => ?_⟩
    have hlt : j < ps.length := (List.getElem?_eq_some_iff.1 hj).1
    rw [h'.cellAt j (by omega), List.getElem?_map, hj]; rfl

def zeroI : Ins := ⟨0, 0, ⟨#[]⟩, false, ⟨#[]⟩, ⟨#[]⟩, ⟨#[]⟩⟩
/-- the instruction that a line's words give, by the kind of its operand -/
def candI (k : Int) (o : Nat) (ps : List (List UInt8)) : Option Ins :=
  if k = -1 ∨ k = 0 then (if ps.length = 1 then some ⟨o, 0, ⟨#[]⟩, false, ⟨#[]⟩, ⟨#[]⟩, ⟨#[]⟩⟩ else none)
  else if k = 1 ∨ k = 2 ∨ k = 3 then (if ps.length = 2 ∧ (numR (ps.getD 1 [])).2 = true then some ⟨o, (numR (ps.getD 1 [])).1, ⟨#[]⟩, false, ⟨#[]⟩, ⟨#[]⟩, ⟨#[]⟩⟩ else none)
  else if k = 4 ∨ k = 5 ∨ k = 6 then (if ps.length = 2 then some ⟨o, 0, ⟨(ps.getD 1 []).toArray⟩, false, ⟨#[]⟩, ⟨#[]⟩, ⟨#[]⟩⟩ else none)
  else if k = 7 then (if ps.length = 3 ∧ (numR (ps.getD 1 [])).2 = true then some ⟨o, (numR (ps.getD 1 [])).1, ⟨(ps.getD 2 []).toArray⟩, false, ⟨#[]⟩, ⟨#[]⟩, ⟨#[]⟩⟩ else none)
  else (if ps.length = 2 ∧ rfOK (ps.getD 1 []) = true then some ⟨o, 0, ⟨#[]⟩, rfB (ps.getD 1 []), ⟨(rfC (ps.getD 1 [])).toArray⟩, ⟨(rfN (ps.getD 1 [])).toArray⟩, ⟨(rfD (ps.getD 1 [])).toArray⟩⟩ else none)
def parI (k : Int) (o : Nat) (ps : List (List UInt8)) : Option Ins := match candI k o ps with
  | some i => if ickI i = 0 then some i else none
  | none => none
def outI : Option Ins → Value
  | some i => .tuple #[insV i, .int .i64 0]
  | none => .tuple #[insV zeroI, .int .i64 4]

theorem parI_no {k : Int} {o : Nat} {ps : List (List UInt8)} (h : candI k o ps = none) : outI (parI k o ps) = .tuple #[insV zeroI, .int .i64 4] := by rw [parI, h]; rfl
theorem parI_bad {k : Int} {o : Nat} {ps : List (List UInt8)} {i : Ins} (h : candI k o ps = some i) (hi : ickI i ≠ 0) : outI (parI k o ps) = .tuple #[insV zeroI, .int .i64 4] := by rw [parI, h]; simp only; rw [if_neg hi]; rfl
theorem parI_yes {k : Int} {o : Nat} {ps : List (List UInt8)} {i : Ins} (h : candI k o ps = some i) (hi : ickI i = 0) : outI (parI k o ps) = .tuple #[insV i, .int .i64 0] := by rw [parI, h]; simp only; rw [if_pos hi]; rfl

theorem opFrom_le (l : List UInt8) : ∀ (ws : List (List UInt8)) (i : Nat), opFrom l i ws ≤ i + ws.length := by
  intro ws
  induction ws with
  | nil => intro i; simp [opFrom]
  | cons x r ih =>
    intro i
    rw [opFrom]
    split
    · omega
    · have := ih (i + 1); rw [List.length_cons]; omega
theorem op_le (l : List UInt8) : opOf l ≤ 41 := by
  have := opFrom_le l (wordsL.drop 1) 1
  rw [List.length_drop, words_size] at this
  exact this

end Go.Proofs.YtfbhjfpkhofifaaDoor
