/- Lists of numbers, each a row of one's own, in blocks of their own: written over, grown (arbiterref06.NumsApart: plain part). -/
import Derived.Test.YtdjmjdlolhfejaaKbN
namespace Go.Proofs.Ytdjmjdlolhfejaa
open Go.RowKit Go.Maps

abbrev SlT := Option Addr × Nat × Nat
def slV (r : SlT) : Value := .slice r.1 r.2.1 r.2.2
def nmv (j : Nat) : Value := .int .i64 (-1 - (j : Int))
/-- the lists at the start -/
structure NaS (N : Nat) (R : List SlT) (W : World) : Prop where
  own : ∀ (j : Nat) (r : SlT), R[j]? = some r → ∃ xs, W.ownsRow N 3 1 (slV r) r.2.1 xs
  apart : ∀ (j j' : Nat) (r r' : SlT) (k : Nat), R[j]? = some r → R[j']? = some r' → (slV r).ownBlock = some k → (slV r').ownBlock = some k → j = j'
  base : N ≤ W.heap.size
/-- what is none of the lists' stays -/
def KpR (N : Nat) (R : List SlT) (W w : World) : Prop := Below N W w ∧ ∀ k, k < W.heap.size → (∀ (j : Nat) (r : SlT), R[j]? = some r → (slV r).ownBlock ≠ some k) → w.heap[k]? = W.heap[k]?
theorem KpR.refl (N : Nat) (R : List SlT) (W : World) : KpR N R W W := ⟨Below.refl _ _, fun _ _ _ => rfl⟩
theorem KpR.alloc {N : Nat} {R : List SlT} {W w : World} (h : KpR N R W w) (hN : N ≤ W.heap.size) (o : Obj) : KpR N R W (w.alloc o) :=
  ⟨h.1.alloc (Nat.le_trans hN h.1.size) o, fun k hk hr => (Below.heap_alloc _ _ _ (Nat.lt_of_lt_of_le hk h.1.size)).trans (h.2 k hk hr)⟩
theorem KpR.grown {N : Nat} {R : List SlT} {W w w' : World} {row : Option Nat} (h : KpR N R W w) (hN : N ≤ W.heap.size) (hg : w.grownBy w' row) (hr : ∀ k, row = some k → N ≤ k ∧ ((∃ (j : Nat) (r : SlT), R[j]? = some r ∧ (slV r).ownBlock = some k) ∨ W.heap.size ≤ k)) : KpR N R W w' := by
  refine ⟨h.1.grown hg (Nat.le_trans hN h.1.size) (fun k hk => (hr k hk).1), fun k hk hn => ?_⟩
  refine (hg.block k (Nat.lt_of_lt_of_le hk h.1.size) (fun e => ?_)).trans (h.2 k hk hn)
  rcases (hr k e.symm).2 with ⟨j, r, h1, h2⟩ | h1
  · exact hn j r h1 h2
  · omega
/-- the rows while they are written over: row i up to q -/
def RowsA (N : Nat) (R : List SlT) (i q : Nat) (w : World) : Prop := ∀ (j : Nat) (r : SlT), R[j]? = some r → ∃ xs, w.ownsRow N 3 1 (slV r) r.2.1 xs ∧ (j < i → xs = List.replicate r.2.1 (nmv j)) ∧ (j = i → xs.take q = List.replicate q (nmv i))
theorem RowsA.start {N : Nat} {R : List SlT} {W : World} (h : NaS N R W) : RowsA N R 0 0 W := fun j r hj => by
  obtain ⟨xs, h1⟩ := h.own j r hj
  exact ⟨xs, h1, fun h => absurd h (by omega), fun _ => by simp⟩
theorem RowsA.next {N : Nat} {R : List SlT} {i : Nat} {w : World} {r : SlT} (h : RowsA N R i r.2.1 w) (hr : R[i]? = some r) : RowsA N R (i + 1) 0 w := fun j r' hj => by
  obtain ⟨xs, h1, h2, h3⟩ := h j r' hj
  refine ⟨xs, h1, fun hlt => ?_, fun _ => by simp⟩
  by_cases e : j = i
  · subst e
    rw [hr] at hj
    injection hj with hj
    subst hj
    have := h3 rfl
    rwa [List.take_of_length_le (by rw [h1.1]; omega)] at this
  · exact h2 (by omega)
theorem RowsA.kept {N : Nat} {R : List SlT} {i q : Nat} {w w' : World} {row : Option Nat} (h : RowsA N R i q w) (hg : w.grownBy w' row) (hr : ∀ k, row = some k → ∀ (j : Nat) (r : SlT), R[j]? = some r → (slV r).ownBlock ≠ some k) : RowsA N R i q w' := fun j r hj => by
  obtain ⟨xs, h1, h2⟩ := h j r hj
  refine ⟨xs, h1.kept hg ?_, h2⟩
  cases ob : (slV r).ownBlock with
  | none => exact .inl rfl
  | some k => exact .inr fun e => hr k e.symm j r hj ob
theorem RowsA.store {N : Nat} {R : List SlT} {W w : World} {i q g c n : Nat} (S : NaS N R W) (h : RowsA N R i q w) (hr : R[i]? = some (some ⟨g, 0, none⟩, n, c)) (hq : q < n) : RowsA N R i (q + 1) (w.setCell ⟨g, q, none⟩ (nmv i)) ∧ w.grownBy (w.setCell ⟨g, q, none⟩ (nmv i)) (some g) := by
  obtain ⟨ys, hi1, hi2, hi3⟩ := h i _ hr
  have st := World.ownsRow.stored hi1 q (nmv i)
  refine ⟨fun j r hj => ?_, st.2⟩
  by_cases e : j = i
  · subst e
    rw [hr] at hj
    injection hj with hj
    subst hj
    refine ⟨_, st.1, fun hlt => absurd hlt (by omega), fun _ => ?_⟩
    have hl : q < ys.length := by have := hi1.1; simp only at this; omega
    rw [List.take_add_one, List.getElem?_set_self hl, List.take_set, List.set_eq_of_length_le (by rw [List.length_take]; omega), hi3 rfl, List.replicate_succ']
    rfl
  · obtain ⟨xs, h1, h2, h3⟩ := h j r hj
    refine ⟨xs, h1.kept st.2 ?_, h2, fun e1 => absurd e1 e⟩
    cases ob : (slV r).ownBlock with
    | none => exact .inl rfl
    | some k => exact .inr fun e1 => e (S.apart j i r _ k hj hr ob e1.symm)
end Go.Proofs.Ytdjmjdlolhfejaa
