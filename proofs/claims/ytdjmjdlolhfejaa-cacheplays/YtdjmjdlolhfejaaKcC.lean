/- Lists of numbers that grow, each in blocks of its own (arbiterref06.NumsApart: plain part, 2). -/
import Derived.Test.YtdjmjdlolhfejaaKcB
namespace Go.Proofs.Ytdjmjdlolhfejaa
open Go.RowKit Go.Maps

theorem NaS.blk {N : Nat} {R : List SlT} {W : World} (S : NaS N R W) {j k : Nat} {r : SlT} (hj : R[j]? = some r) (hk : (slV r).ownBlock = some k) : N ≤ k ∧ k < W.heap.size := by
  obtain ⟨xs, h⟩ := S.own j r hj
  exact h.lt k hk
def RowsB (N : Nat) (R : List SlT) (w : World) : Prop := ∀ (j : Nat) (r : SlT), R[j]? = some r → w.ownsRow N 3 1 (slV r) r.2.1 (List.replicate r.2.1 (nmv j))
theorem RowsA.full {N : Nat} {R : List SlT} {w : World} (h : RowsA N R R.length 0 w) : RowsB N R w := fun j r hj => by
  obtain ⟨xs, h1, h2, _⟩ := h j r hj
  have hl : j < R.length := (List.getElem?_eq_some_iff.1 hj).1
  rw [← h2 hl]
  exact h1
/-- the grown lists ahead of i -/
def GrB (N : Nat) (R : List SlT) (W : World) (i Z : Nat) (G : List Value) (w : World) : Prop := ∀ (j : Nat) (r : SlT), j < i → R[j]? = some r → ∃ a c, G[j]? = some (.slice a (r.2.1 + 40) c) ∧ w.ownsRow N 3 1 (.slice a (r.2.1 + 40) c) (r.2.1 + 40) (List.replicate (r.2.1 + 40) (nmv j)) ∧ ∀ k, (Value.slice a (r.2.1 + 40) c).ownBlock = some k → ((slV r).ownBlock = some k ∨ W.heap.size < k) ∧ k < Z
/-- the list that grows -/
def CurB (N : Nat) (r : SlT) (i q Z : Nat) (a : Option Addr) (c : Nat) (w : World) : Prop := w.ownsRow N 3 1 (.slice a (r.2.1 + q) c) (r.2.1 + q) (List.replicate (r.2.1 + q) (nmv i)) ∧ ∀ k, (Value.slice a (r.2.1 + q) c).ownBlock = some k → (slV r).ownBlock = some k ∨ Z ≤ k
theorem appB {N : Nat} {R : List SlT} {W w w' : World} {i q Z : Nat} {G : List Value} {r : SlT} {a : Option Addr} {c : Nat} (S : NaS N R W) (hK : KpR N R W w) (hB : RowsB N R w) (hG : GrB N R W i Z G w) (hr : R[i]? = some r) (hC : CurB N r i q Z a c w) (hZ : W.heap.size < Z) (hZw : Z ≤ w.heap.size) (hg : w.grownBy w' (Value.slice a (r.2.1 + q) c).ownBlock) (hk : ∀ b0 v0 n0 xs0, n0 ≤ r.2.1 + q → w.ownsRow b0 3 1 v0 n0 xs0 → w'.ownsRow b0 3 1 v0 n0 xs0) : KpR N R W w' ∧ RowsB N R w' ∧ GrB N R W i Z G w' ∧ w'.heap[W.heap.size]? = w.heap[W.heap.size]? := by
  have hN := S.base
  refine ⟨hK.grown hN hg (fun k e => ?_), fun j r' hj => ?_, fun j r' hji hj => ?_, ?_⟩
  · rcases hC.2 k e with h | h
    · exact ⟨(S.blk hr h).1, .inl ⟨i, r, hr, h⟩⟩
    · exact ⟨by omega, .inr (by omega)⟩
  · have h0 := hB j r' hj
    by_cases e : j = i
    · subst e
      rw [hr] at hj
      injection hj with hj
      subst hj
      exact hk _ _ _ _ (by omega) h0
    · refine h0.kept hg ?_
      cases ob : (slV r').ownBlock with
      | none => exact .inl rfl
      | some k =>
        refine .inr fun e1 => ?_
        have hb := (S.blk hj ob).2
        rcases hC.2 k e1.symm with h | h
        · exact e (S.apart j i r' r k hj hr ob h)
        · omega
  · obtain ⟨a', c', g1, g2, g3⟩ := hG j r' hji hj
    refine ⟨a', c', g1, g2.kept hg ?_, g3⟩
    cases ob : (Value.slice a' (r'.2.1 + 40) c').ownBlock with
    | none => exact .inl rfl
    | some k =>
      refine .inr fun e1 => ?_
      obtain ⟨p1, p2⟩ := g3 k ob
      rcases hC.2 k e1.symm with h | h
      · have hb := (S.blk hr h).2
        rcases p1 with p1 | p1
        · have := S.apart j i r' r k hj hr p1 h
          omega
        · omega
      · omega
  · refine hg.block _ (by omega) (fun e1 => ?_)
    rcases hC.2 _ e1.symm with h | h
    · have := (S.blk hr h).2
      omega
    · omega
/-- the first: the list itself -/
theorem CurB.start {N : Nat} {R : List SlT} {w : World} {i Z : Nat} {r : SlT} (hB : RowsB N R w) (hr : R[i]? = some r) : CurB N r i 0 Z r.1 r.2.2 w := ⟨hB i r hr, fun _ hk => .inl hk⟩
/-- one is done -/
theorem GrB.next {N : Nat} {R : List SlT} {W w : World} {i Z Z' : Nat} {G : List Value} {r : SlT} {a : Option Addr} {c : Nat} (hG : GrB N R W i Z G w) (hr : R[i]? = some r) (hC : CurB N r i 40 Z a c w) (hZ : W.heap.size < Z) (hZ1 : Z ≤ w.heap.size) (hZ2 : w.heap.size ≤ Z') (hi : i < G.length) : GrB N R W (i + 1) Z' (G.set i (.slice a (r.2.1 + 40) c)) w := fun j r' hji hj => by
  by_cases e : j = i
  · subst e
    rw [hr] at hj
    injection hj with hj
    subst hj
    refine ⟨a, c, by rw [List.getElem?_set_self hi], hC.1, fun k hk => ⟨?_, Nat.lt_of_lt_of_le (hC.1.lt k hk).2 hZ2⟩⟩
    rcases hC.2 k hk with h | h
    · exact .inl h
    · exact .inr (by omega)
  · obtain ⟨a', c', g1, g2, g3⟩ := hG j r' (by omega) hj
    exact ⟨a', c', by rw [List.getElem?_set_ne (by omega)]; exact g1, g2, fun k hk => ⟨(g3 k hk).1, by have := (g3 k hk).2; omega⟩⟩
/-- rows behind a block that is none of theirs -/
theorem RowsB.kept {N : Nat} {R : List SlT} {w w' : World} {k0 : Nat} (h : RowsB N R w) (hg : w.grownBy w' (some k0)) (hr : ∀ (j : Nat) (r : SlT), R[j]? = some r → (slV r).ownBlock ≠ some k0) : RowsB N R w' := fun j r hj => by
  refine (h j r hj).kept hg ?_
  cases ob : (slV r).ownBlock with
  | none => exact .inl rfl
  | some k => exact .inr fun e => hr j r hj (by rw [ob, e])
theorem GrB.kept {N : Nat} {R : List SlT} {W w w' : World} {i Z k0 : Nat} {G : List Value} (h : GrB N R W i Z G w) (hg : w.grownBy w' (some k0)) (h0 : k0 = W.heap.size) (hr : ∀ (j : Nat) (r : SlT), R[j]? = some r → (slV r).ownBlock ≠ some k0) : GrB N R W i Z G w' := fun j r hji hj => by
  obtain ⟨a', c', g1, g2, g3⟩ := h j r hji hj
  refine ⟨a', c', g1, g2.kept hg ?_, g3⟩
  cases ob : (Value.slice a' (r.2.1 + 40) c').ownBlock with
  | none => exact .inl rfl
  | some k =>
    refine .inr fun e => ?_
    injection e with e
    subst e
    rcases (g3 k ob).1 with h1 | h1
    · exact hr j r hj h1
    · omega
end Go.Proofs.Ytdjmjdlolhfejaa
