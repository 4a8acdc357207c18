/- Facts on several lists of texts that a call owns, as the document's TextsApart goes over them; no Go text is walked here. -/
import Derived.Test.YtiinjaiigofbjaaOwn
namespace Go.Proofs.Ytiinjaiigofbjaa
open Go.RowKit

/-- lists t below N, each a row of its own (block g t, length n t, capacity c t) that holds X t; the list of lists lies in block L -/
structure Lists (B L N : Nat) (g c n : Nat → Nat) (X : Nat → List Value) (wr : World) : Prop where
  own : ∀ t, t < N → wr.ownsRow B 9 1 (.slice (some ⟨g t, 0, none⟩) (n t) (c t)) (n t) (X t)
  lst : ∀ t, t < N → wr.cell? ⟨L, t, none⟩ = some (.slice (some ⟨g t, 0, none⟩) (n t) (c t))

theorem Lists.keep {B L N : Nat} {g c n : Nat → Nat} {X : Nat → List Value} {w w' : World} (h : Lists B L N g c n X w) (hb : Below w.heap.size w w') : Lists B L N g c n X w' :=
  ⟨fun t ht => own_below (h.own t ht) hb (Nat.le_refl _), fun t ht => (hb.cell (World.block_lt_of_cell? w _ (h.lst t ht))).trans (h.lst t ht)⟩

theorem Lists.grown {B L N : Nat} {g c n : Nat → Nat} {X : Nat → List Value} {w w' : World} {b : Nat} (h : Lists B L N g c n X w) (hg : w.grownBy w' (some b)) (hL : L ≠ b) (hne : ∀ t, t < N → g t ≠ b) : Lists B L N g c n X w' :=
  ⟨fun t ht => (h.own t ht).kept hg (.inr (by simp [Value.ownBlock]; exact hne t ht)), fun t ht => hg.cell (h.lst t ht) (by simpa using hL)⟩

theorem Lists.store {B L N : Nat} {g c n : Nat → Nat} {X : Nat → List Value} {w : World} (h : Lists B L N g c n X w) {i : Nat} (hi : i < N) (j : Nat) (u : Value)
    (hL : L ≠ g i) (hinj : ∀ t, t < N → g t = g i → t = i) : Lists B L N g c n (fun t => if t = i then (X i).set j u else X t) (w.setCell ⟨g i, j, none⟩ u) := by
  have hs := (h.own i hi).stored j u
  refine ⟨fun t ht => ?_, fun t ht => hs.2.cell (h.lst t ht) (by simpa using hL)⟩
  by_cases e : t = i
  · subst e; simp only [if_true]; exact hs.1
  · simp only [e, if_false]
    exact (h.own t ht).kept hs.2 (.inr (by simp [Value.ownBlock]; exact fun q => e (hinj t ht q)))

theorem Lists.at {B L N : Nat} {g c n : Nat → Nat} {X : Nat → List Value} {w : World} (h : Lists B L N g c n X w) {i : Nat} (hi : i < N) {j : Nat} (hj : j < n i) :
    (∃ x, w.cell? ⟨g i, j, none⟩ = some x) ∧ w.frozen? ⟨g i, j, none⟩ = false ∧ g i < w.heap.size ∧ n i ≤ c i ∧ c i ≤ maxLen := by
  have ho := h.own i hi
  have hl : (X i).length = n i := by have := ho.1; omega
  refine ⟨⟨(X i)[j], ?_⟩, ho.frozenAt j, (ho.lt (g i) rfl).2, ?_⟩
  · rw [ho.cellAt j (by omega), List.getElem?_eq_getElem (by omega)]
  · rcases ho.2 with ⟨q, _⟩ | ⟨g1, cap1, cur, q, _, _, h1, h2, _⟩
    · simp at q
    · simp only [Value.slice.injEq, Option.some.injEq, Addr.mk.injEq, and_true, true_and] at q
      obtain ⟨_, rfl⟩ := q
      exact ⟨h1, h2⟩

/-- list i's first j texts are its mark, those of the lists ahead of it all are -/
def Marked (n : Nat → Nat) (X : Nat → List Value) (i j : Nat) : Prop := (∀ t, t < i → X t = List.replicate (n t) (sgV t)) ∧ (X i).take j = List.replicate j (sgV i)

theorem Marked.next {n : Nat → Nat} {X : Nat → List Value} {i j : Nat} (h : Marked n X i j) (hl : (X i).length = n i) (hj : j < n i) : Marked n (fun t => if t = i then (X i).set j (sgV i) else X t) i (j + 1) := by
  refine ⟨fun t ht => ?_, ?_⟩
  · have : t ≠ i := by omega
    simp only [this, if_false]; exact h.1 t ht
  · simp only [if_true]
    rw [List.take_set, List.take_succ_eq_append_getElem (by omega), h.2, List.set_append_right _ _ (by simp)]
    simp [List.replicate_succ']

theorem Marked.last {n : Nat → Nat} {X : Nat → List Value} {i : Nat} (h : Marked n X i (n i)) (hl : (X i).length = n i) : Marked n X (i + 1) 0 := by
  refine ⟨fun t ht => ?_, by simp⟩
  by_cases e : t = i
  · subst e; have := h.2; rw [← hl, List.take_length, hl] at this; exact this
  · exact h.1 t (by omega)

/-- what is known in the first loop: the lists, their marks, what lay below B, the new list of lists in block G -/
structure One (B L G N : Nat) (g c n : Nat → Nat) (ws : World) (i j : Nat) (wr : World) : Prop where
  all : ∃ X, Lists B L N g c n X wr ∧ Marked n X i j
  bel : Below B ws wr
  grn : ∃ Y, wr.ownsRow B 22 1 (.slice (some ⟨G, 0, none⟩) N N) N Y

theorem One.mark {B L G N : Nat} {g c n : Nat → Nat} {ws wr w1 : World} {i j : Nat} (h : One B L G N g c n ws i j wr) (hi : i < N) (hj : j < n i) (hbw : Below wr.heap.size wr w1) (hB : B ≤ wr.heap.size)
    (hL : L ≠ g i) (hG : G ≠ g i) (hinj : ∀ t, t < N → g t = g i → t = i) : One B L G N g c n ws i (j + 1) (w1.setCell ⟨g i, j, none⟩ (sgV i)) := by
  obtain ⟨⟨X, hl, hm⟩, hb, ⟨Y, hy⟩⟩ := h
  have hl1 := hl.keep hbw
  have hlen : (X i).length = n i := by have := (hl.own i hi).1; omega
  refine ⟨⟨_, hl1.store hi j (sgV i) hL hinj, hm.next hlen hj⟩, ?_, ⟨Y, ?_⟩⟩
  · refine (hb.trans (hbw.mono hB)).setCell ?_ _
    exact ((hl.own i hi).lt (g i) rfl).1
  · exact (own_below hy hbw (Nat.le_refl _)).kept ((hl1.own i hi).stored j (sgV i)).2 (.inr (by simpa [Value.ownBlock] using hG))

theorem One.up {B L G N : Nat} {g c n : Nat → Nat} {ws wr : World} {i : Nat} (h : One B L G N g c n ws i (n i) wr) (hi : i < N) : One B L G N g c n ws (i + 1) 0 wr := by
  obtain ⟨⟨X, hl, hm⟩, hb, hy⟩ := h
  exact ⟨⟨X, hl, hm.last (by have := (hl.own i hi).1; omega)⟩, hb, hy⟩

theorem One.cell {B L G N : Nat} {g c n : Nat → Nat} {ws wr : World} {i j : Nat} (h : One B L G N g c n ws i j wr) (hi : i < N) : wr.cell? ⟨L, i, none⟩ = some (.slice (some ⟨g i, 0, none⟩) (n i) (c i)) ∧ L < wr.heap.size := by
  obtain ⟨⟨X, hl, _⟩, _, _⟩ := h
  exact ⟨hl.lst i hi, World.block_lt_of_cell? wr _ (hl.lst i hi)⟩

theorem One.spot {B L G N : Nat} {g c n : Nat → Nat} {ws wr : World} {i j : Nat} (h : One B L G N g c n ws i j wr) (hi : i < N) (hj : j < n i) :
    (∃ x, wr.cell? ⟨g i, j, none⟩ = some x) ∧ wr.frozen? ⟨g i, j, none⟩ = false ∧ g i < wr.heap.size ∧ n i ≤ c i ∧ c i ≤ maxLen := by
  obtain ⟨⟨X, hl, _⟩, _, _⟩ := h
  exact hl.at hi hj

theorem cells_later {W w1 : World} (hb : Below W.heap.size W w1) : (∀ b o, b < W.heap.size → w1.cell? ⟨b, o, none⟩ = W.cell? ⟨b, o, none⟩) ∧ (∀ b o, b < W.heap.size → w1.frozen? ⟨b, o, none⟩ = W.frozen? ⟨b, o, none⟩) :=
  ⟨fun b o h => hb.cell (p := ⟨b, o, none⟩) h, fun b o h => hb.frozen (p := ⟨b, o, none⟩) h⟩

end Go.Proofs.Ytiinjaiigofbjaa
