/- More facts on several lists of texts that a call owns: what is known while each is grown by its mark, and behind that; no Go text is walked here. -/
import Derived.Test.YtiinjaiigofbjaaApartFacts
namespace Go.Proofs.Ytiinjaiigofbjaa
open Go.RowKit

theorem below_undrew {B : Nat} {w w' : World} (h : Below B w.drew w') : Below B w w' := ⟨h.os, h.tape, h.output, h.size, h.block⟩

/-- the lists hold their marks; those below i have been grown into rows h t of 70 marks more -/
structure Two (B L G N : Nat) (g c n : Nat → Nat) (ws : World) (i : Nat) (h cp : Nat → Nat) (wr : World) : Prop where
  all : Lists B L N g c n (fun t => List.replicate (n t) (sgV t)) wr
  bel : Below B ws wr
  grn : ∃ Y, wr.ownsRow B 22 1 (.slice (some ⟨G, 0, none⟩) N N) N Y ∧ ∀ t, t < i → Y[t]? = some (.slice (some ⟨h t, 0, none⟩) (n t + 70) (cp t))
  own : ∀ t, t < i → wr.ownsRow B 9 1 (.slice (some ⟨h t, 0, none⟩) (n t + 70) (cp t)) (n t + 70) (List.replicate (n t + 70) (sgV t))
  sep : ∀ t, t < i → (∀ u, u < N → u ≠ t → h t ≠ g u) ∧ (∀ u, u < i → u ≠ t → h t ≠ h u) ∧ h t ≠ L ∧ h t ≠ G

/-- list i is being grown: k marks more in row b -/
structure Mid (B L G N : Nat) (g c n : Nat → Nat) (ws : World) (i k b cap : Nat) (h cp : Nat → Nat) (wr : World) : Prop where
  two : Two B L G N g c n ws i h cp wr
  own : wr.ownsRow B 9 1 (.slice (some ⟨b, 0, none⟩) (n i + k) cap) (n i + k) (List.replicate (n i + k) (sgV i))
  free : (∀ u, u < N → u ≠ i → b ≠ g u) ∧ (∀ u, u < i → b ≠ h u) ∧ b ≠ L ∧ b ≠ G

section
variable {B L G N : Nat} {g c n : Nat → Nat} {ws wr w1 : World} {i k b cap : Nat} {h cp : Nat → Nat}

theorem Two.keep (q : Two B L G N g c n ws i h cp wr) (hb : Below wr.heap.size wr w1) (hB : B ≤ wr.heap.size) : Two B L G N g c n ws i h cp w1 := by
  obtain ⟨Y, hy, hyt⟩ := q.grn
  exact ⟨q.all.keep hb, q.bel.trans (hb.mono hB), ⟨Y, own_below hy hb (Nat.le_refl _), hyt⟩, fun t ht => own_below (q.own t ht) hb (Nat.le_refl _), q.sep⟩

theorem Mid.keep (q : Mid B L G N g c n ws i k b cap h cp wr) (hb : Below wr.heap.size wr w1) (hB : B ≤ wr.heap.size) : Mid B L G N g c n ws i k b cap h cp w1 :=
  ⟨q.two.keep hb hB, own_below q.own hb (Nat.le_refl _), q.free⟩

theorem Two.first (q : One B L G N g c n ws N 0 wr) (h cp : Nat → Nat) : Two B L G N g c n ws 0 h cp wr := by
  obtain ⟨⟨X, hl, hm⟩, hb, ⟨Y, hy⟩⟩ := q
  refine ⟨⟨fun t ht => ?_, hl.lst⟩, hb, ⟨Y, hy, fun t ht => absurd ht (by omega)⟩, fun t ht => absurd ht (by omega), fun t ht => absurd ht (by omega)⟩
  have := hl.own t ht
  rw [hm.1 t ht] at this
  exact this

theorem Mid.first (q : Two B L G N g c n ws i h cp wr) (hi : i < N) (hinj : ∀ t u, t < N → u < N → g t = g u → t = u) (hL : ∀ t, t < N → L ≠ g t) (hG : ∀ t, t < N → G ≠ g t) : Mid B L G N g c n ws i 0 (g i) (c i) h cp wr :=
  ⟨q, q.all.own i hi, fun u hu hne e => hne (hinj u i hu hi e.symm), fun u hu e => (q.sep u hu).1 i hi (by omega) e.symm, fun e => hL i hi e.symm, fun e => hG i hi e.symm⟩

theorem Mid.next {g' cap' : Nat} {w' : World} (q : Mid B L G N g c n ws i k b cap h cp wr) (hi : i < N) (hB : B ≤ wr.heap.size)
    (ho : w'.ownsRow B 9 1 (.slice (some ⟨g', 0, none⟩) (n i + k + 1) cap') (n i + k + 1) (List.replicate (n i + k) (sgV i) ++ [sgV i])) (hg : wr.grownBy w' (some b)) (hg' : g' = b ∨ wr.heap.size ≤ g')
    (hk : ∀ m c2 ys, m ≤ n i + k → wr.ownsRow B 9 1 (.slice (some ⟨b, 0, none⟩) m c2) m ys → w'.ownsRow B 9 1 (.slice (some ⟨b, 0, none⟩) m c2) m ys) :
    Mid B L G N g c n ws i (k + 1) g' cap' h cp w' := by
  obtain ⟨f1, f2, f3, f4⟩ := q.free
  obtain ⟨Y, hy, hyt⟩ := q.two.grn
  have hbB : B ≤ b := (q.own.lt b rfl).1
  refine ⟨⟨⟨fun t ht => ?_, fun t ht => hg.cell (q.two.all.lst t ht) (by simpa using fun e : L = b => f3 e.symm)⟩, q.two.bel.grown hg hB (fun r hr => by simp at hr; omega), ⟨Y, hy.kept hg (.inr (by simpa [Value.ownBlock] using fun e : G = b => f4 e.symm)), hyt⟩, fun t ht => (q.two.own t ht).kept hg (.inr (by simpa [Value.ownBlock] using fun e : h t = b => f2 t ht e.symm)), q.two.sep⟩, ?_, ?_⟩
  · by_cases e : t = i
    · subst e
      by_cases e2 : g t = b
      · have := q.two.all.own t ht
        rw [e2] at this ⊢
        exact hk (n t) (c t) _ (by omega) this
      · exact (q.two.all.own t ht).kept hg (.inr (by simpa [Value.ownBlock] using e2))
    · exact (q.two.all.own t ht).kept hg (.inr (by simpa [Value.ownBlock] using fun e2 : g t = b => f1 t ht e e2.symm))
  · rw [← List.replicate_succ', ← Nat.add_assoc] at *
    exact ho
  · rcases hg' with rfl | hge
    · exact ⟨f1, f2, f3, f4⟩
    · refine ⟨fun u hu _ e => ?_, fun u hu e => ?_, fun e => ?_, fun e => ?_⟩
      · have := ((q.two.all.own u hu).lt (g u) rfl).2; omega
      · have := ((q.two.own u hu).lt (h u) rfl).2; omega
      · have := World.block_lt_of_cell? wr _ (q.two.all.lst i hi); simp at this; omega
      · have := (hy.lt G rfl).2; omega

theorem Mid.done (q : Mid B L G N g c n ws i 70 b cap h cp wr) (hi : i < N) (hGL : L ≠ G) (hGg : ∀ t, t < N → G ≠ g t) :
    Two B L G N g c n ws (i + 1) (fun t => if t = i then b else h t) (fun t => if t = i then cap else cp t) (wr.setCell ⟨G, i, none⟩ (.slice (some ⟨b, 0, none⟩) (n i + 70) cap)) := by
  obtain ⟨f1, f2, f3, f4⟩ := q.free
  obtain ⟨Y, hy, hyt⟩ := q.two.grn
  have hs := hy.stored i (.slice (some ⟨b, 0, none⟩) (n i + 70) cap)
  have hyl : Y.length = N := by have := hy.1; omega
  have hBG : B ≤ G := (hy.lt G rfl).1
  refine ⟨q.two.all.grown hs.2 hGL (fun t ht e => hGg t ht e.symm), q.two.bel.setCell hBG _, ⟨_, hs.1, fun t ht => ?_⟩, fun t ht => ?_, fun t ht => ?_⟩
  · by_cases e : t = i
    · subst e; simp [hyl, hi]
    · simp only [e, if_false]
      rw [List.getElem?_set_ne (fun q => e q.symm)]
      exact hyt t (by omega)
  · by_cases e : t = i
    · subst e
      simp only [if_true]
      exact q.own.kept hs.2 (.inr (by simpa [Value.ownBlock] using f4))
    · simp only [e, if_false]
      exact (q.two.own t (by omega)).kept hs.2 (.inr (by simpa [Value.ownBlock] using (q.two.sep t (by omega)).2.2.2))
  · by_cases e : t = i
    · subst e
      simp only [if_true]
      refine ⟨f1, fun u hu hne => ?_, f3, f4⟩
      simp only [hne, if_false]
      exact f2 u (by omega)
    · simp only [e, if_false]
      obtain ⟨s1, s2, s3, s4⟩ := q.two.sep t (by omega)
      refine ⟨s1, fun u hu hne => ?_, s3, s4⟩
      by_cases eu : u = i
      · simp only [eu, if_true]; exact fun z => f2 t (by omega) z.symm
      · simp only [eu, if_false]; exact s2 u (by omega) hne

/-- the cells that the third loop reads -/
theorem Two.cells (q : Two B L G N g c n ws N h cp wr) (hi : i < N) :
    wr.cell? ⟨G, i, none⟩ = some (.slice (some ⟨h i, 0, none⟩) (n i + 70) (cp i)) ∧ wr.cell? ⟨L, i, none⟩ = some (.slice (some ⟨g i, 0, none⟩) (n i) (c i)) ∧
    (∀ j, j < n i + 70 → wr.cell? ⟨h i, j, none⟩ = some (.string (sgB i))) ∧ (∀ j, j < n i → wr.cell? ⟨g i, j, none⟩ = some (.string (sgB i))) ∧ G < wr.heap.size ∧ L < wr.heap.size ∧ h i < wr.heap.size ∧ g i < wr.heap.size ∧ n i + 70 ≤ cp i ∧ cp i ≤ maxLen ∧ n i ≤ c i ∧ c i ≤ maxLen := by
  obtain ⟨Y, hy, hyt⟩ := q.grn
  have h1 := q.own i hi
  have h2 := q.all.own i hi
  have rm : ∀ {v : Nat} {m cc : Nat} {xs : List Value}, wr.ownsRow B 9 1 (.slice (some ⟨v, 0, none⟩) m cc) m xs → m ≤ cc ∧ cc ≤ maxLen := fun {v m cc xs} hh => by
    rcases hh.2 with ⟨z, _⟩ | ⟨g1, cap1, cur, z, _, _, a1, a2, _⟩
    · simp at z
    · simp only [Value.slice.injEq, Option.some.injEq, Addr.mk.injEq, and_true, true_and] at z
      obtain ⟨_, rfl⟩ := z
      exact ⟨a1, a2⟩
  refine ⟨?_, q.all.lst i hi, fun j hj => ?_, fun j hj => ?_, (hy.lt G rfl).2, World.block_lt_of_cell? wr _ (q.all.lst i hi), (h1.lt (h i) rfl).2, (h2.lt (g i) rfl).2, (rm h1).1, (rm h1).2, (rm h2).1, (rm h2).2⟩
  · rw [hy.cellAt i (by omega)]; exact hyt i hi
  · rw [h1.cellAt j (by omega), List.getElem?_replicate, if_pos hj]; rfl
  · rw [h2.cellAt j (by omega), List.getElem?_replicate, if_pos hj]; rfl

end
end Go.Proofs.Ytiinjaiigofbjaa
