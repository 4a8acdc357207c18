/- The document's way of reading words is the plain one: words taken in the list's order. No Go text is named here. -/
import Derived.Test.YtfbhjfpkhofifaaGreatDoorFlagsPure
namespace Go.Proofs.YtfbhjfpkhofifaaGreatDoor
open Go

/-- the word w stands at the beginning of l, and ends there -/
def standsB (l w : List UInt8) : Prop := w.length ≤ l.length ∧ l.take w.length = w ∧ (w.length = l.length ∨ l[w.length]? = some 32)

theorem stands_iff {l w : List UInt8} (h : (32 : UInt8) ∉ w) : standsB l w ↔ (l = w ∧ toks l = [w]) ∨ ∃ r, l = w ++ 32 :: r ∧ toks l = w :: toks r := by
  constructor
  · rintro ⟨h1, h2, h3⟩
    have e : l = w ++ l.drop w.length := by
      conv => lhs; rw [← List.take_append_drop w.length l, h2]
    rcases h3 with h3 | h3
    · have : l.drop w.length = [] := List.drop_of_length_le (by omega)
      rw [this, List.append_nil] at e
      exact .inl ⟨e, by rw [e]; exact toks_one w h⟩
    · have hlt : w.length < l.length := (List.getElem?_eq_some_iff.1 h3).1
      rw [List.drop_eq_getElem_cons hlt] at e
      rw [List.getElem?_eq_getElem hlt] at h3
      rw [Option.some.inj h3] at e
      refine .inr ⟨_, e, ?_⟩
      conv => lhs; rw [e]
      exact toks_app w _ h
  · rintro (⟨rfl, _⟩ | ⟨r, rfl, _⟩)
    · exact ⟨Nat.le_refl _, by simp, .inl rfl⟩
    · exact ⟨by simp, by simp, .inr (by simp)⟩

theorem toks_head {l t : List UInt8} {ts : List (List UInt8)} (h : toks l = t :: ts) : (32 : UInt8) ∉ t ∧ ((l = t ∧ ts = []) ∨ ∃ r, l = t ++ 32 :: r ∧ ts = toks r) := by
  obtain ⟨w, hw, ⟨rfl, h2⟩ | ⟨r, rfl, h2⟩⟩ := toks_cons l
  · rw [h2] at h
    simp at h
    obtain ⟨rfl, rfl⟩ := h
    exact ⟨hw, .inl ⟨rfl, rfl⟩⟩
  · rw [h2] at h
    simp at h
    obtain ⟨rfl, rfl⟩ := h
    exact ⟨hw, .inr ⟨r, rfl, rfl⟩⟩

theorem stands_head {l w t : List UInt8} {ts : List (List UInt8)} (hw : (32 : UInt8) ∉ w) (h : toks l = t :: ts) : standsB l w ↔ w = t := by
  rw [stands_iff hw]
  constructor
  · rintro (⟨_, h2⟩ | ⟨r, _, h2⟩)
    · rw [h] at h2; simp at h2; exact h2.1.symm
    · rw [h] at h2; simp at h2; exact h2.1.symm
  · rintro rfl
    obtain ⟨_, ⟨h2, h3⟩ | ⟨r, h2, h3⟩⟩ := toks_head h
    · exact .inl ⟨h2, by rw [h, h3]⟩
    · exact .inr ⟨r, h2, by rw [h, h3]⟩

/-- the tokens that are left at a place -/
def tokAt (s : List UInt8) (a : Nat) : List (List UInt8) := if a = s.length then [] else if a = 0 then toks s else toks (s.drop (a + 1))
def okAt (s : List UInt8) (a : Nat) : Prop := a ≤ s.length ∧ (0 < a → a = s.length ∨ s[a]? = some 32)

/-- one step, in plain words -/
theorem step_iff {s : List UInt8} {a : Nat} {f : Int} {p : Int × List UInt8} {t : List UInt8} {ts : List (List UInt8)} (ha : okAt s a) (hp : p.2 ≠ [] ∧ (32 : UInt8) ∉ p.2) (h : tokAt s a = t :: ts) :
    (p.2 = t → ∃ a', parStep s (f, a) p = (f + p.1, a') ∧ okAt s a' ∧ 0 < a' ∧ tokAt s a' = ts) ∧ (p.2 ≠ t → parStep s (f, a) p = (f, a)) := by
  have hpl : 0 < p.2.length := List.length_pos_iff.2 hp.1
  have hne : a ≠ s.length := by intro e; simp [tokAt, e] at h
  by_cases h0 : a = 0
  · subst h0
    have htk : toks s = t :: ts := by simpa [tokAt, hne] using h
    have hs := stands_head hp.2 htk
    have e1 : (standsB s p.2 → parStep s (f, 0) p = (f + p.1, p.2.length)) ∧ (¬ standsB s p.2 → parStep s (f, 0) p = (f, 0)) := by
      unfold parStep standsB
      simp only [Nat.lt_irrefl, if_false, Nat.zero_add, List.drop_zero]
      exact ⟨fun h => if_pos h, fun h => if_neg h⟩
    constructor
    · intro e
      have hst := hs.2 e
      refine ⟨p.2.length, e1.1 hst, ⟨hst.1, fun _ => hst.2.2⟩, hpl, ?_⟩
      subst e
      obtain ⟨_, ⟨h2, h3⟩ | ⟨r, h2, h3⟩⟩ := toks_head htk
      · rw [h3, tokAt, if_pos (by rw [← h2])]
      · have : p.2.length ≠ s.length := by
          have := congrArg List.length h2
          simp at this
          omega
        rw [tokAt, if_neg this, if_neg (by omega), h3]
        conv => lhs; rw [h2]
        rw [show p.2.length + 1 = (p.2 ++ [32]).length by simp, show p.2 ++ 32 :: r = (p.2 ++ [32]) ++ r by simp, List.drop_left]
    · intro e
      exact e1.2 (fun q => e (hs.1 q))
  · have hapos : 0 < a := by omega
    have hlt : a < s.length := by have := ha.1; omega
    have h32 : s[a]? = some 32 := by
      rcases ha.2 hapos with q | q
      · exact absurd q hne
      · exact q
    have hd : s.drop a = 32 :: s.drop (a + 1) := by
      rw [List.drop_eq_getElem_cons hlt]
      rw [List.getElem?_eq_getElem hlt] at h32
      rw [Option.some.inj h32]
    have htk : toks (s.drop (a + 1)) = t :: ts := by simpa [tokAt, hne, h0] using h
    have hs := stands_head hp.2 htk
    have e1 : (standsB (s.drop (a + 1)) p.2 → parStep s (f, a) p = (f + p.1, a + (p.2.length + 1))) ∧ (¬ standsB (s.drop (a + 1)) p.2 → parStep s (f, a) p = (f, a)) := by
      unfold parStep standsB
      simp only [hapos, if_true, List.length_cons]
      rw [hd]
      have c1 : (a + (p.2.length + 1) ≤ s.length) ↔ p.2.length ≤ (s.drop (a + 1)).length := by rw [List.length_drop]; omega
      have c2 : (List.take (p.2.length + 1) (32 :: s.drop (a + 1)) = 32 :: p.2) ↔ (s.drop (a + 1)).take p.2.length = p.2 := by simp
      have c3 : (a + (p.2.length + 1) = s.length) ↔ p.2.length = (s.drop (a + 1)).length := by rw [List.length_drop]; omega
      have c4 : s[a + (p.2.length + 1)]? = (s.drop (a + 1))[p.2.length]? := by rw [List.getElem?_drop]; congr 1; omega
      rw [c4]
      simp only [c1, c2, c3]
      exact ⟨fun h => if_pos h, fun h => if_neg h⟩
    constructor
    · intro e
      have hst := hs.2 e
      refine ⟨a + (p.2.length + 1), e1.1 hst, ?_, by omega, ?_⟩
      · refine ⟨?_, fun _ => ?_⟩
        · have := hst.1; rw [List.length_drop] at this; omega
        · rcases hst.2.2 with q | q
          · left; rw [List.length_drop] at q; omega
          · right; rw [List.getElem?_drop] at q; rw [show a + (p.2.length + 1) = a + 1 + p.2.length by omega]; exact q
      · subst e
        obtain ⟨_, ⟨h2, h3⟩ | ⟨r, h2, h3⟩⟩ := toks_head htk
        · have : a + (p.2.length + 1) = s.length := by
            have := congrArg List.length h2
            rw [List.length_drop] at this
            omega
          rw [h3, tokAt, if_pos this]
        · have hl := congrArg List.length h2
          rw [List.length_drop] at hl
          simp at hl
          rw [tokAt, if_neg (by omega), if_neg (by omega), h3]
          rw [show a + (p.2.length + 1) + 1 = (a + 1) + (p.2 ++ [(32 : UInt8)]).length by simp; omega, ← List.drop_drop, h2, show p.2 ++ 32 :: r = (p.2 ++ [32]) ++ r by simp, List.drop_left]
    · intro e
      exact e1.2 (fun q => e (hs.1 q))

theorem step_end {s : List UInt8} {f : Int} {p : Int × List UInt8} (hp : p.2 ≠ []) : parStep s (f, s.length) p = (f, s.length) := by
  have hpl : 0 < p.2.length := List.length_pos_iff.2 hp
  unfold parStep
  rw [if_neg]
  rintro ⟨h1, _⟩
  simp only at h1
  split at h1
  · simp at h1; omega
  · omega

theorem run_spec (s : List UInt8) (ps : List (Int × List UInt8)) (hw : ∀ p ∈ ps, p.2 ≠ [] ∧ (32 : UInt8) ∉ p.2) (f : Int) (a : Nat) (ha : okAt s a) :
    ((parRun s ps (f, a)).2 = s.length ∧ subW ps (tokAt s a) = some ((parRun s ps (f, a)).1 - f)) ∨ ((parRun s ps (f, a)).2 ≠ s.length ∧ subW ps (tokAt s a) = none) := by
  induction ps generalizing f a with
  | nil =>
    by_cases h : a = s.length
    · left
      refine ⟨h, ?_⟩
      rw [tokAt, if_pos h]
      show some (0 : Int) = some (f - f)
      congr 1; omega
    · right
      refine ⟨h, ?_⟩
      rw [tokAt, if_neg h]
      split
      · cases e : toks s with
        | nil => exact absurd e (toks_ne s)
        | cons => rfl
      · cases e : toks (s.drop (a + 1)) with
        | nil => exact absurd e (toks_ne _)
        | cons => rfl
  | cons p ps ih =>
    have hp := hw p (List.mem_cons_self ..)
    have hps := fun q hq => hw q (List.mem_cons_of_mem _ hq)
    have er : parRun s (p :: ps) (f, a) = parRun s ps (parStep s (f, a) p) := rfl
    rw [er]
    cases ht : tokAt s a with
    | nil =>
      have hal : a = s.length := by
        by_cases h : a = s.length
        · exact h
        · rw [tokAt, if_neg h] at ht
          split at ht
          · exact absurd ht (toks_ne _)
          · exact absurd ht (toks_ne _)
      subst hal
      rw [step_end hp.1]
      have := ih hps f s.length ha
      rw [ht] at this
      rcases this with ⟨h1, h2⟩ | ⟨h1, h2⟩
      · exact .inl ⟨h1, by rw [← h2]; cases ps <;> rfl⟩
      · exfalso
        revert h2
        cases ps <;> simp [subW]
    | cons t ts =>
      obtain ⟨s1, s2⟩ := step_iff (f := f) ha hp ht
      by_cases e : p.2 = t
      · obtain ⟨a', e1, e2, _, e3⟩ := s1 e
        rw [e1]
        rcases ih hps (f + p.1) a' e2 with ⟨h1, h2⟩ | ⟨h1, h2⟩
        · refine .inl ⟨h1, ?_⟩
          rw [e3] at h2
          rw [subW, if_pos e, h2]
          simp only [Option.map_some]
          congr 1; omega
        · refine .inr ⟨h1, ?_⟩
          rw [e3] at h2
          rw [subW, if_pos e, h2]; rfl
      · rw [s2 e]
        have := ih hps f a ha
        rw [ht] at this
        rw [subW, if_neg e]
        exact this

/-- what the document's parse answers is what the words say -/
theorem run_read (s : List UInt8) (ps : List (Int × List UInt8)) (hw : ∀ p ∈ ps, p.2 ≠ [] ∧ (32 : UInt8) ∉ p.2) :
    ((parRun s ps (0, 0)).2 = s.length ∧ readF ps s = some (parRun s ps (0, 0)).1) ∨ ((parRun s ps (0, 0)).2 ≠ s.length ∧ readF ps s = none) := by
  have h := run_spec s ps hw 0 0 ⟨Nat.zero_le _, fun h => absurd h (by omega)⟩
  have ht : subW ps (tokAt s 0) = readF ps s := by
    unfold readF tokAt
    by_cases e : s = []
    · subst e
      simp
      cases ps <;> rfl
    · have : (0 : Nat) ≠ s.length := by have := List.length_pos_iff.2 e; omega
      rw [if_neg this, if_pos rfl, if_neg e]
  rw [ht] at h
  rcases h with ⟨h1, h2⟩ | ⟨h1, h2⟩
  · exact .inl ⟨h1, by rw [h2]; congr 1; omega⟩
  · exact .inr ⟨h1, h2⟩

end Go.Proofs.YtfbhjfpkhofifaaGreatDoor
