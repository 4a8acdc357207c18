/- Plain facts on valid names, members, packages and simple names; no Go text is named here. -/
import Derived.Test.YtijlipllahfakaaDoorPure
namespace Go.Proofs.YtijlipllahfakaaDoor

theorem part_all {p : List UInt8} (h : partL p = true) : ∀ c ∈ p, wordB c = true := by
  cases p with
  | nil => simp [partL] at h
  | cons c r =>
    have h2 : (c :: r).all wordB = true := by unfold partL at h; exact (Bool.and_eq_true_iff.1 h).2
    exact List.all_eq_true.1 h2

theorem part_free {p : List UInt8} (h : partL p = true) : (47 : UInt8) ∉ p := fun m => by
  have := part_all h 47 m
  revert this; decide

theorem part_ne {p : List UInt8} (h : partL p = true) : p ≠ [] := by rintro rfl; simp [partL] at h

theorem parts_one {l : List UInt8} (h : (partsL l).length = 1) : (47 : UInt8) ∉ l := by
  rcases lastL_spec l with ⟨_, h2⟩ | ⟨a, b, rfl, h2, _⟩
  · exact h2
  · rw [partsL_back a b h2] at h
    have := partsL_ne a
    have : (partsL a).length ≠ 0 := fun e => this (List.eq_nil_of_length_eq_zero e)
    simp at h
    contradiction

theorem mem_parts (l : List UInt8) : ∀ c ∈ l, c = 47 ∨ ∃ p ∈ partsL l, c ∈ p := by
  induction l with
  | nil => simp
  | cons d l ih =>
    intro c hc
    by_cases hd : d = 47
    · rcases List.mem_cons.1 hc with rfl | h
      · exact .inl hd
      · rcases ih c h with h | ⟨p, hp, hcp⟩
        · exact .inl h
        · exact .inr ⟨p, by simp [partsL, hd, hp], hcp⟩
    · have hn := partsL_ne l
      cases e : partsL l with
      | nil => contradiction
      | cons q qs =>
        have e2 : partsL (d :: l) = (d :: q) :: qs := by simp [partsL, hd, e]
        rw [e2]
        rcases List.mem_cons.1 hc with rfl | h
        · exact .inr ⟨c :: q, by simp, by simp⟩
        · rcases ih c h with h | ⟨p, hp, hcp⟩
          · exact .inl h
          · rw [e] at hp
            rcases List.mem_cons.1 hp with rfl | hp
            · exact .inr ⟨d :: p, by simp, by simp [hcp]⟩
            · exact .inr ⟨p, by simp [hp], hcp⟩

theorem valid_len {l : List UInt8} (h : validL l = true) : l.length ≤ 60 := by unfold validL at h; simp at h; exact h.1
theorem valid_parts {l : List UInt8} (h : validL l = true) : ∀ p ∈ partsL l, partL p = true := by
  unfold validL at h; exact List.all_eq_true.1 (Bool.and_eq_true_iff.1 h).2

theorem valid_bytes {l : List UInt8} (h : validL l = true) : ∀ c ∈ l, c = 47 ∨ wordB c = true := by
  intro c hc
  rcases mem_parts l c hc with h1 | ⟨p, hp, hcp⟩
  · exact .inl h1
  · exact .inr (part_all (valid_parts h p hp) c hcp)

theorem valid_free {l : List UInt8} (h : (47 : UInt8) ∉ l) : validL l = (decide (l.length ≤ 60) && partL l) := by
  unfold validL; rw [partsL_free l h]; simp

theorem valid_ne {l : List UInt8} (h : validL l = true) : 1 ≤ l.length := by
  cases l with
  | nil => revert h; decide
  | cons c r => simp

theorem valid_back {a b : List UInt8} (h : validL (a ++ 47 :: b) = true) (hb : (47 : UInt8) ∉ b) : validL a = true ∧ partL b = true ∧ a ≠ [] := by
  have hp := valid_parts h
  rw [partsL_back a b hb] at hp
  have hl := valid_len h
  have ha : validL a = true := by
    unfold validL
    rw [List.all_eq_true.2 (fun p m => hp p (List.mem_append_left _ m))]
    simp at hl
    simp; omega
  refine ⟨ha, hp b (by simp), ?_⟩
  have := valid_ne ha
  rintro rfl
  simp at this

/-- the three shapes of a text that the law parts on -/
theorem law_cases (l : List UInt8) : (l = initL) ∨ (l ≠ initL ∧ validL l = false ∧ memberL l = false) ∨
    (l ≠ initL ∧ validL l = true ∧ memberL l = true ∧ pkgL l = [] ∧ (partsL l).length = 1 ∧ memberL (simpleL l) = true) ∨
    (l ≠ initL ∧ validL l = true ∧ memberL l = false ∧ pkgL l ≠ [] ∧ validL (pkgL l) = true ∧ memberL (simpleL l) = true) := by
  by_cases hi : l = initL
  · exact .inl hi
  · right
    have hm : memberL l = (decide (l.length ≤ 60) && partL l) := by
      unfold memberL
      have : (l == initL) = false := by simpa using hi
      simp [this]
    rcases lastL_spec l with ⟨h1, h2⟩ | ⟨a, b, rfl, h2, h3⟩
    · have hv := valid_free h2
      cases hvv : validL l with
      | false => left; exact ⟨hi, rfl, by rw [hm, ← hv]; exact hvv⟩
      | true =>
        right; left
        have hp := pkgL_miss l h1
        have hmm : memberL l = true := by rw [hm, ← hv]; exact hvv
        refine ⟨hi, rfl, hmm, hp.1, by rw [partsL_free l h2]; rfl, by rw [hp.2]; exact hmm⟩
    · have hnp : partL (a ++ 47 :: b) = false := by
        cases hq : partL (a ++ 47 :: b) with
        | false => rfl
        | true => exact absurd (by simp) (part_free hq)
      have hmm : memberL (a ++ 47 :: b) = false := by rw [hm, hnp]; simp
      cases hvv : validL (a ++ 47 :: b) with
      | false => left; exact ⟨hi, rfl, hmm⟩
      | true =>
        right; right
        obtain ⟨v1, v2, v3⟩ := valid_back hvv h2
        obtain ⟨p1, p2⟩ := pkgL_hit a b h3
        have hl := valid_len hvv
        refine ⟨hi, rfl, hmm, by rw [p1]; exact v3, by rw [p1]; exact v1, ?_⟩
        rw [p2]
        unfold memberL
        simp at hl
        rw [v2]
        simp; right; omega

end Go.Proofs.YtijlipllahfakaaDoor
