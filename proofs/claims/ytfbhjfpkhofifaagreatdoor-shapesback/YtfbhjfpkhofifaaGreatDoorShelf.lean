/- Nothing is laid here. -/
import Derived.Test.YtfbhjfpkhofifaaGreatDoorPure
import Derived.Test.YtfbhjfpkhofifaaGreatDoorProg
namespace Go.Proofs.YtfbhjfpkhofifaaGreatDoor

theorem part_all {p : List UInt8} (h : partL p = true) : ∀ c ∈ p, wordB c = true := by
  cases p with
  | nil => simp [partL] at h
  | cons c r =>
    have h2 : (c :: r).all wordB = true := by unfold partL at h; exact (Bool.and_eq_true_iff.1 h).2
    exact List.all_eq_true.1 h2

theorem mem_parts (l : List UInt8) : ∀ c ∈ l, c = 47 ∨ ∃ p ∈ partsL l, c ∈ p := by
  induction l with
  | nil => simp
  | cons d l ih =>
    intro c hc
    by_cases hd : d = 47
    · rcases List.mem_cons.1 hc with rfl | h
      · exact .inl hd
      · rcases ih c h with h | ⟨p, hp, hcp⟩
        · exact .inl h
        · exact .inr ⟨p, by simp [partsL, hd, hp], hcp⟩
    · have hn := partsL_ne l
      cases e : partsL l with
      | nil => contradiction
      | cons q qs =>
        have e2 : partsL (d :: l) = (d :: q) :: qs := by simp [partsL, hd, e]
        rw [e2]
        rcases List.mem_cons.1 hc with rfl | h
        · exact .inr ⟨c :: q, by simp, by simp⟩
        · rcases ih c h with h | ⟨p, hp, hcp⟩
          · exact .inl h
          · rw [e] at hp
            rcases List.mem_cons.1 hp with rfl | hp
            · exact .inr ⟨d :: p, by simp, by simp [hcp]⟩
            · exact .inr ⟨p, by simp [hp], hcp⟩

theorem valid_parts {l : List UInt8} (h : validL l = true) : ∀ p ∈ partsL l, partL p = true := by
  unfold validL at h; exact List.all_eq_true.1 (Bool.and_eq_true_iff.1 h).2

theorem valid_bytes {l : List UInt8} (h : validL l = true) : ∀ c ∈ l, c = 47 ∨ wordB c = true := by
  intro c hc
  rcases mem_parts l c hc with h1 | ⟨p, hp, hcp⟩
  · exact .inl h1
  · exact .inr (part_all (valid_parts h p hp) c hcp)


end Go.Proofs.YtfbhjfpkhofifaaGreatDoor
