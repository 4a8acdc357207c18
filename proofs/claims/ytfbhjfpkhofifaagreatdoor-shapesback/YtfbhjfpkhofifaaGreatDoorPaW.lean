/- Plain facts on what is read: numbers, sizes; what a step of the reading leaves of them. -/
import Derived.Test.YtfbhjfpkhofifaaGreatDoorPaU
import Derived.Test.YtfbhjfpkhofifaaGreatDoorOwnU
import Derived.Test.YtfbhjfpkhofifaaGreatDoorArgC
namespace Go.Proofs.YtfbhjfpkhofifaaGreatDoor
open Go.RowKit

theorem num9_le {l : List UInt8} (h : num9 l = true) : 0 ≤ (numR l).1 ∧ (numR l).1 ≤ 999999999 := by
  simp only [num9, Bool.and_eq_true, decide_eq_true_eq] at h
  obtain ⟨⟨_, h2⟩, h3⟩ := h
  refine ⟨h2, ?_⟩
  unfold numR at h2 ⊢
  split
  · rename_i hb
    simp only [numB, Bool.and_eq_true] at hb
    have h4 := digV_lt _ hb.2
    have h5 : (l.drop (minB l)).length ≤ 9 := by rw [List.length_drop]; omega
    have h6 : (10 : Nat) ^ (l.drop (minB l)).length ≤ 10 ^ 9 := Nat.pow_le_pow_right (by omega) h5
    unfold numN
    split
    · omega
    · rename_i hm
      have : minB l = 0 := by unfold minB at hm ⊢; split at hm <;> simp_all
      rw [this, List.drop_zero] at h4 h6
      have h7 : (10 : Nat) ^ 9 = 1000000000 := by decide
      simp only
      omega
  · simp
theorem itoa_lt {n : Int} (h0 : 0 ≤ n) (h : (Lib.itoa n).length ≤ 9) : n ≤ 999999999 := by
  have e : Lib.itoa n = Lib.decDigits n.toNat := by rw [Lib.itoa, if_neg (by omega)]
  obtain ⟨a, b⟩ := dec_digits n.toNat
  have h4 := digV_lt _ a
  rw [e] at h
  rw [b] at h4
  have h6 : (10 : Nat) ^ (Lib.decDigits n.toNat).length ≤ 10 ^ 9 := Nat.pow_le_pow_right (by omega) h
  have h7 : (10 : Nat) ^ 9 = 1000000000 := by decide
  omega
/-- what the package asks of a number's text -/
def pkgN (l : List UInt8) : Bool := !(decide (rdN l < 0)) && !(decide (9 < (l.length : Int))) && (Lib.itoa (rdN l) == l)
theorem rd_num9 (l : List UInt8) : num9 l = pkgN l ∧ (num9 l = true → (numR l).1 = rdN l) := by
  have k : num9 l = true → (numR l).1 = rdN l := fun h => by
    obtain ⟨h1, h2⟩ := num9_le h
    have h3 := num_form h
    have := rdN_itoa (numR l).1 (by omega) (by omega)
    rw [h3] at this
    exact this.symm
  refine ⟨?_, k⟩
  rw [Bool.eq_iff_iff]
  constructor
  · intro h
    have h1 := num9_le h
    have h3 := num_form h
    rw [k h] at h1 h3
    simp only [num9, Bool.and_eq_true, decide_eq_true_eq] at h
    simp only [pkgN, Bool.and_eq_true, Bool.not_eq_true', decide_eq_false_iff_not, beq_iff_eq]
    exact ⟨⟨by omega, by omega⟩, h3⟩
  · intro h
    simp only [pkgN, Bool.and_eq_true, Bool.not_eq_true', decide_eq_false_iff_not, beq_iff_eq] at h
    obtain ⟨⟨h1, h2⟩, h3⟩ := h
    have h4 : rdN l ≤ 999999999 := itoa_lt (by omega) (by rw [h3]; omega)
    have h5 := num_itoa (rdN l) (by omega) (by omega)
    rw [h3] at h5
    simp only [num9, h5, Bool.and_eq_true, decide_eq_true_eq]
    exact ⟨⟨trivial, by omega⟩, by omega⟩
/-- no text that strconv.Atoi refuses is a number's -/
theorem rd_zero {l : List UInt8} (h : ∀ v, Lib.atoiAll l ≠ .ok v) : pkgN l = false := by
  have e : rdN l = 0 := by
    unfold rdN
    cases ha : Lib.atoiAll l with
    | ok v => exact absurd ha (h v)
    | «syntax» => rfl
    | range => rfl
  have h1 : (Lib.itoa 0 == l) = false := by
    rw [beq_eq_false_iff_ne]
    intro h2
    rw [← h2] at h
    exact h 0 (by decide +kernel)
  rw [pkgN, e, h1, Bool.and_false]

theorem rest_len (l : List UInt8) : (restW l).length ≤ l.length ∧ (fstW l).length ≤ l.length := by
  have := congrArg List.length (fst_rest l)
  rw [List.length_append] at this
  omega
theorem rnS_len (l w : List UInt8) : (rnS l w).length ≤ l.length := by
  unfold rnS
  split
  · have := (rest_len l).1
    rw [List.length_drop]; omega
  · simp
theorem ml_len (l : List UInt8) : (mlN l).length ≤ l.length ∧ (mlD l).length ≤ l.length ∧ (mlF l).length ≤ l.length := by
  have h1 := (rest_len l).1
  have h2 := rest_len ((restW l).drop 1)
  have h3 := rest_len ((mlR l).drop 1)
  rw [List.length_drop] at h2 h3
  have h4 : (mlR l).length ≤ l.length := by unfold mlR; omega
  refine ⟨by unfold mlN; omega, by unfold mlD; omega, by unfold mlF; omega⟩
theorem only_range {f : Int} {ps : List (Int × List UInt8)} (hb : ∀ x ∈ flagsOf ps, 0 ≤ x ∧ x ≤ 2048) (hl : ps.length ≤ 100) (h : onlyB f ps = true) : -9223372036854775808 ≤ f ∧ f ≤ 9223372036854775807 := by
  unfold onlyB at h
  have e := of_decide_eq_true h
  have := known_bounds f (flagsOf ps) hb
  rw [e] at this
  simp only [flagsOf, List.length_map] at this
  omega
theorem parF_range {s : List UInt8} {ps : List (Int × List UInt8)} (g : Good ps) (hb : ∀ x ∈ flagsOf ps, 0 ≤ x ∧ x ≤ 2048) (hl : ps.length ≤ 100) : -9223372036854775808 ≤ parF ps s ∧ parF ps s ≤ 9223372036854775807 := by
  cases hr : readF ps s with
  | none => rw [parF, hr]; simp
  | some f =>
    obtain ⟨h1, h2⟩ := text_read g hr
    have e : parF ps s = f := by rw [parF, hr]; rfl
    rw [e]
    exact only_range hb hl h1
theorem fgN_range {s : List UInt8} {ps : List (Int × List UInt8)} (g : Good ps) (hb : ∀ x ∈ flagsOf ps, 0 ≤ x ∧ x ≤ 2048) (hl : ps.length ≤ 100) : -9223372036854775808 ≤ fgN ps s ∧ fgN ps s ≤ 9223372036854775807 := by
  unfold fgN
  split
  · omega
  · exact parF_range g hb hl
theorem doc_w {l : List UInt8} {i : Ins} (h : docP l = some i) (hl : l.length ≤ 40000) : InsW i := by
  rw [← own_doc] at h
  have e : i = ownR l := by
    unfold ownP at h
    split at h
    · exact (Option.some.inj h).symm
    · cases h
  have h2 := rdI_ok ((opOf (cutA l) : Nat) : Int) ⟨(cutB l).toArray⟩ (by have := cutB_len l; rw [mk_size]; unfold maxLen; omega)
  rw [e]
  exact h2

/-- how great what was read is; a method is there where one is being read -/
structure Fit (st : Nat) (c : Cls) (K : Nat) : Prop where
  ifs : c.ifs.length ≤ K
  ms : c.ms.length ≤ K
  code : ∀ m ∈ c.ms, m.code.length ≤ K
  st : 5 ≤ st → st ≤ 7 → c.ms ≠ []
  w : ClsW c
theorem Fit.zero (K : Nat) : Fit 0 zeroC K := ⟨Nat.zero_le _, Nat.zero_le _, fun m hm => (by cases hm), fun h => absurd h (by omega), by decide, by decide, fun p hp => (by cases hp), by decide, by decide, fun m hm => (by cases hm)⟩
theorem last_mem {f : Mth → Mth} {l : List Mth} {x : Mth} (h : x ∈ lastM f l) : x ∈ l ∨ ∃ y ∈ l, x = f y := by
  induction l with
  | nil => cases h
  | cons m r ih =>
    cases r with
    | nil => simp [lastM] at h; exact .inr ⟨m, by simp, h⟩
    | cons y r =>
      rw [lastM] at h
      · rcases List.mem_cons.1 h with e | h
        · exact .inl (by simp [e])
        · rcases ih h with h | ⟨y, h1, h2⟩
          · exact .inl (List.mem_cons_of_mem _ h)
          · exact .inr ⟨y, List.mem_cons_of_mem _ h1, h2⟩
      · simp
theorem last_len (f : Mth → Mth) (l : List Mth) : (lastM f l).length = l.length := by
  induction l with
  | nil => rfl
  | cons m r ih =>
    cases r with
    | nil => rfl
    | cons y r => rw [lastM]; · simp [ih]
                  · simp
theorem Fit.lastm {st st' : Nat} {c : Cls} {K : Nat} (h : Fit st c K) (f : Mth → Mth) (h5 : 5 ≤ st) (h7 : st ≤ 7) (hc : ∀ m ∈ c.ms, (f m).code.length ≤ K + 1) (hw : ∀ m, MthW m → MthW (f m)) : Fit st' { c with ms := lastM f c.ms } (K + 1) where
  ifs := by have := h.ifs; simp only; omega
  ms := by have := h.ms; simp only [last_len]; omega
  code := fun m hm => by
    rcases last_mem hm with h1 | ⟨y, h1, rfl⟩
    · have := h.code m h1; omega
    · exact hc y h1
  st := fun _ _ e => by
    have h1 := congrArg List.length e
    simp only [last_len, List.length_nil] at h1
    exact h.st h5 h7 (List.length_eq_zero_iff.1 h1)
  w := by
    obtain ⟨w1, w2, w3, w4, w5, w6⟩ := h.w
    refine ⟨w1, w2, w3, w4, w5, fun m hm => ?_⟩
    rcases last_mem hm with h1 | ⟨y, h1, rfl⟩
    · exact w6 m h1
    · exact hw y (w6 y h1)
theorem stepM_fit {st st' : Nat} {c c' : Cls} {l : List UInt8} {K : Nat} (h : Fit st c K) (hl : l.length ≤ 40000) (hs : stepM c l = some (st', c')) : Fit st' c' (K + 1) := by
  unfold stepM at hs
  obtain ⟨w1, w2, w3, w4, w5, w6⟩ := h.w
  have := h.ifs
  have := h.ms
  split at hs
  · cases hs
    exact ⟨by omega, by omega, fun m hm => (by have := h.code m hm; omega), fun _ h => absurd h (by omega), h.w⟩
  · split at hs
    · cases hs
      have hm := ml_len l
      refine ⟨by simp only; omega, by simp; omega, fun m hm => ?_, fun _ _ e => by simp at e, w1, w2, w3, w4, w5, fun m hm => ?_⟩
      · rcases List.mem_append.1 hm with h1 | h1
        · have := h.code m h1; omega
        · simp at h1; subst h1; simp
      · rcases List.mem_append.1 hm with h1 | h1
        · exact w6 m h1
        · simp at h1
          subst h1
          refine ⟨by rw [mk_size]; unfold maxLen; omega, by rw [mk_size]; unfold maxLen; omega, fgN_range goodM small_mth (by decide), by simp only; omega, by simp only; omega, fun i hi => by cases hi⟩
    · cases hs
theorem step_fit {st st' : Nat} {c c' : Cls} {l : List UInt8} {K : Nat} (h : Fit st c K) (hl : l.length ≤ 40000) (hs : stepC st c l = some (st', c')) : Fit st' c' (K + 1) := by
  obtain ⟨w1, w2, w3, w4, w5, w6⟩ := h.w
  have i1 := h.ifs
  have i2 := h.ms
  have i3 : ∀ m ∈ c.ms, m.code.length ≤ K + 1 := fun m hm => by have := h.code m hm; omega
  unfold stepC at hs
  split at hs
  · split at hs
    · cases hs
      exact ⟨by simp only; omega, by simp only; omega, i3, fun h => absurd h (by omega), by have := rnS_len l wClass; rw [mk_size]; unfold maxLen; omega, w2, w3, w4, w5, w6⟩
    · cases hs
  split at hs
  · split at hs
    · cases hs
      exact ⟨by simp only; omega, by simp only; omega, i3, fun h => absurd h (by omega), w1, by have := rnS_len l wSup; rw [mk_size]; unfold maxLen; omega, w3, w4, w5, w6⟩
    · cases hs
  split at hs
  · split at hs
    · cases hs
      refine ⟨by simp; omega, by simp only; omega, i3, fun h => absurd h (by omega), w1, w2, fun p hp => ?_, w4, w5, w6⟩
      rcases List.mem_append.1 hp with h1 | h1
      · exact w3 p h1
      · simp at h1; subst h1; have := rnS_len l wIface; unfold maxLen; omega
    · split at hs
      · cases hs
        exact ⟨by simp only; omega, by simp only; omega, i3, fun h => absurd h (by omega), w1, w2, w3, fgN_range goodC small_cls (by decide), w5, w6⟩
      · cases hs
  split at hs
  · split at hs
    · rename_i e
      cases hs
      simp only [Bool.and_eq_true] at e
      have := num9_le e.2
      exact ⟨by simp only; omega, by simp only; omega, i3, fun h => absurd h (by omega), w1, w2, w3, w4, by simp only; omega, w6⟩
    · cases hs
  split at hs
  · exact stepM_fit h hl hs
  split at hs
  · rename_i e5
    split at hs
    · rename_i e
      cases hs
      simp only [Bool.and_eq_true] at e
      have := num9_le e.2
      exact h.lastm _ (by omega) (by omega) (fun m hm => i3 m hm) (fun m hm => ⟨hm.1, hm.2.1, hm.2.2.1, by simp only; omega, hm.2.2.2.2⟩)
    · cases hs
  split at hs
  · split at hs
    · rename_i e
      cases hs
      simp only [Bool.and_eq_true] at e
      have := num9_le e.2
      exact h.lastm _ (by omega) (by omega) (fun m hm => i3 m hm) (fun m hm => ⟨hm.1, hm.2.1, hm.2.2.1, hm.2.2.2.1, by simp only; omega, hm.2.2.2.2.2⟩)
    · cases hs
  split at hs
  · split at hs
    · rename_i i hi
      cases hs
      have hw := doc_w hi hl
      refine h.lastm _ (by omega) (by omega) (fun m hm => by have := h.code m hm; simp; omega) (fun m hm => ⟨hm.1, hm.2.1, hm.2.2.1, hm.2.2.2.1, hm.2.2.2.2.1, fun j hj => ?_⟩)
      rcases List.mem_append.1 hj with h1 | h1
      · exact hm.2.2.2.2.2 j h1
      · simp at h1; subst h1; exact hw
    · exact stepM_fit h hl hs
  · cases hs
end Go.Proofs.YtfbhjfpkhofifaaGreatDoor
