/- 'No other flag than these', by a mask: f &^ mask is 0 just if f is made of the list's flags. No Go text is named here. -/
import Derived.Test.YtfbhjfpkhofifaaGreatDoorSoA
namespace Go.Proofs.YtfbhjfpkhofifaaGreatDoor
open Go

/-- every sum of some flags of the list, with the words chosen -/
def sums : List (Int × List UInt8) → List (Int × List (List UInt8))
  | [] => [(0, [])]
  | p :: ps => (sums ps).flatMap fun q => [q, (p.1 + q.1, p.2 :: q.2)]

theorem known_sums (f : Int) (ps : List (Int × List UInt8)) : (knownI f (flagsOf ps), chosenW f ps) ∈ sums ps := by
  induction ps with
  | nil => simp [sums, flagsOf, knownI, chosenW]
  | cons p ps ih =>
    unfold sums
    rw [List.mem_flatMap]
    refine ⟨_, ih, ?_⟩
    cases h : hasI f p.1 with
    | true => simp [flagsOf, knownI, chosenW, h]
    | false => simp [flagsOf, knownI, chosenW, h]

theorem sub_sums {ps : List (Int × List UInt8)} {ts : List (List UInt8)} {f : Int} (h : subW ps ts = some f) : (f, ts) ∈ sums ps := by
  induction ps generalizing ts f with
  | nil =>
    cases ts with
    | nil => simp [subW] at h; simp [sums, h]
    | cons t ts => simp [subW] at h
  | cons p ps ih =>
    unfold sums
    rw [List.mem_flatMap]
    cases ts with
    | nil =>
      have h0 : f = 0 := by simpa [subW] using h.symm
      subst h0
      have h2 : subW ps [] = some 0 := by cases ps <;> rfl
      exact ⟨_, ih h2, by simp⟩
    | cons t ts =>
      rw [subW] at h
      split at h
      · rename_i e
        cases h2 : subW ps ts with
        | none => rw [h2] at h; simp at h
        | some g =>
          rw [h2] at h
          simp at h
          exact ⟨_, ih h2, by simp [← h, e]⟩
      · exact ⟨_, ih h, by simp⟩

theorem all_cls : ∀ q ∈ sums clsP, chosenW q.1 clsP = q.2 ∧ knownI q.1 (flagsOf clsP) = q.1 := by decide
theorem all_mth : ∀ q ∈ sums mthP, chosenW q.1 mthP = q.2 ∧ knownI q.1 (flagsOf mthP) = q.1 := by decide

theorem back_cls : ∀ q ∈ sums clsP, subW clsP q.2 = some q.1 := by decide
theorem back_mth : ∀ q ∈ sums mthP, subW mthP q.2 = some q.1 := by decide

/-- a list of flags and words that serves: sums are told apart by their flags; words have bytes and no blank -/
structure Good (ps : List (Int × List UInt8)) : Prop where
  all : ∀ q ∈ sums ps, chosenW q.1 ps = q.2 ∧ knownI q.1 (flagsOf ps) = q.1
  back : ∀ q ∈ sums ps, subW ps q.2 = some q.1
  word : ∀ p ∈ ps, p.2 ≠ [] ∧ p.2.length ≤ 20 ∧ (32 : UInt8) ∉ p.2

theorem goodC : Good clsP := ⟨all_cls, back_cls, good_cls⟩
theorem goodM : Good mthP := ⟨all_mth, back_mth, good_mth⟩

theorem only_sums {f : Int} {ps : List (Int × List UInt8)} (h : onlyB f ps = true) : (f, chosenW f ps) ∈ sums ps := by
  have h1 := known_sums f ps
  have h2 : knownI f (flagsOf ps) = f := by simpa [onlyB] using h
  rw [h2] at h1
  exact h1

theorem sub_nil (ps : List (Int × List UInt8)) : subW ps [] = some 0 := by cases ps <;> rfl

/-- the words of flags are read as these flags -/
theorem read_text {f : Int} {ps : List (Int × List UInt8)} (g : Good ps) (h : onlyB f ps = true) : readF ps (textF f ps) = some f := by
  have hs := g.back _ (only_sums h)
  have ht : textF f ps = Lib.join (chosenW f ps) [32] := by rw [textF, h]; rfl
  have hw : ∀ w ∈ chosenW f ps, w ≠ [] ∧ (32 : UInt8) ∉ w := fun w hw => by
    obtain ⟨p, hp, rfl⟩ := chosen_mem hw
    exact ⟨(g.word p hp).1, (g.word p hp).2.2⟩
  by_cases hc : chosenW f ps = []
  · simp only [hc] at hs
    rw [sub_nil] at hs
    rw [ht, hc, join_nil, readF, if_pos rfl]
    exact hs
  · have hne : textF f ps ≠ [] := by rw [ht]; exact fun e => hc ((join_empty _ (fun w hx => (hw w hx).1)).1 e)
    rw [readF, if_neg hne, ht, toks_join _ hc (fun w hx => (hw w hx).2)]
    exact hs

/-- words that are taken are written again as they were -/
theorem text_read {f : Int} {ps : List (Int × List UInt8)} {s : List UInt8} (g : Good ps) (h : readF ps s = some f) : onlyB f ps = true ∧ textF f ps = s := by
  have key : ∀ ts, subW ps ts = some f → onlyB f ps = true ∧ textF f ps = Lib.join ts [32] := fun ts ht => by
    obtain ⟨k1, k2⟩ := g.all _ (sub_sums ht)
    have ho : onlyB f ps = true := by simpa [onlyB] using k2
    exact ⟨ho, by rw [textF, ho, if_pos rfl, k1]⟩
  unfold readF at h
  split at h
  · rename_i e
    simp at h
    subst h
    obtain ⟨k1, k2⟩ := key [] (sub_nil ps)
    exact ⟨k1, by rw [k2, join_nil, e]⟩
  · obtain ⟨k1, k2⟩ := key _ h
    exact ⟨k1, by rw [k2, join_toks]⟩

theorem chkM_only {f : Int} {iface ini : Bool} (h : chkM f iface ini = 0) : onlyB f mthP = true := by
  cases e : onlyB f mthP with
  | true => rfl
  | false => simp [chkM, e] at h
theorem chkC_only {f : Int} (h : chkC f = 0) : onlyB f clsP = true := by
  cases e : onlyB f clsP with
  | true => rfl
  | false => simp [chkC, e] at h



theorem wrap_zero (n : Nat) (h : n < 2 ^ 64) : (IntKind.wrap .i64 (n : Int) = 0) ↔ n = 0 := by
  simp only [IntKind.wrap, IntKind.bits, IntKind.signed]
  simp
  omega

theorem andNot_bv (f : Int) (m : Nat) : bits .andNot .i64 f (m : Int) = IntKind.wrap .i64 ((BitVec.ofInt 64 f &&& ~~~(BitVec.ofInt 64 (m : Int))).toNat : Int) := rfl

theorem bv_mask (x : BitVec 64) (m : Nat) (h : x &&& ~~~(BitVec.ofNat 64 m) = 0#64) : x.toNat &&& m = x.toNat := by
  apply Nat.eq_of_testBit_eq
  intro i
  rw [Nat.testBit_and]
  cases hx : x.toNat.testBit i with
  | false => rfl
  | true =>
    have hi : i < 64 := by
      by_cases q : i < 64
      · exact q
      · rw [Nat.testBit_lt_two_pow (Nat.lt_of_lt_of_le x.isLt (Nat.pow_le_pow_right (by omega) (by omega)))] at hx
        simp at hx
    have h2 := congrArg (fun y => BitVec.getLsbD y i) h
    simp only [BitVec.getLsbD_and, BitVec.getLsbD_not, BitVec.getLsbD_ofNat] at h2
    have h3 : x.getLsbD i = true := hx
    rw [h3] at h2
    simp [hi] at h2
    simp [h2]

theorem only_small_cls : ∀ n : Fin 2048, (n.val &&& 1585) = n.val → onlyB (n.val : Int) clsP = true := by decide +kernel
theorem only_small_mth : ∀ n : Fin 2048, (n.val &&& 1055) = n.val → onlyB (n.val : Int) mthP = true := by decide +kernel
theorem mask_sums_cls : ∀ q ∈ sums clsP, bits .andNot .i64 q.1 1585 = 0 := by decide
theorem mask_sums_mth : ∀ q ∈ sums mthP, bits .andNot .i64 q.1 1055 = 0 := by decide

theorem of_mask (f : Int) (m : Nat) (hm : m < 2048) (hf : -9223372036854775808 ≤ f ∧ f ≤ 9223372036854775807) (h : bits .andNot .i64 f (m : Int) = 0) : ∃ n : Fin 2048, f = n.val ∧ n.val &&& m = n.val := by
  rw [andNot_bv, wrap_zero _ (BitVec.isLt _)] at h
  have h0 : BitVec.ofInt 64 f &&& ~~~(BitVec.ofNat 64 m) = 0#64 := by
    apply BitVec.eq_of_toNat_eq
    rw [BitVec.ofInt_natCast] at h
    rw [h]; rfl
  have h1 := bv_mask _ m h0
  have hle : (BitVec.ofInt 64 f).toNat ≤ m := by rw [← h1]; exact Nat.and_le_right
  have hfn : f = ((BitVec.ofInt 64 f).toNat : Int) := by
    rw [BitVec.toNat_ofInt] at hle ⊢
    omega
  exact ⟨⟨(BitVec.ofInt 64 f).toNat, by omega⟩, hfn, h1⟩

theorem mask_cls (f : Int) (hf : -9223372036854775808 ≤ f ∧ f ≤ 9223372036854775807) : (bits .andNot .i64 f 1585 != 0) = !onlyB f clsP := by
  cases ho : onlyB f clsP with
  | true =>
    have := mask_sums_cls _ (only_sums ho)
    simp only at this
    rw [this]; rfl
  | false =>
    by_cases h : bits .andNot .i64 f 1585 = 0
    · obtain ⟨n, rfl, hn⟩ := of_mask f 1585 (by omega) hf h
      rw [only_small_cls n hn] at ho
      simp at ho
    · simpa using h

theorem mask_mth (f : Int) (hf : -9223372036854775808 ≤ f ∧ f ≤ 9223372036854775807) : (bits .andNot .i64 f 1055 != 0) = !onlyB f mthP := by
  cases ho : onlyB f mthP with
  | true =>
    have := mask_sums_mth _ (only_sums ho)
    simp only at this
    rw [this]; rfl
  | false =>
    by_cases h : bits .andNot .i64 f 1055 = 0
    · obtain ⟨n, rfl, hn⟩ := of_mask f 1055 (by omega) hf h
      rw [only_small_mth n hn] at ho
      simp at ho
    · simpa using h

end Go.Proofs.YtfbhjfpkhofifaaGreatDoor
