/- Plain facts on parts and their joining; no Go text is named here. -/
import Derived.Test.YtijlipllahfakaaDoorFacts
import Derived.Lib.Join
namespace Go.Proofs.YtijlipllahfakaaDoor

theorem tail_snoc (r : List (List UInt8)) (p : List UInt8) : Lib.joinTail [47] (r ++ [p]) = Lib.joinTail [47] r ++ 47 :: p := by
  simp [Lib.joinTail]

theorem join_snoc (ps : List (List UInt8)) (p : List UInt8) (h : ps ≠ []) : Lib.join (ps ++ [p]) [47] = Lib.join ps [47] ++ 47 :: p := by
  cases ps with
  | nil => contradiction
  | cons x r => rw [List.cons_append, Lib.join_cons, Lib.join_cons, tail_snoc]; simp

theorem join_head (x : List UInt8) (r : List (List UInt8)) (h : r ≠ []) : Lib.join (x :: r) [47] = x ++ 47 :: Lib.join r [47] := by
  cases r with
  | nil => contradiction
  | cons y r => rw [Lib.join_cons, Lib.join_cons]; simp [Lib.joinTail]

theorem join_parts (l : List UInt8) : Lib.join (partsL l) [47] = l := by
  induction l with
  | nil => rfl
  | cons c l ih =>
    have hn := partsL_ne l
    by_cases hc : c = 47
    · simp only [partsL, hc, if_true]
      rw [join_head _ _ hn, ih]; rfl
    · simp only [partsL, hc, if_false]
      cases e : partsL l with
      | nil => contradiction
      | cons p ps =>
        rw [e] at ih
        simp only
        rw [Lib.join_cons] at ih ⊢
        rw [List.cons_append, ih]

theorem join_length_eq (ps : List (List UInt8)) (h : ps ≠ []) : (Lib.join ps [47]).length = ps.length - 1 + Lib.lens ps := by
  cases ps with
  | nil => contradiction
  | cons x r => rw [Lib.join_length]; simp

theorem parts_len (l : List UInt8) : (partsL l).length - 1 + Lib.lens (partsL l) = l.length := by
  rw [← join_length_eq _ (partsL_ne l), join_parts]

theorem lens_take (ps : List (List UInt8)) (k : Nat) : Lib.lens (ps.take k) ≤ Lib.lens ps := by
  have h : Lib.lens (ps.take k ++ ps.drop k) = Lib.lens (ps.take k) + Lib.lens (ps.drop k) := by unfold Lib.lens; rw [List.map_append, List.sum_append]
  rw [List.take_append_drop] at h
  omega

theorem join_take_le (l : List UInt8) (k : Nat) : (Lib.join ((partsL l).take k) [47]).length ≤ l.length := by
  by_cases h : (partsL l).take k = []
  · rw [h]; simp [Lib.join_nil]
  · rw [join_length_eq _ h]
    have h1 := lens_take (partsL l) k
    have h2 := parts_len l
    have h3 : ((partsL l).take k).length ≤ (partsL l).length := by rw [List.length_take]; omega
    omega

theorem join_take_succ (ps : List (List UInt8)) (k : Nat) (p : List UInt8) (hk : 1 ≤ k) (h : ps[k]? = some p) : Lib.join (ps.take (k + 1)) [47] = Lib.join (ps.take k) [47] ++ 47 :: p := by
  obtain ⟨hlt, rfl⟩ := List.getElem?_eq_some_iff.1 h
  rw [List.take_succ_eq_append_getElem hlt, join_snoc]
  intro e
  have h2 : (ps.take k).length = 0 := by rw [e]; rfl
  rw [List.length_take] at h2
  omega

theorem join_take_one (ps : List (List UInt8)) (p : List UInt8) (h : ps[0]? = some p) : Lib.join (ps.take 1) [47] = p := by
  cases ps with
  | nil => simp at h
  | cons x r => simp at h; subst h; simp [Lib.join_one]

/-- the two shapes of a text -/
theorem cut_cases (l : List UInt8) : (partsL l = [l] ∧ pkgL l = [] ∧ simpleL l = l) ∨
    (1 < (partsL l).length ∧ (partsL l)[(partsL l).length - 1]? = some (simpleL l) ∧ pkgL l ++ 47 :: simpleL l = l) := by
  rcases lastL_spec l with ⟨h1, h2⟩ | ⟨a, b, rfl, h2, h3⟩
  · exact .inl ⟨partsL_free l h2, pkgL_miss l h1⟩
  · right
    obtain ⟨p1, p2⟩ := pkgL_hit a b h3
    rw [p1, p2, partsL_back a b h2]
    have := partsL_ne a
    have : (partsL a).length ≠ 0 := fun e => this (List.eq_nil_of_length_eq_zero e)
    refine ⟨by simp; omega, by simp, rfl⟩

end Go.Proofs.YtijlipllahfakaaDoor
