/- Plain facts: lists held against each other element by element are in an order if the elements are; no Go text is named here. -/
import Derived.Test.YtijlipllahfakaaDoorFacts2
import GoSem.Op.String
namespace Go.Proofs.YtijlipllahfakaaDoor

/-- a comparison that is an order -/
structure IsCmp {α : Type} (c : α → α → Int) : Prop where
  anti : ∀ a b, c a b = - c b a
  zero : ∀ a b, c a b = 0 ↔ a = b
  trans : ∀ a b d, c a b ≤ 0 → c b d ≤ 0 → c a d ≤ 0
  lo : ∀ a b, -1 ≤ c a b
  hi : ∀ a b, c a b ≤ 1

/-- element by element, a beginning first -/
def lexC {α : Type} (c : α → α → Int) : List α → List α → Int
  | [], [] => 0
  | [], _ :: _ => -1
  | _ :: _, [] => 1
  | x :: xs, y :: ys => if c x y = 0 then lexC c xs ys else c x y

theorem lexC_isCmp {α : Type} {c : α → α → Int} (h : IsCmp c) : IsCmp (lexC c) where
  anti := by
    intro a
    induction a with
    | nil => intro b; cases b <;> simp [lexC]
    | cons x xs ih =>
      intro b
      cases b with
      | nil => simp [lexC]
      | cons y ys =>
        simp only [lexC]
        have := h.anti x y
        by_cases e : c x y = 0
        · rw [if_pos e, if_pos (by omega)]; exact ih ys
        · rw [if_neg e, if_neg (by omega)]; exact this
  zero := by
    intro a
    induction a with
    | nil => intro b; cases b <;> simp [lexC]
    | cons x xs ih =>
      intro b
      cases b with
      | nil => simp [lexC]
      | cons y ys =>
        simp only [lexC]
        by_cases e : c x y = 0
        · rw [if_pos e, ih ys]
          have := (h.zero x y).1 e
          simp [this]
        · rw [if_neg e]
          have : x ≠ y := fun q => e ((h.zero x y).2 q)
          simp [e, this]
  trans := by
    intro a
    induction a with
    | nil => intro b d _ _; cases d <;> simp [lexC]
    | cons x xs ih =>
      intro b d h1 h2
      cases b with
      | nil => simp [lexC] at h1
      | cons y ys =>
        cases d with
        | nil => simp [lexC] at h2
        | cons z zs =>
          simp only [lexC] at h1 h2 ⊢
          by_cases e1 : c x y = 0
          · have q1 := (h.zero x y).1 e1
            subst q1
            rw [if_pos e1] at h1
            by_cases e2 : c x z = 0
            · rw [if_pos e2] at h2 ⊢; exact ih ys zs h1 h2
            · rw [if_neg e2] at h2 ⊢; exact h2
          · rw [if_neg e1] at h1
            by_cases e2 : c y z = 0
            · have q2 := (h.zero y z).1 e2
              subst q2
              rw [if_neg e1]; exact h1
            · rw [if_neg e2] at h2
              have t := h.trans x y z h1 h2
              by_cases e3 : c x z = 0
              · have q3 := (h.zero x z).1 e3
                subst q3
                have := h.anti x y
                omega
              · rw [if_neg e3]; exact t
  lo := by
    intro a
    induction a with
    | nil => intro b; cases b <;> simp [lexC]
    | cons x xs ih =>
      intro b
      cases b with
      | nil => simp [lexC]
      | cons y ys =>
        simp only [lexC]
        split
        · exact ih ys
        · exact h.lo x y
  hi := by
    intro a
    induction a with
    | nil => intro b; cases b <;> simp [lexC]
    | cons x xs ih =>
      intro b
      cases b with
      | nil => simp [lexC]
      | cons y ys =>
        simp only [lexC]
        split
        · exact ih ys
        · exact h.hi x y

theorem lexC_prefix {α : Type} {c : α → α → Int} (h : IsCmp c) (a b : List α) (hb : b ≠ []) : lexC c a (a ++ b) = -1 := by
  induction a with
  | nil => cases b with
    | nil => contradiction
    | cons y ys => rfl
  | cons x xs ih =>
    simp only [List.cons_append, lexC]
    rw [if_pos ((h.zero x x).2 rfl)]; exact ih

/-- a byte against a byte -/
def byteC (a b : UInt8) : Int := if a < b then -1 else if a = b then 0 else 1

theorem byteC_isCmp : IsCmp byteC where
  anti := by
    intro a b
    unfold byteC
    simp only [UInt8.lt_iff_toNat_lt, ← UInt8.toNat_inj]
    split <;> split <;> (try split) <;> (try split) <;> omega
  zero := by
    intro a b
    unfold byteC
    simp only [UInt8.lt_iff_toNat_lt, ← UInt8.toNat_inj]
    split
    · simp; omega
    · split <;> simp_all
  trans := by
    intro a b d
    unfold byteC
    simp only [UInt8.lt_iff_toNat_lt, ← UInt8.toNat_inj]
    repeat' split
    all_goals omega
  lo := by intro a b; unfold byteC; split <;> (try split) <;> omega
  hi := by intro a b; unfold byteC; split <;> (try split) <;> omega

/-- a text against a text -/
def strC : List UInt8 → List UInt8 → Int := lexC byteC
theorem strC_isCmp : IsCmp strC := lexC_isCmp byteC_isCmp
/-- a list of texts against a list of texts -/
def textsC : List (List UInt8) → List (List UInt8) → Int := lexC strC
theorem textsC_isCmp : IsCmp textsC := lexC_isCmp strC_isCmp
/-- a name against a name -/
def nameC (a b : List UInt8) : Int := textsC (partsL a) (partsL b)

theorem strC_less (a b : List UInt8) : Op.bytesLess a b = decide (strC a b = -1) := by
  induction a generalizing b with
  | nil => cases b <;> simp [Op.bytesLess, strC, lexC]
  | cons x xs ih =>
    cases b with
    | nil => simp [Op.bytesLess, strC, lexC]
    | cons y ys =>
      have e : strC (x :: xs) (y :: ys) = if byteC x y = 0 then strC xs ys else byteC x y := rfl
      rw [Op.bytesLess, e, ih ys]
      by_cases h : x = y
      · subst h
        rw [if_pos ((byteC_isCmp.zero x x).2 rfl)]
        simp
      · have hz : byteC x y ≠ 0 := fun q => h ((byteC_isCmp.zero x y).1 q)
        rw [if_neg hz]
        have hb : (x == y) = false := by simpa using h
        rw [hb]
        unfold byteC
        by_cases hl : x < y <;> simp [hl, h]

theorem partsL_append (a b : List UInt8) : partsL (a ++ 47 :: b) = partsL a ++ partsL b := by
  induction a with
  | nil => simp [partsL]
  | cons c l ih =>
    have hn := partsL_ne l
    by_cases hc : c = 47
    · simp [partsL, hc, ih]
    · simp only [List.cons_append, partsL, hc, if_false, ih]
      cases e : partsL l with
      | nil => contradiction
      | cons p ps => simp

theorem nameC_zero (a b : List UInt8) : nameC a b = 0 ↔ a = b := by
  unfold nameC
  rw [textsC_isCmp.zero]
  constructor
  · intro h; rw [← join_parts a, h, join_parts]
  · intro h; rw [h]

theorem nameC_below (a b : List UInt8) : nameC a (a ++ 47 :: b) = -1 := by
  unfold nameC
  rw [partsL_append]
  exact lexC_prefix strC_isCmp _ _ (partsL_ne b)

theorem textsC_step (ps qs : List (List UInt8)) (k : Nat) (p q : List UInt8) (hp : ps[k]? = some p) (hq : qs[k]? = some q) :
    textsC (ps.drop k) (qs.drop k) = if strC p q = 0 then textsC (ps.drop (k + 1)) (qs.drop (k + 1)) else strC p q := by
  obtain ⟨h1, rfl⟩ := List.getElem?_eq_some_iff.1 hp
  obtain ⟨h2, rfl⟩ := List.getElem?_eq_some_iff.1 hq
  rw [List.drop_eq_getElem_cons h1, List.drop_eq_getElem_cons h2]
  rfl

theorem textsC_long (ps qs : List (List UInt8)) (k : Nat) (h1 : k < ps.length) (h2 : qs.length ≤ k) : textsC (ps.drop k) (qs.drop k) = 1 := by
  rw [List.drop_eq_getElem_cons h1, List.drop_of_length_le h2]; rfl

theorem textsC_short (ps qs : List (List UInt8)) (k : Nat) (h1 : ps.length ≤ k) (h2 : k < qs.length) : textsC (ps.drop k) (qs.drop k) = -1 := by
  rw [List.drop_eq_getElem_cons h2, List.drop_of_length_le h1]; rfl

theorem textsC_end (ps qs : List (List UInt8)) (k : Nat) (h1 : ps.length ≤ k) (h2 : qs.length ≤ k) : textsC (ps.drop k) (qs.drop k) = 0 := by
  rw [List.drop_of_length_le h2, List.drop_of_length_le h1]; rfl

end Go.Proofs.YtijlipllahfakaaDoor
