/- Plain facts on valid names, members, packages and simple names; no Go text is named here. -/
import Derived.Test.YtijlipllahfakaaGreatDoorPure
import Derived.Test.YtijlipllahfakaaGreatDoorProg
import Derived.Test.YtijlipllahfakaaGreatDoorValid
import Derived.Lib.Join
import GoSem.Op.String
namespace Go.Proofs.YtijlipllahfakaaGreatDoor

theorem part_all {p : List UInt8} (h : partL p = true) : ∀ c ∈ p, wordB c = true := by
  cases p with
  | nil => simp [partL] at h
  | cons c r =>
    have h2 : (c :: r).all wordB = true := by unfold partL at h; exact (Bool.and_eq_true_iff.1 h).2
    exact List.all_eq_true.1 h2

theorem part_free {p : List UInt8} (h : partL p = true) : (47 : UInt8) ∉ p := fun m => by
  have := part_all h 47 m
  revert this; decide

theorem part_ne {p : List UInt8} (h : partL p = true) : p ≠ [] := by rintro rfl; simp [partL] at h

theorem parts_one {l : List UInt8} (h : (partsL l).length = 1) : (47 : UInt8) ∉ l := by
  rcases lastL_spec l with ⟨_, h2⟩ | ⟨a, b, rfl, h2, _⟩
  · exact h2
  · rw [partsL_back a b h2] at h
    have := partsL_ne a
    have : (partsL a).length ≠ 0 := fun e => this (List.eq_nil_of_length_eq_zero e)
    simp at h
    contradiction

theorem mem_parts (l : List UInt8) : ∀ c ∈ l, c = 47 ∨ ∃ p ∈ partsL l, c ∈ p := by
  induction l with
  | nil => simp
  | cons d l ih =>
    intro c hc
    by_cases hd : d = 47
    · rcases List.mem_cons.1 hc with rfl | h
      · exact .inl hd
      · rcases ih c h with h | ⟨p, hp, hcp⟩
        · exact .inl h
        · exact .inr ⟨p, by simp [partsL, hd, hp], hcp⟩
    · have hn := partsL_ne l
      cases e : partsL l with
      | nil => contradiction
      | cons q qs =>
        have e2 : partsL (d :: l) = (d :: q) :: qs := by simp [partsL, hd, e]
        rw [e2]
        rcases List.mem_cons.1 hc with rfl | h
        · exact .inr ⟨c :: q, by simp, by simp⟩
        · rcases ih c h with h | ⟨p, hp, hcp⟩
          · exact .inl h
          · rw [e] at hp
            rcases List.mem_cons.1 hp with rfl | hp
            · exact .inr ⟨d :: p, by simp, by simp [hcp]⟩
            · exact .inr ⟨p, by simp [hp], hcp⟩

theorem valid_len {l : List UInt8} (h : validL l = true) : l.length ≤ 60 := by unfold validL at h; simp at h; exact h.1
theorem valid_parts {l : List UInt8} (h : validL l = true) : ∀ p ∈ partsL l, partL p = true := by
  unfold validL at h; exact List.all_eq_true.1 (Bool.and_eq_true_iff.1 h).2

theorem valid_bytes {l : List UInt8} (h : validL l = true) : ∀ c ∈ l, c = 47 ∨ wordB c = true := by
  intro c hc
  rcases mem_parts l c hc with h1 | ⟨p, hp, hcp⟩
  · exact .inl h1
  · exact .inr (part_all (valid_parts h p hp) c hcp)

theorem valid_free {l : List UInt8} (h : (47 : UInt8) ∉ l) : validL l = (decide (l.length ≤ 60) && partL l) := by
  unfold validL; rw [partsL_free l h]; simp

theorem valid_ne {l : List UInt8} (h : validL l = true) : 1 ≤ l.length := by
  cases l with
  | nil => revert h; decide
  | cons c r => simp

theorem valid_back {a b : List UInt8} (h : validL (a ++ 47 :: b) = true) (hb : (47 : UInt8) ∉ b) : validL a = true ∧ partL b = true ∧ a ≠ [] := by
  have hp := valid_parts h
  rw [partsL_back a b hb] at hp
  have hl := valid_len h
  have ha : validL a = true := by
    unfold validL
    rw [List.all_eq_true.2 (fun p m => hp p (List.mem_append_left _ m))]
    simp at hl
    simp; omega
  refine ⟨ha, hp b (by simp), ?_⟩
  have := valid_ne ha
  rintro rfl
  simp at this

/-- the three shapes of a text that the law parts on -/
theorem law_cases (l : List UInt8) : (l = initL) ∨ (l ≠ initL ∧ validL l = false ∧ memberL l = false) ∨
    (l ≠ initL ∧ validL l = true ∧ memberL l = true ∧ pkgL l = [] ∧ (partsL l).length = 1 ∧ memberL (simpleL l) = true) ∨
    (l ≠ initL ∧ validL l = true ∧ memberL l = false ∧ pkgL l ≠ [] ∧ validL (pkgL l) = true ∧ memberL (simpleL l) = true) := by
  by_cases hi : l = initL
  · exact .inl hi
  · right
    have hm : memberL l = (decide (l.length ≤ 60) && partL l) := by
      unfold memberL
      have : (l == initL) = false := by simpa using hi
      simp [this]
    rcases lastL_spec l with ⟨h1, h2⟩ | ⟨a, b, rfl, h2, h3⟩
    · have hv := valid_free h2
      cases hvv : validL l with
      | false => left; exact ⟨hi, rfl, by rw [hm, ← hv]; exact hvv⟩
      | true =>
        right; left
        have hp := pkgL_miss l h1
        have hmm : memberL l = true := by rw [hm, ← hv]; exact hvv
        refine ⟨hi, rfl, hmm, hp.1, by rw [partsL_free l h2]; rfl, by rw [hp.2]; exact hmm⟩
    · have hnp : partL (a ++ 47 :: b) = false := by
        cases hq : partL (a ++ 47 :: b) with
        | false => rfl
        | true => exact absurd (by simp) (part_free hq)
      have hmm : memberL (a ++ 47 :: b) = false := by rw [hm, hnp]; simp
      cases hvv : validL (a ++ 47 :: b) with
      | false => left; exact ⟨hi, rfl, hmm⟩
      | true =>
        right; right
        obtain ⟨v1, v2, v3⟩ := valid_back hvv h2
        obtain ⟨p1, p2⟩ := pkgL_hit a b h3
        have hl := valid_len hvv
        refine ⟨hi, rfl, hmm, by rw [p1]; exact v3, by rw [p1]; exact v1, ?_⟩
        rw [p2]
        unfold memberL
        simp at hl
        rw [v2]
        simp; right; omega

end Go.Proofs.YtijlipllahfakaaGreatDoor

namespace Go.Proofs.YtijlipllahfakaaGreatDoor
end Go.Proofs.YtijlipllahfakaaGreatDoor

namespace Go.Proofs.YtijlipllahfakaaGreatDoor
open Go.RowKit

def joinOk (ps : List (List UInt8)) : Bool := !ps.isEmpty && ps.all partL && decide (ps.length - 1 + Lib.lens ps ≤ 60)
def joinS (ps : List (List UInt8)) : List UInt8 := if joinOk ps then Lib.join ps [47] else []
def joinE (ps : List (List UInt8)) : Int := if joinOk ps then 0 else 1

/-- the value v is a list of texts ps in the world w -/
def IsStrs (w : World) (v : Value) (ps : List (List UInt8)) : Prop :=
  ∃ ao cap, v = .slice ao ps.length cap ∧ ps.length ≤ cap ∧ cap ≤ maxLen ∧
    (ps ≠ [] → ∃ bk o, ao = some ⟨bk, o, none⟩ ∧ bk < w.heap.size ∧ ∀ k p, ps[k]? = some p → w.cell? ⟨bk, o + k, none⟩ = some (.string ⟨p.toArray⟩))

theorem IsStrs.keep {w w' : World} {v : Value} {ps : List (List UInt8)} (h : IsStrs w v ps) (hb : Below w.heap.size w w') : IsStrs w' v ps := by
  obtain ⟨ao, cap, rfl, h1, h2, h3⟩ := h
  refine ⟨ao, cap, rfl, h1, h2, fun hne => ?_⟩
  obtain ⟨bk, o, e, hlt, hc⟩ := h3 hne
  exact ⟨bk, o, e, Nat.lt_of_lt_of_le hlt hb.size, fun k p hk => (hb.cell hlt).trans (hc k p hk)⟩

theorem own_strs {w : World} {base : Nat} {v : Value} {ps : List (List UInt8)} (h : w.ownsRow base 9 1 v ps.length (ps.map strV)) : IsStrs w v ps := by
  by_cases hne : ps = []
  · subst hne
    rcases h.2 with ⟨rfl, _⟩ | ⟨g, cap, cur, rfl, hb, hg, hn, hm, _, _⟩
    · exact ⟨none, 0, rfl, Nat.le_refl _, by unfold maxLen; omega, fun h => absurd rfl h⟩
    · exact ⟨_, cap, rfl, hn, hm, fun h => absurd rfl h⟩
  · obtain ⟨g, cap, rfl, _, hgl, hcap, hcm, hcell⟩ := own_shape h hne
    exact ⟨_, cap, rfl, hcap, hcm, fun _ => ⟨g, 0, rfl, hgl, fun k p hk => by rw [Nat.zero_add]; exact hcell k p hk⟩⟩

theorem lens_take_le (ps : List (List UInt8)) (k : Nat) : Lib.lens (ps.take k) ≤ Lib.lens ps := by
  have h : Lib.lens (ps.take k ++ ps.drop k) = Lib.lens (ps.take k) + Lib.lens (ps.drop k) := by unfold Lib.lens; rw [List.map_append, List.sum_append]
  rw [List.take_append_drop] at h
  omega

theorem joinOk_stop (ps : List (List UInt8)) (k : Nat) (p : List UInt8) (h : ps[k]? = some p) (hp : partL p = false ∨ 60 < ps.length - 1 + Lib.lens (ps.take (k + 1))) : joinOk ps = false := by
  unfold joinOk
  rcases hp with hp | hp
  · rw [all_stop ps k p h hp]; simp
  · have := lens_take_le ps (k + 1)
    have : decide (ps.length - 1 + Lib.lens ps ≤ 60) = false := by simp; omega
    rw [this]; simp

theorem join_len (ps : List (List UInt8)) (h : ps ≠ []) : (Lib.join ps [47]).length = ps.length - 1 + Lib.lens ps := by
  cases ps with
  | nil => contradiction
  | cons x r => rw [Lib.join_length]; simp

end Go.Proofs.YtijlipllahfakaaGreatDoor

namespace Go.Proofs.YtijlipllahfakaaGreatDoor

theorem tail_snoc (r : List (List UInt8)) (p : List UInt8) : Lib.joinTail [47] (r ++ [p]) = Lib.joinTail [47] r ++ 47 :: p := by
  simp [Lib.joinTail]

theorem join_snoc (ps : List (List UInt8)) (p : List UInt8) (h : ps ≠ []) : Lib.join (ps ++ [p]) [47] = Lib.join ps [47] ++ 47 :: p := by
  cases ps with
  | nil => contradiction
  | cons x r => rw [List.cons_append, Lib.join_cons, Lib.join_cons, tail_snoc]; simp

theorem join_head (x : List UInt8) (r : List (List UInt8)) (h : r ≠ []) : Lib.join (x :: r) [47] = x ++ 47 :: Lib.join r [47] := by
  cases r with
  | nil => contradiction
  | cons y r => rw [Lib.join_cons, Lib.join_cons]; simp [Lib.joinTail]

theorem join_parts (l : List UInt8) : Lib.join (partsL l) [47] = l := by
  induction l with
  | nil => rfl
  | cons c l ih =>
    have hn := partsL_ne l
    by_cases hc : c = 47
    · simp only [partsL, hc, if_true]
      rw [join_head _ _ hn, ih]; rfl
    · simp only [partsL, hc, if_false]
      cases e : partsL l with
      | nil => contradiction
      | cons p ps =>
        rw [e] at ih
        simp only
        rw [Lib.join_cons] at ih ⊢
        rw [List.cons_append, ih]

theorem join_length_eq (ps : List (List UInt8)) (h : ps ≠ []) : (Lib.join ps [47]).length = ps.length - 1 + Lib.lens ps := by
  cases ps with
  | nil => contradiction
  | cons x r => rw [Lib.join_length]; simp

theorem parts_len (l : List UInt8) : (partsL l).length - 1 + Lib.lens (partsL l) = l.length := by
  rw [← join_length_eq _ (partsL_ne l), join_parts]

theorem lens_take (ps : List (List UInt8)) (k : Nat) : Lib.lens (ps.take k) ≤ Lib.lens ps := by
  have h : Lib.lens (ps.take k ++ ps.drop k) = Lib.lens (ps.take k) + Lib.lens (ps.drop k) := by unfold Lib.lens; rw [List.map_append, List.sum_append]
  rw [List.take_append_drop] at h
  omega

theorem join_take_le (l : List UInt8) (k : Nat) : (Lib.join ((partsL l).take k) [47]).length ≤ l.length := by
  by_cases h : (partsL l).take k = []
  · rw [h]; simp [Lib.join_nil]
  · rw [join_length_eq _ h]
    have h1 := lens_take (partsL l) k
    have h2 := parts_len l
    have h3 : ((partsL l).take k).length ≤ (partsL l).length := by rw [List.length_take]; omega
    omega

theorem join_take_succ (ps : List (List UInt8)) (k : Nat) (p : List UInt8) (hk : 1 ≤ k) (h : ps[k]? = some p) : Lib.join (ps.take (k + 1)) [47] = Lib.join (ps.take k) [47] ++ 47 :: p := by
  obtain ⟨hlt, rfl⟩ := List.getElem?_eq_some_iff.1 h
  rw [List.take_succ_eq_append_getElem hlt, join_snoc]
  intro e
  have h2 : (ps.take k).length = 0 := by rw [e]; rfl
  rw [List.length_take] at h2
  omega

theorem join_take_one (ps : List (List UInt8)) (p : List UInt8) (h : ps[0]? = some p) : Lib.join (ps.take 1) [47] = p := by
  cases ps with
  | nil => simp at h
  | cons x r => simp at h; subst h; simp [Lib.join_one]

/-- the two shapes of a text -/
theorem cut_cases (l : List UInt8) : (partsL l = [l] ∧ pkgL l = [] ∧ simpleL l = l) ∨
    (1 < (partsL l).length ∧ (partsL l)[(partsL l).length - 1]? = some (simpleL l) ∧ pkgL l ++ 47 :: simpleL l = l) := by
  rcases lastL_spec l with ⟨h1, h2⟩ | ⟨a, b, rfl, h2, h3⟩
  · exact .inl ⟨partsL_free l h2, pkgL_miss l h1⟩
  · right
    obtain ⟨p1, p2⟩ := pkgL_hit a b h3
    rw [p1, p2, partsL_back a b h2]
    have := partsL_ne a
    have : (partsL a).length ≠ 0 := fun e => this (List.eq_nil_of_length_eq_zero e)
    refine ⟨by simp; omega, by simp, rfl⟩

end Go.Proofs.YtijlipllahfakaaGreatDoor

namespace Go.Proofs.YtijlipllahfakaaGreatDoor

/-- a comparison that is an order -/
structure IsCmp {α : Type} (c : α → α → Int) : Prop where
  anti : ∀ a b, c a b = - c b a
  zero : ∀ a b, c a b = 0 ↔ a = b
  trans : ∀ a b d, c a b ≤ 0 → c b d ≤ 0 → c a d ≤ 0
  lo : ∀ a b, -1 ≤ c a b
  hi : ∀ a b, c a b ≤ 1

/-- element by element, a beginning first -/
def lexC {α : Type} (c : α → α → Int) : List α → List α → Int
  | [], [] => 0
  | [], _ :: _ => -1
  | _ :: _, [] => 1
  | x :: xs, y :: ys => if c x y = 0 then lexC c xs ys else c x y

theorem lexC_isCmp {α : Type} {c : α → α → Int} (h : IsCmp c) : IsCmp (lexC c) where
  anti := by
    intro a
    induction a with
    | nil => intro b; cases b <;> simp [lexC]
    | cons x xs ih =>
      intro b
      cases b with
      | nil => simp [lexC]
      | cons y ys =>
        simp only [lexC]
        have := h.anti x y
        by_cases e : c x y = 0
        · rw [if_pos e, if_pos (by omega)]; exact ih ys
        · rw [if_neg e, if_neg (by omega)]; exact this
  zero := by
    intro a
    induction a with
    | nil => intro b; cases b <;> simp [lexC]
    | cons x xs ih =>
      intro b
      cases b with
      | nil => simp [lexC]
      | cons y ys =>
        simp only [lexC]
        by_cases e : c x y = 0
        · rw [if_pos e, ih ys]
          have := (h.zero x y).1 e
          simp [this]
        · rw [if_neg e]
          have : x ≠ y := fun q => e ((h.zero x y).2 q)
          simp [e, this]
  trans := by
    intro a
    induction a with
    | nil => intro b d _ _; cases d <;> simp [lexC]
    | cons x xs ih =>
      intro b d h1 h2
      cases b with
      | nil => simp [lexC] at h1
      | cons y ys =>
        cases d with
        | nil => simp [lexC] at h2
        | cons z zs =>
          simp only [lexC] at h1 h2 ⊢
          by_cases e1 : c x y = 0
          · have q1 := (h.zero x y).1 e1
            subst q1
            rw [if_pos e1] at h1
            by_cases e2 : c x z = 0
            · rw [if_pos e2] at h2 ⊢; exact ih ys zs h1 h2
            · rw [if_neg e2] at h2 ⊢; exact h2
          · rw [if_neg e1] at h1
            by_cases e2 : c y z = 0
            · have q2 := (h.zero y z).1 e2
              subst q2
              rw [if_neg e1]; exact h1
            · rw [if_neg e2] at h2
              have t := h.trans x y z h1 h2
              by_cases e3 : c x z = 0
              · have q3 := (h.zero x z).1 e3
                subst q3
                have := h.anti x y
                omega
              · rw [if_neg e3]; exact t
  lo := by
    intro a
    induction a with
    | nil => intro b; cases b <;> simp [lexC]
    | cons x xs ih =>
      intro b
      cases b with
      | nil => simp [lexC]
      | cons y ys =>
        simp only [lexC]
        split
        · exact ih ys
        · exact h.lo x y
  hi := by
    intro a
    induction a with
    | nil => intro b; cases b <;> simp [lexC]
    | cons x xs ih =>
      intro b
      cases b with
      | nil => simp [lexC]
      | cons y ys =>
        simp only [lexC]
        split
        · exact ih ys
        · exact h.hi x y

theorem lexC_prefix {α : Type} {c : α → α → Int} (h : IsCmp c) (a b : List α) (hb : b ≠ []) : lexC c a (a ++ b) = -1 := by
  induction a with
  | nil => cases b with
    | nil => contradiction
    | cons y ys => rfl
  | cons x xs ih =>
    simp only [List.cons_append, lexC]
    rw [if_pos ((h.zero x x).2 rfl)]; exact ih

/-- a byte against a byte -/
def byteC (a b : UInt8) : Int := if a < b then -1 else if a = b then 0 else 1

theorem byteC_isCmp : IsCmp byteC where
  anti := by
    intro a b
    unfold byteC
    simp only [UInt8.lt_iff_toNat_lt, ← UInt8.toNat_inj]
    split <;> split <;> (try split) <;> (try split) <;> omega
  zero := by
    intro a b
    unfold byteC
    simp only [UInt8.lt_iff_toNat_lt, ← UInt8.toNat_inj]
    split
    · simp; omega
    · split <;> simp_all
  trans := by
    intro a b d
    unfold byteC
    simp only [UInt8.lt_iff_toNat_lt, ← UInt8.toNat_inj]
    repeat' split
    all_goals omega
  lo := by intro a b; unfold byteC; split <;> (try split) <;> omega
  hi := by intro a b; unfold byteC; split <;> (try split) <;> omega

/-- a text against a text -/
def strC : List UInt8 → List UInt8 → Int := lexC byteC
theorem strC_isCmp : IsCmp strC := lexC_isCmp byteC_isCmp
/-- a list of texts against a list of texts -/
def textsC : List (List UInt8) → List (List UInt8) → Int := lexC strC
theorem textsC_isCmp : IsCmp textsC := lexC_isCmp strC_isCmp
/-- a name against a name -/
def nameC (a b : List UInt8) : Int := textsC (partsL a) (partsL b)

theorem strC_less (a b : List UInt8) : Op.bytesLess a b = decide (strC a b = -1) := by
  induction a generalizing b with
  | nil => cases b <;> simp [Op.bytesLess, strC, lexC]
  | cons x xs ih =>
    cases b with
    | nil => simp [Op.bytesLess, strC, lexC]
    | cons y ys =>
      have e : strC (x :: xs) (y :: ys) = if byteC x y = 0 then strC xs ys else byteC x y := rfl
      rw [Op.bytesLess, e, ih ys]
      by_cases h : x = y
      · subst h
        rw [if_pos ((byteC_isCmp.zero x x).2 rfl)]
        simp
      · have hz : byteC x y ≠ 0 := fun q => h ((byteC_isCmp.zero x y).1 q)
        rw [if_neg hz]
        have hb : (x == y) = false := by simpa using h
        rw [hb]
        unfold byteC
        by_cases hl : x < y <;> simp [hl, h]

theorem partsL_append (a b : List UInt8) : partsL (a ++ 47 :: b) = partsL a ++ partsL b := by
  induction a with
  | nil => simp [partsL]
  | cons c l ih =>
    have hn := partsL_ne l
    by_cases hc : c = 47
    · simp [partsL, hc, ih]
    · simp only [List.cons_append, partsL, hc, if_false, ih]
      cases e : partsL l with
      | nil => contradiction
      | cons p ps => simp

theorem nameC_zero (a b : List UInt8) : nameC a b = 0 ↔ a = b := by
  unfold nameC
  rw [textsC_isCmp.zero]
  constructor
  · intro h; rw [← join_parts a, h, join_parts]
  · intro h; rw [h]

theorem nameC_below (a b : List UInt8) : nameC a (a ++ 47 :: b) = -1 := by
  unfold nameC
  rw [partsL_append]
  exact lexC_prefix strC_isCmp _ _ (partsL_ne b)

theorem textsC_step (ps qs : List (List UInt8)) (k : Nat) (p q : List UInt8) (hp : ps[k]? = some p) (hq : qs[k]? = some q) :
    textsC (ps.drop k) (qs.drop k) = if strC p q = 0 then textsC (ps.drop (k + 1)) (qs.drop (k + 1)) else strC p q := by
  obtain ⟨h1, rfl⟩ := List.getElem?_eq_some_iff.1 hp
  obtain ⟨h2, rfl⟩ := List.getElem?_eq_some_iff.1 hq
  rw [List.drop_eq_getElem_cons h1, List.drop_eq_getElem_cons h2]
  rfl

theorem textsC_long (ps qs : List (List UInt8)) (k : Nat) (h1 : k < ps.length) (h2 : qs.length ≤ k) : textsC (ps.drop k) (qs.drop k) = 1 := by
  rw [List.drop_eq_getElem_cons h1, List.drop_of_length_le h2]; rfl

theorem textsC_short (ps qs : List (List UInt8)) (k : Nat) (h1 : ps.length ≤ k) (h2 : k < qs.length) : textsC (ps.drop k) (qs.drop k) = -1 := by
  rw [List.drop_eq_getElem_cons h2, List.drop_of_length_le h1]; rfl

theorem textsC_end (ps qs : List (List UInt8)) (k : Nat) (h1 : ps.length ≤ k) (h2 : qs.length ≤ k) : textsC (ps.drop k) (qs.drop k) = 0 := by
  rw [List.drop_of_length_le h2, List.drop_of_length_le h1]; rfl

end Go.Proofs.YtijlipllahfakaaGreatDoor

namespace Go.Proofs.YtijlipllahfakaaGreatDoor
open Go.RowKit

end Go.Proofs.YtijlipllahfakaaGreatDoor

