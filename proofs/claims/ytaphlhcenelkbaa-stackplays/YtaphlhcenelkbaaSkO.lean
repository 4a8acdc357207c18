/- StackLast: the plain facts; SameValue; what the calls answer at each step. -/
import Derived.Test.YtaphlhcenelkbaaSkQ
namespace Go.Proofs.Ytaphlhcenelkbaa
open Go.RowKit Go.Maps

set_option maxRecDepth 100000 in
theorem same_c (a b : Bool × Int) (W : World) : Calls Try.prog 20 #[vlV a, vlV b] W fun e w' => e = .returned (.bool (decide (a = b))) ∧ Below W.heap.size W w' := by
  obtain ⟨a1, a2⟩ := a
  obtain ⟨b1, b2⟩ := b
  unfold vlV
  by_cases h1 : a1 = b1
  · subst h1
    go_enter Try.func20, Try.ntmps20
    go_wp2
    go_ret
    exact ⟨ret_bool (by by_cases h : a2 = b2 <;> simp [h]), (by repeat (first | exact Below.refl _ _ | refine Below.setCell ?_ (by simp; try omega) _ | refine Below.alloc ?_ (by simp; try omega) _ | refine Below.drew ?_))⟩
  · have h2 : (a1 == b1) = false := by simpa using h1
    go_enter Try.func20, Try.ntmps20
    go_wp2
    go_ret
    exact ⟨ret_bool (by simp [h1]), (by repeat (first | exact Below.refl _ _ | refine Below.setCell ?_ (by simp; try omega) _ | refine Below.alloc ?_ (by simp; try omega) _ | refine Below.drew ?_))⟩
/-- the operands and the locals behind i rounds of the first loop -/
def opAt (m : Nat) (xs : List (Bool × Int)) (i : Nat) : List (Bool × Int) := (xs.take i).take m
def lsAt (l : Nat) (xs : List (Bool × Int)) (i : Nat) : List (Bool × Int) := (List.range l).map fun j => if j < i then xs.getD j (false, 0) else (false, 0)
theorem lsAt_len (l : Nat) (xs : List (Bool × Int)) (i : Nat) : (lsAt l xs i).length = l := by simp [lsAt]
theorem lsAt_0 (l : Nat) (xs : List (Bool × Int)) : lsAt l xs 0 = List.replicate l (false, 0) := by
  apply List.ext_getElem?
  intro k
  by_cases h : k < l <;> simp [lsAt, h]
theorem lsAt_set {l : Nat} {xs : List (Bool × Int)} {i : Nat} (h : i < l) {v : Bool × Int} (hv : xs[i]? = some v) : (lsAt l xs i).set i v = lsAt l xs (i + 1) := by
  apply List.ext_getElem?
  intro k
  rw [List.getElem?_set]
  by_cases e : i = k
  · subst e; rw [if_pos rfl, if_pos (by rw [lsAt_len]; exact h)]; simp [lsAt, h, hv]
  · rw [if_neg e]
    by_cases hk : k < l
    · simp only [lsAt, List.getElem?_map, List.getElem?_range hk, Option.map_some]
      by_cases h1 : k < i
      · rw [if_pos h1, if_pos (by omega)]
      · rw [if_neg h1, if_neg (by omega)]
    · rw [List.getElem?_eq_none (by rw [lsAt_len]; omega), List.getElem?_eq_none (by rw [lsAt_len]; omega)]
theorem lsAt_no {l : Nat} {xs : List (Bool × Int)} {i : Nat} (h : ¬ i < l) : lsAt l xs (i + 1) = lsAt l xs i := by
  apply List.ext_getElem?
  intro k
  by_cases hk : k < l
  · simp only [lsAt, List.getElem?_map, List.getElem?_range hk, Option.map_some]
    rw [if_pos (by omega), if_pos (by omega)]
  · rw [List.getElem?_eq_none (by rw [lsAt_len]; omega), List.getElem?_eq_none (by rw [lsAt_len]; omega)]
theorem lsAt_get {l : Nat} {xs : List (Bool × Int)} {i j : Nat} (h : j < l) (hi : j < i) {v : Bool × Int} (hv : xs[j]? = some v) : (lsAt l xs i)[j]? = some v := by simp [lsAt, h, hi, hv]
theorem opAt_len {m : Nat} {xs : List (Bool × Int)} {i : Nat} (hi : i ≤ xs.length) : (opAt m xs i).length = min i m := by simp [opAt]; omega
theorem opAt_yes {m : Nat} {xs : List (Bool × Int)} {i : Nat} (h : i < m) {v : Bool × Int} (hv : xs[i]? = some v) : opAt m xs i ++ [v] = opAt m xs (i + 1) := by
  obtain ⟨h1, h2⟩ := List.getElem?_eq_some_iff.1 hv
  have e1 : opAt m xs i = xs.take i := by rw [opAt, List.take_of_length_le (by simp; omega)]
  have e2 : opAt m xs (i + 1) = xs.take (i + 1) := by rw [opAt, List.take_of_length_le (by simp; omega)]
  rw [e1, e2, List.take_add_one, hv]
  rfl
theorem opAt_no {m : Nat} {xs : List (Bool × Int)} {i : Nat} (h : ¬ i < m) : opAt m xs (i + 1) = opAt m xs i := by
  rw [opAt, opAt, List.take_take, List.take_take, Nat.min_eq_left (by omega), Nat.min_eq_left (by omega)]
theorem opAt_all {m : Nat} {xs : List (Bool × Int)} : opAt m xs xs.length = xs.take m := by rw [opAt, List.take_length]
section
variable {W : World} {l m : Nat} {xs : List (Bool × Int)} {w : World} {S : Nat → Prop} {sb : Nat}
theorem sl_put1 {i : Nat} {v : Bool × Int} (hm : i < m) (hv : xs[i]? = some v) (h : One true W w S sb [⟨opAt m xs i, m, lsAt l xs i⟩]) : Calls Try.prog 17 #[.pointer (some ⟨sb, 0, none⟩), vlV v] w fun e w' => e = .returned (.int .i64 0) ∧ OneN true W w S sb w' [⟨opAt m xs (i + 1), m, lsAt l xs i⟩] := by
  have := one_put h v
  have hl : (opAt m xs i).length < m := by rw [opAt_len (Nat.le_of_lt (List.getElem?_eq_some_iff.1 hv).1)]; omega
  simp only [puE, puP, if_pos hl, opAt_yes hm hv] at this
  exact this
theorem sl_put0 {i : Nat} {v : Bool × Int} (hm : ¬ i < m) (hv : xs[i]? = some v) (h : One true W w S sb [⟨opAt m xs i, m, lsAt l xs i⟩]) : Calls Try.prog 17 #[.pointer (some ⟨sb, 0, none⟩), vlV v] w fun e w' => e = .returned (.int .i64 35) ∧ OneN true W w S sb w' [⟨opAt m xs (i + 1), m, lsAt l xs i⟩] := by
  have := one_put h v
  have hl : ¬ (opAt m xs i).length < m := by rw [opAt_len (Nat.le_of_lt (List.getElem?_eq_some_iff.1 hv).1)]; omega
  simp only [puE, puP, if_neg hl] at this
  rw [opAt_no hm]
  exact this
theorem sl_set {i : Nat} {v : Bool × Int} {ys : List (Bool × Int)} (hi : i < l) (hv : xs[i]? = some v) (h : One true W w S sb [⟨ys, m, lsAt l xs i⟩]) : Calls Try.prog 18 #[.pointer (some ⟨sb, 0, none⟩), .int .i64 (i : Int), vlV v] w fun e w' => e = .returned (.int .i64 0) ∧ OneN true W w S sb w' [⟨ys, m, lsAt l xs (i + 1)⟩] := by
  have := one_set h i v
  have hl : 0 ≤ (i : Int) ∧ (i : Int) < ((lsAt l xs i).length : Int) := by rw [lsAt_len]; omega
  simp only [seE, seP, if_pos hl, Int.toNat_natCast, lsAt_set hi hv] at this
  exact this
theorem sl_get {i n : Nat} {v : Bool × Int} {ys : List (Bool × Int)} (hi : i < l) (hn : i < n) (hv : xs[i]? = some v) (h : One true W w S sb [⟨ys, m, lsAt l xs n⟩]) : Calls Try.prog 19 #[.pointer (some ⟨sb, 0, none⟩), .int .i64 (i : Int)] w fun e w' => e = .returned (.tuple #[vlV v, .int .i64 0]) ∧ Below w.heap.size w w' := by
  have := one_local h i
  have e : lcI (lsAt l xs n) (i : Int) = some v := by rw [lcI, if_pos (by omega)]; exact lsAt_get hi hn hv
  simp only [loO, loE, e] at this
  exact this
theorem sl_take {c : Nat} {v : Bool × Int} {zs : List (Bool × Int)} (hv : xs[c]? = some v) (h : One true W w S sb [⟨xs.take (c + 1), m, zs⟩]) : Calls Try.prog 21 #[.pointer (some ⟨sb, 0, none⟩)] w fun e w' => e = .returned (.tuple #[vlV v, .int .i64 0]) ∧ OneN true W w S sb w' [⟨xs.take c, m, zs⟩] := by
  have := one_take h
  have e1 : xs.take (c + 1) = xs.take c ++ [v] := by rw [List.take_add_one, hv]; rfl
  have e : (xs.take (c + 1)).getLast? = some v := by rw [e1]; simp
  have e2 : (xs.take (c + 1)).dropLast = xs.take c := by rw [e1]; simp
  simp only [tkO, tkE, tkP, e, e2] at this
  exact this
theorem sl_none {zs : List (Bool × Int)} (h : One true W w S sb [⟨[], m, zs⟩]) : Calls Try.prog 21 #[.pointer (some ⟨sb, 0, none⟩)] w fun e w' => e = .returned (.tuple #[.agg #[.bool false, .int .i64 0], .int .i64 35]) ∧ OneN true W w S sb w' [⟨[], m, zs⟩] := one_take h
/-- with some frames on top of one -/
theorem sl_ent {qs : List PF} {b : PF} (h : One true W w S sb (qs ++ [b])) (x y : Int) : Calls Try.prog 15 #[.pointer (some ⟨sb, 0, none⟩), .int .i64 x, .int .i64 y] w fun e w' => e = .returned (.int .i64 (enE (qs ++ [b]) x y)) ∧ ∃ rs, OneN true W w S sb w' (rs ++ [b]) ∧ rs.length = if enE (qs ++ [b]) x y = 0 then qs.length + 1 else qs.length := by
  refine (one_ent h x y).mono (fun e w' p => ⟨p.1, ?_⟩)
  have h2 := p.2
  unfold enP at h2
  unfold enE
  split at h2
  · next c => rw [if_pos c]; exact ⟨qs, h2, by simp⟩
  · next c =>
    rw [if_neg c]
    split at h2
    · next c2 => rw [if_pos c2]; exact ⟨qs, h2, by simp⟩
    · next c2 => rw [if_neg c2]; exact ⟨_ :: qs, h2, by simp⟩
theorem sl_put {qs : List PF} {b : PF} (h : One true W w S sb (qs ++ [b])) (hq : qs ≠ []) (v : Bool × Int) : Calls Try.prog 17 #[.pointer (some ⟨sb, 0, none⟩), vlV v] w fun e w' => e = .returned (.int .i64 (puE (qs ++ [b]))) ∧ ∃ rs, OneN true W w S sb w' (rs ++ [b]) ∧ rs.length = qs.length := by
  refine (one_put h v).mono (fun e w' p => ⟨p.1, ?_⟩)
  have h2 := p.2
  cases qs with
  | nil => exact absurd rfl hq
  | cons q r =>
    simp only [List.cons_append, puP] at h2
    split at h2
    · exact ⟨_ :: r, h2, by simp⟩
    · exact ⟨q :: r, h2, by simp⟩
theorem sl_setq {qs : List PF} {b : PF} (h : One true W w S sb (qs ++ [b])) (hq : qs ≠ []) (i : Int) (v : Bool × Int) : Calls Try.prog 18 #[.pointer (some ⟨sb, 0, none⟩), .int .i64 i, vlV v] w fun e w' => e = .returned (.int .i64 (seE (qs ++ [b]) i)) ∧ ∃ rs, OneN true W w S sb w' (rs ++ [b]) ∧ rs.length = qs.length := by
  refine (one_set h i v).mono (fun e w' p => ⟨p.1, ?_⟩)
  have h2 := p.2
  cases qs with
  | nil => exact absurd rfl hq
  | cons q r =>
    simp only [List.cons_append, seP] at h2
    split at h2
    · exact ⟨_ :: r, h2, by simp⟩
    · exact ⟨q :: r, h2, by simp⟩
theorem sl_lev {q : PF} {qs : List PF} {b : PF} (h : One true W w S sb (q :: qs ++ [b])) : Calls Try.prog 16 #[.pointer (some ⟨sb, 0, none⟩)] w fun e w' => e = .returned (.int .i64 0) ∧ OneN true W w S sb w' (qs ++ [b]) := one_lev h
end
theorem One.len {k : Bool} {W w : World} {S : Nat → Prop} {sb : Nat} {ps : List PF} (h : One k W w S sb ps) : ps.length ≤ 1333 := by
  obtain ⟨fv, fs, h1, rfl⟩ := h.st
  rw [List.length_map]
  exact h1.bnd
end Go.Proofs.Ytaphlhcenelkbaa
