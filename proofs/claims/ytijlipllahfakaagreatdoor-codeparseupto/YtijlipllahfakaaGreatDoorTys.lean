/- Lists of types: as plain lists, and as rows of two cells each in memory; arguments read one behind the other without fuel. -/
import Derived.Test.YtijlipllahfakaaGreatDoorCurC
namespace Go.Proofs.YtijlipllahfakaaGreatDoor
open Go.RowKit

/-- the two cells of a type -/
def tyC (t : Int × ByteArray) : List Value := [.int .i64 t.1, .string t.2]
def flatT (ts : List (Int × ByteArray)) : List Value := ts.flatMap tyC
def natT (t : Nat × List UInt8) : Int × ByteArray := ((t.1 : Int), ⟨t.2.toArray⟩)

theorem flatT_length (ts : List (Int × ByteArray)) : (flatT ts).length = ts.length * 2 := by
  induction ts with
  | nil => rfl
  | cons t ts ih => simp only [flatT, List.flatMap_cons, List.length_append, tyC] at *; rw [ih]; simp; omega

theorem flatT_at (ts : List (Int × ByteArray)) (k : Nat) (t : Int × ByteArray) (h : ts[k]? = some t) : (flatT ts)[k * 2]? = some (.int .i64 t.1) ∧ (flatT ts)[k * 2 + 1]? = some (.string t.2) := by
  induction ts generalizing k with
  | nil => simp at h
  | cons u ts ih =>
    have e : flatT (u :: ts) = .int .i64 u.1 :: .string u.2 :: flatT ts := by simp [flatT, tyC]
    rw [e]
    cases k with
    | zero => simp at h; subst h; exact ⟨rfl, rfl⟩
    | succ k =>
      simp at h
      obtain ⟨h1, h2⟩ := ih k h
      rw [show (k + 1) * 2 = k * 2 + 1 + 1 by omega]
      simp only [List.getElem?_cons_succ]
      exact ⟨h1, h2⟩

/-- the value v is a list of types ts in the world w -/
def IsTys (w : World) (v : Value) (ts : List (Int × ByteArray)) : Prop :=
  ∃ ao cap, v = .slice ao ts.length cap ∧ ts.length ≤ cap ∧ cap ≤ maxLen ∧
    (ts ≠ [] → ∃ bk o, ao = some ⟨bk, o, none⟩ ∧ bk < w.heap.size ∧ ∀ k t, ts[k]? = some t → w.cell? ⟨bk, o + k * 2, none⟩ = some (.int .i64 t.1) ∧ w.cell? ⟨bk, o + k * 2 + 1, none⟩ = some (.string t.2))

theorem IsTys.keep {w w' : World} {v : Value} {ts : List (Int × ByteArray)} (h : IsTys w v ts) (hb : Below w.heap.size w w') : IsTys w' v ts := by
  obtain ⟨ao, cap, rfl, h1, h2, h3⟩ := h
  refine ⟨ao, cap, rfl, h1, h2, fun hne => ?_⟩
  obtain ⟨bk, o, e, hlt, hc⟩ := h3 hne
  exact ⟨bk, o, e, Nat.lt_of_lt_of_le hlt hb.size, fun k t hk => ⟨(hb.cell hlt).trans (hc k t hk).1, (hb.cell hlt).trans (hc k t hk).2⟩⟩

theorem own_tys {w : World} {base : Nat} {v : Value} {ts : List (Int × ByteArray)} (h : w.ownsRow base 56 2 v ts.length (flatT ts)) : IsTys w v ts := by
  have h' := h
  rcases h.2 with ⟨rfl, h0⟩ | ⟨g, cap, cur, rfl, hb, hg, hn, hm, _, _⟩
  · have : ts = [] := List.length_eq_zero_iff.1 h0
    subst this
    exact ⟨none, 0, rfl, Nat.le_refl _, by unfold maxLen; omega, fun h => absurd rfl h⟩
  · refine ⟨_, cap, rfl, hn, hm, fun _ => ⟨g, 0, rfl, (Array.getElem?_eq_some_iff.1 hg).1, fun k t hk => ?_⟩⟩
    have hlt : k < ts.length := (List.getElem?_eq_some_iff.1 hk).1
    obtain ⟨e1, e2⟩ := flatT_at ts k t hk
    rw [Nat.zero_add]
    exact ⟨by rw [h'.cellAt (k * 2) (by omega)]; exact e1, by rw [h'.cellAt (k * 2 + 1) (by omega)]; exact e2⟩

/-- the arguments, without fuel -/
def raf (l : List UInt8) : Option (List (Nat × List UInt8) × List UInt8) := readArgs (l.length + 1) l

theorem readArgs_fuel (f : Nat) (l : List UInt8) (h : l.length < f) : readArgs f l = raf l := by
  unfold raf
  generalize hn : l.length = n at *
  induction n using Nat.strongRecOn generalizing f l with
  | _ n ih =>
    cases f with
    | zero => omega
    | succ f =>
      cases l with
      | nil => simp [readArgs]
      | cons c l =>
        rw [readArgs, readArgs]
        split
        · rfl
        · cases e : readT (c :: l) with
          | none => rfl
          | some p =>
            obtain ⟨t, r⟩ := p
            have hr := readT_less e
            simp only
            rw [ih r.length (by omega) f r rfl (by omega), ih r.length (by omega) n r rfl (by omega)]

theorem raf_nil : raf [] = none := rfl
theorem raf_end (l : List UInt8) : raf (41 :: l) = some ([], l) := by simp [raf, readArgs]
theorem raf_step {c : UInt8} {l r : List UInt8} {t : Nat × List UInt8} (hc : c ≠ 41) (h : readT (c :: l) = some (t, r)) : raf (c :: l) = (raf r).map (fun p => (t :: p.1, p.2)) := by
  have hr := readT_less h
  rw [raf, readArgs, if_neg hc, h]
  simp only
  rw [readArgs_fuel _ r (by simpa using hr)]
  cases raf r <;> rfl
theorem raf_bad {c : UInt8} {l : List UInt8} (hc : c ≠ 41) (h : readT (c :: l) = none) : raf (c :: l) = none := by
  rw [raf, readArgs, if_neg hc, h]

/-- what is left of a text once a type was read -/
theorem read_drop {l : List UInt8} {q : Nat} {t : Nat × List UInt8} {r : List UInt8} (h : readT (l.drop q) = some (t, r)) : r = l.drop (l.length - r.length) ∧ q < l.length - r.length ∧ r.length ≤ l.length := by
  have hw := (write_read h).1
  have hl := readT_less h
  rw [List.length_drop] at hl
  refine ⟨?_, by omega, by omega⟩
  have e2 : l = l.take q ++ (writeT t ++ r) := by rw [← hw, List.take_append_drop]
  have e3 : l.length - r.length = (l.take q ++ writeT t).length := by
    have := congrArg List.length e2
    simp only [List.length_append] at this ⊢
    omega
  rw [e3]
  have key : ∀ a b r : List UInt8, (a ++ (b ++ r)).drop ((a ++ b).length) = r := fun a b r => by rw [← List.append_assoc, List.drop_left]
  have k2 := key (l.take q) (writeT t) r
  rw [← e2] at k2
  exact k2.symm

/-- with the opening bracket -/
def argsOf : List UInt8 → Option (List (Nat × List UInt8) × List UInt8)
  | 40 :: r => raf r
  | _ => none

theorem Tryz.info56 : (Tryz.prog.info? 56).map (fun i => (i.zero, i.size, i.bytes)) = some (some (.agg #[.int .i64 0, .string ⟨#[]⟩]), 2, 24) := by kernel_rfl

end Go.Proofs.YtijlipllahfakaaGreatDoor
