/- Lists of instructions as rows of seven cells; the walks of the document's SameCode and CheckAll (arbiterref04); what was there before stays. -/
import Derived.Test.YtijlipllahfakaaGreatDoorCodeE
import Derived.Deep.RegionWith
namespace Go.Proofs.YtijlipllahfakaaGreatDoor
open Go.RowKit

/-- an instruction -/
structure Ins where
  op : Int
  n : Int
  t : ByteArray
  b : Bool
  c : ByteArray
  m : ByteArray
  d : ByteArray

def insC (i : Ins) : List Value := [.int .i64 i.op, .int .i64 i.n, .string i.t, .bool i.b, .string i.c, .string i.m, .string i.d]
def insV (i : Ins) : Value := .agg (insC i).toArray
def flatI (l : List Ins) : List Value := l.flatMap insC

theorem flatI_length (l : List Ins) : (flatI l).length = l.length * 7 := by
  induction l with
  | nil => rfl
  | cons t ts ih => simp only [flatI, List.flatMap_cons, List.length_append, insC] at *; rw [ih]; simp; omega

theorem flatI_at (l : List Ins) (k : Nat) (i : Ins) (h : l[k]? = some i) : (flatI l)[k * 7]? = some (.int .i64 i.op) ∧ (flatI l)[k * 7 + 1]? = some (.int .i64 i.n) ∧ (flatI l)[k * 7 + 2]? = some (.string i.t) ∧ (flatI l)[k * 7 + 3]? = some (.bool i.b) ∧ (flatI l)[k * 7 + 4]? = some (.string i.c) ∧ (flatI l)[k * 7 + 5]? = some (.string i.m) ∧ (flatI l)[k * 7 + 6]? = some (.string i.d) := by
  induction l generalizing k with
  | nil => simp at h
  | cons u ts ih =>
    have e : flatI (u :: ts) = .int .i64 u.op :: .int .i64 u.n :: .string u.t :: .bool u.b :: .string u.c :: .string u.m :: .string u.d :: flatI ts := by simp [flatI, insC]
    rw [e]
    cases k with
    | zero => simp at h; subst h; exact ⟨rfl, rfl, rfl, rfl, rfl, rfl, rfl⟩
    | succ k =>
      simp at h
      have := ih k h
      rw [show (k + 1) * 7 = k * 7 + 1 + 1 + 1 + 1 + 1 + 1 + 1 by omega, show k * 7 + 1 + 1 + 1 + 1 + 1 + 1 + 1 + 1 = k * 7 + 1 + 1 + 1 + 1 + 1 + 1 + 1 + 1 by rfl]
      simp only [show ∀ j, k * 7 + 1 + 1 + 1 + 1 + 1 + 1 + 1 + j = k * 7 + j + 1 + 1 + 1 + 1 + 1 + 1 + 1 from fun j => by omega, List.getElem?_cons_succ]
      exact this

/-- the seven cells of an instruction at an address -/
def InsAt (w : World) (bk o : Nat) (i : Ins) : Prop :=
  w.cell? ⟨bk, o, none⟩ = some (.int .i64 i.op) ∧ w.cell? ⟨bk, o + 1, none⟩ = some (.int .i64 i.n) ∧ w.cell? ⟨bk, o + 2, none⟩ = some (.string i.t) ∧ w.cell? ⟨bk, o + 3, none⟩ = some (.bool i.b) ∧ w.cell? ⟨bk, o + 4, none⟩ = some (.string i.c) ∧ w.cell? ⟨bk, o + 5, none⟩ = some (.string i.m) ∧ w.cell? ⟨bk, o + 6, none⟩ = some (.string i.d)

theorem InsAt.keep {w w' : World} {N bk o : Nat} {i : Ins} (h : InsAt w bk o i) (hb : Below N w w') (hlt : bk < N) : InsAt w' bk o i :=
  ⟨(hb.cell hlt).trans h.1, (hb.cell hlt).trans h.2.1, (hb.cell hlt).trans h.2.2.1, (hb.cell hlt).trans h.2.2.2.1, (hb.cell hlt).trans h.2.2.2.2.1, (hb.cell hlt).trans h.2.2.2.2.2.1, (hb.cell hlt).trans h.2.2.2.2.2.2⟩

/-- the value v is a list of instructions l in the world w -/
def IsInss (w : World) (v : Value) (l : List Ins) : Prop :=
  ∃ ao cap, v = .slice ao l.length cap ∧ l.length ≤ cap ∧ cap ≤ maxLen ∧
    (l ≠ [] → ∃ bk o, ao = some ⟨bk, o, none⟩ ∧ bk < w.heap.size ∧ ∀ k i, l[k]? = some i → InsAt w bk (o + k * 7) i)

theorem IsInss.keep {w w' : World} {v : Value} {l : List Ins} (h : IsInss w v l) (hb : Below w.heap.size w w') : IsInss w' v l := by
  obtain ⟨ao, cap, rfl, h1, h2, h3⟩ := h
  refine ⟨ao, cap, rfl, h1, h2, fun hne => ?_⟩
  obtain ⟨bk, o, e, hlt, hc⟩ := h3 hne
  exact ⟨bk, o, e, Nat.lt_of_lt_of_le hlt hb.size, fun k i hk => (hc k i hk).keep hb hlt⟩

def sameI (a b : Ins) : Bool := (a.op == b.op) && (a.n == b.n) && (a.t.toList == b.t.toList) && sameRefB a.b a.c a.m a.d b.b b.c b.m b.d
def sameL : List Ins → List Ins → Bool
  | [], [] => true
  | x :: a, y :: b => sameI x y && sameL a b
  | _, _ => false

theorem sameL_len {a b : List Ins} (h : a.length ≠ b.length) : sameL a b = false := by
  induction a generalizing b with
  | nil => cases b with
    | nil => exact absurd rfl h
    | cons y b => rfl
  | cons x a ih => cases b with
    | nil => rfl
    | cons y b => rw [sameL, ih (fun e => h (by simp [e]))]; simp

theorem sameL_at {a b : List Ins} (k : Nat) (x y : Ins) (ha : a[k]? = some x) (hb : b[k]? = some y) : sameL (a.drop k) (b.drop k) = (sameI x y && sameL (a.drop (k + 1)) (b.drop (k + 1))) := by
  obtain ⟨h1, h2⟩ := List.getElem?_eq_some_iff.1 ha
  obtain ⟨h3, h4⟩ := List.getElem?_eq_some_iff.1 hb
  rw [List.drop_eq_getElem_cons h1, List.drop_eq_getElem_cons h3, h2, h4, sameL]

end Go.Proofs.YtijlipllahfakaaGreatDoor

namespace Go.Proofs.YtijlipllahfakaaGreatDoor
open Go.RowKit

def ickI (i : Ins) : Int := ickE i.op i.n i.t i.b i.c i.m i.d
/-- is an instruction out of place among len instructions? -/
def badI (locals len : Int) (i : Ins) : Bool := (ickI i != 0) || ((opdI i.op == 2) && decide (locals ≤ i.n)) || ((opdI i.op == 3) && decide (len ≤ i.n))
def allE (l : List Ins) (locals : Int) : Int := if l.length < 1 ∨ 200 < l.length then 1 else if l.any (badI locals l.length) then 1 else 0

/-- the texts of an instruction are not too long to be walked -/
def InsOK (i : Ins) : Prop := i.t.size ≤ maxLen ∧ i.c.size ≤ maxLen ∧ i.m.size ≤ maxLen ∧ i.d.size ≤ maxLen

theorem any_at {l : List Ins} {p : Ins → Bool} (k : Nat) (x : Ins) (h : l[k]? = some x) : (l.drop k).any p = (p x || (l.drop (k + 1)).any p) := by
  obtain ⟨h1, h2⟩ := List.getElem?_eq_some_iff.1 h
  rw [List.drop_eq_getElem_cons h1, h2, List.any_cons]

theorem ick_01 (op n : Int) (t : ByteArray) (b : Bool) (c m d : ByteArray) : ickE op n t b c m d = 0 ∨ ickE op n t b c m d = 1 := by
  unfold ickE; split <;> simp

end Go.Proofs.YtijlipllahfakaaGreatDoor

