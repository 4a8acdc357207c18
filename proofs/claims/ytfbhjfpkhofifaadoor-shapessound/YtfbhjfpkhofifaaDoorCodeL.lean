/- Walks of the document's answers of layer 4 (arbiterref04): Operand and Decimal: each returns what the plain functions say; what was there before stays. -/
import Derived.Test.YtfbhjfpkhofifaaDoorRefDesc
import Derived.Lib.ItoaNum
import Derived.Lib.ItoaLen
import Derived.Laws.IdiomStrings
import Derived.Deep.RegionWith
namespace Go.Proofs.YtfbhjfpkhofifaaDoor
open Go.RowKit

/-- the kinds of operands, in the order of the instructions' numbers -/
def opdTab : List Int := [-1, 1, 2, 2, 2, 2, 0, 0, 0, 0, 0, 3, 3, 3, 3, 3, 3, 3, 3, 0, 0, 0, 4, 6, 7, 0, 0, 0, 0, 0, 5, 5, 8, 8, 8, 8, 0, 0, 0, 0, 0]
def opdI (op : Int) : Int := if op < 1 ∨ 40 < op then -1 else opdTab.getD op.toNat 0

theorem dec_small {u : Nat} (h : u < 10) : Lib.decDigits u = [UInt8.ofNat (48 + u)] := by rw [Lib.decDigits, dif_pos h]
theorem dec_big {u : Nat} (h : ¬ u < 10) : Lib.decDigits u = Lib.decDigits (u / 10) ++ [UInt8.ofNat (48 + u % 10)] := by rw [Lib.decDigits, dif_neg h]

/-- the digits that are written while v is left of u -/
def decInv (u v : Nat) (l : List UInt8) : Prop := if v = 0 then Lib.decDigits u = l else Lib.decDigits u = Lib.decDigits v ++ l

theorem decInv_step {u v : Nat} {l : List UInt8} (hv : v ≠ 0) (h : decInv u v l) : decInv u (v / 10) (UInt8.ofNat (48 + v % 10) :: l) := by
  unfold decInv at *
  rw [if_neg hv] at h
  by_cases h10 : v < 10
  · have e0 : v / 10 = 0 := by omega
    have e1 : v % 10 = v := by omega
    rw [if_pos e0, h, dec_small h10, e1]; rfl
  · have e0 : v / 10 ≠ 0 := by omega
    rw [if_neg e0, h, dec_big h10]
    simp

theorem decInv_len {u v : Nat} {l : List UInt8} (h : decInv u v l) (hu : u < 18446744073709551616) : l.length ≤ 20 := by
  have h1 := Lib.nDigits_le20 u hu
  have h2 := Lib.decDigits_length u
  unfold decInv at h
  split at h
  · rw [h] at h2; omega
  · rw [h, List.length_append] at h2; omega

end Go.Proofs.YtfbhjfpkhofifaaDoor

namespace Go.Proofs.YtfbhjfpkhofifaaDoor
open Go.RowKit

theorem byte_conv (r : Nat) (hr : r < 10) (w : World) :
    (convert 85 9 (.slice (some ⟨w.heap.size, 0, none⟩) 1 1)).run Tryd.prog (w.alloc (.cells #[.int .u8 (48 + (r : Int))] 5)) = .ok (.string ⟨#[UInt8.ofNat (48 + r)]⟩) (w.alloc (.cells #[.int .u8 (48 + (r : Int))] 5)) := by
  have hm : (UInt8.ofNat (48 + r)).toNat = 48 + r := by simp; omega
  exact run_convert_bytes_back (P := Tryd.prog) (w.alloc (.cells #[.int .u8 (48 + (r : Int))] 5)) 85 9 5 ⟨w.heap.size, 0, none⟩ 1 [UInt8.ofNat (48 + r)] Tryd.underlying85 Tryd.underlying5 Tryd.underlying9 (fun j hj => by
    match j, hj with
    | 0, _ => rw [Addr.add_lit, cell_of_row _ w.heap.size 0 _ 5 (0, 0) (heap_alloc_new w _)]; simp only [List.getElem?_toArray, List.getElem?_cons_zero]; simp; omega)

end Go.Proofs.YtfbhjfpkhofifaaDoor

namespace Go.Proofs.YtfbhjfpkhofifaaDoor
open Go.RowKit

def noRefB (b : Bool) (c n d : ByteArray) : Bool := !b && c.toList.isEmpty && n.toList.isEmpty && d.toList.isEmpty

def sameRefB (b1 : Bool) (c1 n1 d1 : ByteArray) (b2 : Bool) (c2 n2 d2 : ByteArray) : Bool := (b1 == b2) && (c1.toList == c2.toList) && (n1.toList == n2.toList) && (d1.toList == d2.toList)

/-- is a reference sound? -/
def rckB (c n d : List UInt8) : Bool := (prfE c == 0) && memberL n && (pdE d == 0)
def rckE (c n d : List UInt8) : Int := if rckB c n d then 0 else 1

end Go.Proofs.YtfbhjfpkhofifaaDoor

namespace Go.Proofs.YtfbhjfpkhofifaaDoor
open Go.RowKit

theorem prf_len {l : List UInt8} (h : prfE l = 0) : l.length ≤ 2000 := by
  by_cases h1 : 2000 < l.length
  · rw [prfE, if_pos h1] at h; exact absurd h (by decide)
  · omega
theorem pd_len {l : List UInt8} (h : pdE l = 0) : l.length ≤ 2000 := by
  by_cases h1 : 2000 < l.length
  · rw [pdE, if_pos h1] at h; exact absurd h (by decide)
  · omega
theorem member_len {l : List UInt8} (h : memberL l = true) : l.length ≤ 60 := by
  unfold memberL at h
  simp only [Bool.or_eq_true, Bool.and_eq_true, decide_eq_true_eq, beq_iff_eq] at h
  rcases h with h | h
  · rw [h]; decide
  · exact h.1

theorem rck_len {c n d : List UInt8} (h : rckB c n d = true) : c.length ≤ 2000 ∧ n.length ≤ 60 ∧ d.length ≤ 2000 := by
  unfold rckB at h
  simp only [Bool.and_eq_true, beq_iff_eq] at h
  exact ⟨prf_len h.1.1, member_len h.1.2, pd_len h.2⟩

/-- a reference's text -/
def rtxL (b : Bool) (c n d : List UInt8) : List UInt8 := if rckB c n d then c ++ (if b then 58 else 46) :: (n ++ d) else []

end Go.Proofs.YtfbhjfpkhofifaaDoor

namespace Go.Proofs.YtfbhjfpkhofifaaDoor
open Go.RowKit

theorem opd_cases (op : Int) : opdI op = -1 ∨ opdI op = 0 ∨ opdI op = 1 ∨ opdI op = 2 ∨ opdI op = 3 ∨ opdI op = 4 ∨ opdI op = 5 ∨ opdI op = 6 ∨ opdI op = 7 ∨ opdI op = 8 := by
  by_cases h : op < 1 ∨ 40 < op
  · left; rw [opdI, if_pos h]
  · have hx : ∀ k : Fin 41, (opdTab.getD k.1 0 = -1 ∨ opdTab.getD k.1 0 = 0 ∨ opdTab.getD k.1 0 = 1 ∨ opdTab.getD k.1 0 = 2 ∨ opdTab.getD k.1 0 = 3 ∨ opdTab.getD k.1 0 = 4 ∨ opdTab.getD k.1 0 = 5 ∨ opdTab.getD k.1 0 = 6 ∨ opdTab.getD k.1 0 = 7 ∨ opdTab.getD k.1 0 = 8) := by decide
    have := hx ⟨op.toNat, by omega⟩
    rw [opdI, if_neg h]
    exact this

/-- is an instruction sound? k: the kind of its operand, z: is its reference the zero one? -/
def insB (k n : Int) (te : Bool) (t : List UInt8) (z r : Bool) : Bool :=
  if k = 0 then z && (n == 0) && te
  else if k = 1 then z && te && decide (-2147483648 ≤ n) && decide (n ≤ 2147483647)
  else if k = 2 then z && te && decide (0 ≤ n) && decide (n < 40)
  else if k = 3 then z && te && decide (0 ≤ n) && decide (n < 200)
  else if k = 4 then z && (n == 0) && validL t
  else if k = 5 then z && (n == 0) && (prfE t == 0)
  else if k = 6 then z && (n == 0) && (parE t == 0) && decide ((parT t).1 < 255)
  else if k = 7 then z && (prfE t == 0) && decide (1 ≤ n) && decide (n ≤ (prfT t).1)
  else if k = 8 then (n == 0) && te && r
  else false

def ickE (op n : Int) (t : ByteArray) (b : Bool) (c m d : ByteArray) : Int := if insB (opdI op) n t.toList.isEmpty t.data.toList (noRefB b c m d) (rckB c.data.toList m.data.toList d.data.toList) then 0 else 1

end Go.Proofs.YtfbhjfpkhofifaaDoor

namespace Go.Proofs.YtfbhjfpkhofifaaDoor
open Go.RowKit

/-- an instruction -/
structure Ins where
  op : Int
  n : Int
  t : ByteArray
  b : Bool
  c : ByteArray
  m : ByteArray
  d : ByteArray

def insC (i : Ins) : List Value := [.int .i64 i.op, .int .i64 i.n, .string i.t, .bool i.b, .string i.c, .string i.m, .string i.d]
def insV (i : Ins) : Value := .agg (insC i).toArray
def flatI (l : List Ins) : List Value := l.flatMap insC

theorem flatI_length (l : List Ins) : (flatI l).length = l.length * 7 := by
  induction l with
  | nil => rfl
  | cons t ts ih => simp only [flatI, List.flatMap_cons, List.length_append, insC] at *; rw [ih]; simp; omega

theorem flatI_at (l : List Ins) (k : Nat) (i : Ins) (h : l[k]? = some i) : (flatI l)[k * 7]? = some (.int .i64 i.op) ∧ (flatI l)[k * 7 + 1]? = some (.int .i64 i.n) ∧ (flatI l)[k * 7 + 2]? = some (.string i.t) ∧ (flatI l)[k * 7 + 3]? = some (.bool i.b) ∧ (flatI l)[k * 7 + 4]? = some (.string i.c) ∧ (flatI l)[k * 7 + 5]? = some (.string i.m) ∧ (flatI l)[k * 7 + 6]? = some (.string i.d) := by
  induction l generalizing k with
  | nil => simp at h
  | cons u ts ih =>
    have e : flatI (u :: ts) = .int .i64 u.op :: .int .i64 u.n :: .string u.t :: .bool u.b :: .string u.c :: .string u.m :: .string u.d :: flatI ts := by simp [flatI, insC]
    rw [e]
    cases k with
    | zero => simp at h; subst h; exact ⟨rfl, rfl, rfl, rfl, rfl, rfl, rfl⟩
    | succ k =>
      simp at h
      have := ih k h
      rw [show (k + 1) * 7 = k * 7 + 1 + 1 + 1 + 1 + 1 + 1 + 1 by omega, show k * 7 + 1 + 1 + 1 + 1 + 1 + 1 + 1 + 1 = k * 7 + 1 + 1 + 1 + 1 + 1 + 1 + 1 + 1 by rfl]
      simp only [show ∀ j, k * 7 + 1 + 1 + 1 + 1 + 1 + 1 + 1 + j = k * 7 + j + 1 + 1 + 1 + 1 + 1 + 1 + 1 from fun j => by omega, List.getElem?_cons_succ]
      exact this

/-- the seven cells of an instruction at an address -/
def InsAt (w : World) (bk o : Nat) (i : Ins) : Prop :=
  w.cell? ⟨bk, o, none⟩ = some (.int .i64 i.op) ∧ w.cell? ⟨bk, o + 1, none⟩ = some (.int .i64 i.n) ∧ w.cell? ⟨bk, o + 2, none⟩ = some (.string i.t) ∧ w.cell? ⟨bk, o + 3, none⟩ = some (.bool i.b) ∧ w.cell? ⟨bk, o + 4, none⟩ = some (.string i.c) ∧ w.cell? ⟨bk, o + 5, none⟩ = some (.string i.m) ∧ w.cell? ⟨bk, o + 6, none⟩ = some (.string i.d)

theorem InsAt.keep {w w' : World} {N bk o : Nat} {i : Ins} (h : InsAt w bk o i) (hb : Below N w w') (hlt : bk < N) : InsAt w' bk o i :=
  ⟨(hb.cell hlt).trans h.1, (hb.cell hlt).trans h.2.1, (hb.cell hlt).trans h.2.2.1, (hb.cell hlt).trans h.2.2.2.1, (hb.cell hlt).trans h.2.2.2.2.1, (hb.cell hlt).trans h.2.2.2.2.2.1, (hb.cell hlt).trans h.2.2.2.2.2.2⟩

/-- the value v is a list of instructions l in the world w -/
def IsInss (w : World) (v : Value) (l : List Ins) : Prop :=
  ∃ ao cap, v = .slice ao l.length cap ∧ l.length ≤ cap ∧ cap ≤ maxLen ∧
    (l ≠ [] → ∃ bk o, ao = some ⟨bk, o, none⟩ ∧ bk < w.heap.size ∧ ∀ k i, l[k]? = some i → InsAt w bk (o + k * 7) i)

theorem IsInss.keep {w w' : World} {v : Value} {l : List Ins} (h : IsInss w v l) (hb : Below w.heap.size w w') : IsInss w' v l := by
  obtain ⟨ao, cap, rfl, h1, h2, h3⟩ := h
  refine ⟨ao, cap, rfl, h1, h2, fun hne => ?_⟩
  obtain ⟨bk, o, e, hlt, hc⟩ := h3 hne
  exact ⟨bk, o, e, Nat.lt_of_lt_of_le hlt hb.size, fun k i hk => (hc k i hk).keep hb hlt⟩

def sameI (a b : Ins) : Bool := (a.op == b.op) && (a.n == b.n) && (a.t.toList == b.t.toList) && sameRefB a.b a.c a.m a.d b.b b.c b.m b.d
def sameL : List Ins → List Ins → Bool
  | [], [] => true
  | x :: a, y :: b => sameI x y && sameL a b
  | _, _ => false

theorem sameL_len {a b : List Ins} (h : a.length ≠ b.length) : sameL a b = false := by
  induction a generalizing b with
  | nil => cases b with
    | nil => exact absurd rfl h
    | cons y b => rfl
  | cons x a ih => cases b with
    | nil => rfl
    | cons y b => rw [sameL, ih (fun e => h (by simp [e]))]; simp

theorem sameL_at {a b : List Ins} (k : Nat) (x y : Ins) (ha : a[k]? = some x) (hb : b[k]? = some y) : sameL (a.drop k) (b.drop k) = (sameI x y && sameL (a.drop (k + 1)) (b.drop (k + 1))) := by
  obtain ⟨h1, h2⟩ := List.getElem?_eq_some_iff.1 ha
  obtain ⟨h3, h4⟩ := List.getElem?_eq_some_iff.1 hb
  rw [List.drop_eq_getElem_cons h1, List.drop_eq_getElem_cons h3, h2, h4, sameL]

end Go.Proofs.YtfbhjfpkhofifaaDoor

namespace Go.Proofs.YtfbhjfpkhofifaaDoor
open Go.RowKit

def ickI (i : Ins) : Int := ickE i.op i.n i.t i.b i.c i.m i.d
/-- is an instruction out of place among len instructions? -/
def badI (locals len : Int) (i : Ins) : Bool := (ickI i != 0) || ((opdI i.op == 2) && decide (locals ≤ i.n)) || ((opdI i.op == 3) && decide (len ≤ i.n))
def allE (l : List Ins) (locals : Int) : Int := if l.length < 1 ∨ 200 < l.length then 1 else if l.any (badI locals l.length) then 1 else 0

/-- the texts of an instruction are not too long to be walked -/
def InsOK (i : Ins) : Prop := i.t.size ≤ maxLen ∧ i.c.size ≤ maxLen ∧ i.m.size ≤ maxLen ∧ i.d.size ≤ maxLen

theorem any_at {l : List Ins} {p : Ins → Bool} (k : Nat) (x : Ins) (h : l[k]? = some x) : (l.drop k).any p = (p x || (l.drop (k + 1)).any p) := by
  obtain ⟨h1, h2⟩ := List.getElem?_eq_some_iff.1 h
  rw [List.drop_eq_getElem_cons h1, h2, List.any_cons]

theorem ick_01 (op n : Int) (t : ByteArray) (b : Bool) (c m d : ByteArray) : ickE op n t b c m d = 0 ∨ ickE op n t b c m d = 1 := by
  unfold ickE; split <;> simp

end Go.Proofs.YtfbhjfpkhofifaaDoor

