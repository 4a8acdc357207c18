/- Walks of the document's answers of layer 3 (arbiterref03) that take flags: Has, known, CheckClass, CheckMethod, Open: each returns what the plain functions say. -/
import Derived.Test.YtfbhjfpkhofifaaDoorRows
import Derived.Test.YtfbhjfpkhofifaaDoorFlagsRead
import Derived.WalkKit
import Derived.WalkSpells
import Derived.WalkLawsBesides
import Derived.Lib.Walk
namespace Go.Proofs.YtfbhjfpkhofifaaDoor
open Go.RowKit

theorem fret_bool {a b : Bool} (h : a = b) : Ending.returned (.bool a) = .returned (.bool b) := by rw [h]
theorem fret_int {k : IntKind} {a b : Int} (h : a = b) : Ending.returned (.int k a) = .returned (.int k b) := by rw [h]
theorem fbytes_ext {a b : ByteArray} (h : a.data.toList = b.data.toList) : a = b := by
  obtain ⟨⟨x⟩⟩ := a; obtain ⟨⟨y⟩⟩ := b; simp at h; rw [h]
theorem fmk_size (b : List UInt8) : (⟨b.toArray⟩ : ByteArray).size = b.length := by show b.toArray.size = _; simp
theorem Below.fstep {w w1 w2 : World} (h1 : Below w.heap.size w w1) (h2 : Below w1.heap.size w1 w2) : Below w.heap.size w w2 := h1.trans (h2.mono h1.size)

/-- the value v is a list of one-cell values xs in the world w -/
def IsRow (w : World) (v : Value) (xs : List Value) : Prop :=
  ∃ bk o cap, v = .slice (some ⟨bk, o, none⟩) xs.length cap ∧ xs.length ≤ cap ∧ cap ≤ maxLen ∧ bk < w.heap.size ∧ ∀ k x, xs[k]? = some x → w.cell? ⟨bk, o + k, none⟩ = some x

theorem IsRow.keep {w w' : World} {v : Value} {xs : List Value} (h : IsRow w v xs) (hb : Below w.heap.size w w') : IsRow w' v xs := by
  obtain ⟨bk, o, cap, rfl, h1, h2, h3, h4⟩ := h
  exact ⟨bk, o, cap, rfl, h1, h2, Nat.lt_of_lt_of_le h3 hb.size, fun k x hk => (hb.cell h3).trans (h4 k x hk)⟩

theorem row_new (w : World) (xs : Array Value) (t : TypeId) (hl : xs.size ≤ maxLen) : IsRow (w.alloc (.cells xs t)) (.slice (some ⟨w.heap.size, 0, none⟩) xs.size xs.size) xs.toList := by
  refine ⟨w.heap.size, 0, xs.size, by simp, by simp, hl, by simp, fun k x hk => ?_⟩
  rw [Nat.zero_add, cell_of_row _ w.heap.size k _ t (0, 0) (heap_alloc_new w _)]
  simpa using hk

def intV (x : Int) : Value := .int .i64 x
def txtV (l : List UInt8) : Value := .string ⟨l.toArray⟩

theorem known_append (f : Int) (a b : List Int) : knownI f (a ++ b) = knownI f a + knownI f b := by
  induction a with
  | nil => simp [knownI]
  | cons x a ih => simp only [List.cons_append, knownI, ih]; omega

theorem known_step (f : Int) (fl : List Int) (i : Nat) (x : Int) (h : fl[i]? = some x) : knownI f (fl.take (i + 1)) = knownI f (fl.take i) + (if hasI f x then x else 0) := by
  have hlt : i < fl.length := (List.getElem?_eq_some_iff.1 h).1
  rw [List.take_succ_eq_append_getElem hlt, known_append]
  rw [List.getElem?_eq_getElem hlt] at h
  rw [Option.some.inj h]
  simp [knownI]

theorem known_bounds (f : Int) (fl : List Int) (hb : ∀ x ∈ fl, 0 ≤ x ∧ x ≤ 2048) : 0 ≤ knownI f fl ∧ knownI f fl ≤ 2048 * fl.length := by
  induction fl with
  | nil => simp [knownI]
  | cons x l ih =>
    obtain ⟨h1, h2⟩ := ih (fun y hy => hb y (List.mem_cons_of_mem _ hy))
    have := hb x (List.mem_cons_self ..)
    simp only [knownI, List.length_cons]
    split <;> omega

/-- CheckClass, CheckMethod, Open -/
def chkC (f : Int) : Int := if !onlyB f clsP then 1 else if hasI f 512 && (!hasI f 1024 || hasI f 16 || hasI f 32) then 1 else if hasI f 16 && hasI f 1024 then 1 else 0
/-- how many of public, private, protected -/
def visN (f : Int) : Nat := (if hasI f 1 then 1 else 0) + (if hasI f 2 then 1 else 0) + (if hasI f 4 then 1 else 0)
def chkM (f : Int) (iface ini : Bool) : Int := if !onlyB f mthP then 1 else if decide (1 < visN f) then 1 else if hasI f 1024 && (hasI f 2 || hasI f 8 || hasI f 16) then 1
  else if iface && (hasI f 4 || hasI f 16 || decide (visN f = 0) || ini) then 1 else if ini && (hasI f 8 || hasI f 16 || hasI f 1024) then 1 else 0
def openI (f : Int) : Int := if hasI f 1 then 1 else if hasI f 4 then 4 else if hasI f 2 then 2 else 0

theorem small_cls : ∀ x ∈ flagsOf clsP, 0 ≤ x ∧ x ≤ 2048 := by decide
theorem small_mth : ∀ x ∈ flagsOf mthP, 0 ≤ x ∧ x ≤ 2048 := by decide

end Go.Proofs.YtfbhjfpkhofifaaDoor
