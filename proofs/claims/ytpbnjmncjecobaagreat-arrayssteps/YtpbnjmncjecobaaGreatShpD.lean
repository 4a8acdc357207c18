/- The walk of the document's Check (arbiterref05): is a class sound? What was there before stays. -/
import Derived.Test.YtpbnjmncjecobaaGreatRows
import Derived.Test.YtpbnjmncjecobaaGreatFlagsRead
import Derived.Test.YtpbnjmncjecobaaGreatCodeL
import Derived.Test.YtpbnjmncjecobaaGreatRefDesc
import Derived.WalkKit
import Derived.WalkSpells
import Derived.WalkLawsBesides
import Derived.Lib.Walk
import Derived.Lib.PathFns
import Derived.Deep.LoopGhost
import Derived.Deep.RegionWith
import Derived.Deep.QuietTactic
import Derived.BigQuiet
namespace Go.Proofs.YtpbnjmncjecobaaGreat
open Go.RowKit

theorem fret_bool {a b : Bool} (h : a = b) : Ending.returned (.bool a) = .returned (.bool b) := by rw [h]
theorem fret_int {k : IntKind} {a b : Int} (h : a = b) : Ending.returned (.int k a) = .returned (.int k b) := by rw [h]
/-- CheckClass, CheckMethod, Open -/
def chkC (f : Int) : Int := if !onlyB f clsP then 1 else if hasI f 512 && (!hasI f 1024 || hasI f 16 || hasI f 32) then 1 else if hasI f 16 && hasI f 1024 then 1 else 0
/-- how many of public, private, protected -/
def visN (f : Int) : Nat := (if hasI f 1 then 1 else 0) + (if hasI f 2 then 1 else 0) + (if hasI f 4 then 1 else 0)
def chkM (f : Int) (iface ini : Bool) : Int := if !onlyB f mthP then 1 else if decide (1 < visN f) then 1 else if hasI f 1024 && (hasI f 2 || hasI f 8 || hasI f 16) then 1
  else if iface && (hasI f 4 || hasI f 16 || decide (visN f = 0) || ini) then 1 else if ini && (hasI f 8 || hasI f 16 || hasI f 1024) then 1 else 0






/-- a method -/
structure Mth where
  nm : ByteArray
  ds : ByteArray
  fl : Int
  lo : Int
  st : Int
  code : List Ins

/-- a class -/
structure Cls where
  nm : ByteArray
  su : ByteArray
  ifs : List (List UInt8)
  fl : Int
  ld : Int
  ms : List Mth

/-- the six cells of a method at an address -/
def MthAt (w : World) (bk o : Nat) (m : Mth) : Prop :=
  w.cell? ⟨bk, o, none⟩ = some (.string m.nm) ∧ w.cell? ⟨bk, o + 1, none⟩ = some (.string m.ds) ∧ w.cell? ⟨bk, o + 2, none⟩ = some (.int .i64 m.fl) ∧ w.cell? ⟨bk, o + 3, none⟩ = some (.int .i64 m.lo) ∧ w.cell? ⟨bk, o + 4, none⟩ = some (.int .i64 m.st) ∧ ∃ v, w.cell? ⟨bk, o + 5, none⟩ = some v ∧ IsInss w v m.code

theorem MthAt.keep {w w' : World} {bk o : Nat} {m : Mth} (h : MthAt w bk o m) (hb : Below w.heap.size w w') (hlt : bk < w.heap.size) : MthAt w' bk o m := by
  obtain ⟨h0, h1, h2, h3, h4, v, h5, h6⟩ := h
  exact ⟨(hb.cell hlt).trans h0, (hb.cell hlt).trans h1, (hb.cell hlt).trans h2, (hb.cell hlt).trans h3, (hb.cell hlt).trans h4, v, (hb.cell hlt).trans h5, h6.keep hb⟩

/-- the value v is a list of methods l in the world w -/
def IsMths (w : World) (v : Value) (l : List Mth) : Prop :=
  ∃ ao cap, v = .slice ao l.length cap ∧ l.length ≤ cap ∧ cap ≤ maxLen ∧
    (l ≠ [] → ∃ bk o, ao = some ⟨bk, o, none⟩ ∧ bk < w.heap.size ∧ ∀ k m, l[k]? = some m → MthAt w bk (o + k * 6) m)

theorem IsMths.keep {w w' : World} {v : Value} {l : List Mth} (h : IsMths w v l) (hb : Below w.heap.size w w') : IsMths w' v l := by
  obtain ⟨ao, cap, rfl, h1, h2, h3⟩ := h
  refine ⟨ao, cap, rfl, h1, h2, fun hne => ?_⟩
  obtain ⟨bk, o, e, hlt, hc⟩ := h3 hne
  exact ⟨bk, o, e, Nat.lt_of_lt_of_le hlt hb.size, fun k i hk => (hc k i hk).keep hb hlt⟩

def clsV (c : Cls) (vi vm : Value) : Value := .agg #[.string c.nm, .string c.su, vi, .int .i64 c.fl, .int .i64 c.ld, vm]

/-- the place of a method among those from k on -/
def findM (nm ds : ByteArray) : List Mth → Nat → Int
  | [], _ => -1
  | m :: r, k => if (m.nm.toList == nm.toList) && (m.ds.toList == ds.toList) then k else findM nm ds r (k + 1)

theorem findM_at {l : List Mth} {nm ds : ByteArray} (k : Nat) (x : Mth) (h : l[k]? = some x) : findM nm ds (l.drop k) k = if (x.nm.toList == nm.toList) && (x.ds.toList == ds.toList) then (k : Int) else findM nm ds (l.drop (k + 1)) (k + 1) := by
  obtain ⟨h1, h2⟩ := List.getElem?_eq_some_iff.1 h
  rw [List.drop_eq_getElem_cons h1, h2, findM]



theorem pdD_len (l : List UInt8) : (pdD l).1.length ≤ 20 := by
  unfold pdD
  split
  · rename_i h
    unfold pdE at h
    split at h
    · exact absurd h (by decide)
    · split at h
      · exact absurd h (by decide)
      · rename_i d hd
        split at h
        · exact absurd h (by decide)
        · rename_i hg
          simp only [largeD, Bool.not_eq_true, Bool.or_eq_false_iff, decide_eq_false_iff_not] at hg
          rw [hd]
          have := hg.1.1
          simp only [Option.getD_some]
          omega
  · simp

/-- how many locals a method's arguments take, and the error beside it -/
def wdsN (ds : List UInt8) (fl : Int) : Int := if pdE ds = 0 then ((pdD ds).1.length : Int) + (if hasI fl 8 then 0 else 1) else 0
def wdsE (ds : List UInt8) : Int := if pdE ds = 0 then 0 else 1



/-- is a method sound in a class? -/
def mthB (m : Mth) (iface : Bool) : Bool :=
  memberL m.nm.data.toList && (chkM m.fl iface (m.nm.toList == [60, 105, 110, 105, 116, 62]) == 0) && (pdE m.ds.data.toList == 0) && !((m.nm.toList == [60, 105, 110, 105, 116, 62]) && !voidB (pdD m.ds.data.toList).2) &&
    (if hasI m.fl 1024 then (m.lo == 0) && (m.st == 0) && ((m.code.length : Int) == 0)
     else !decide (m.st < 0) && !decide (40 < m.st) && !decide (m.lo < wdsN m.ds.data.toList m.fl) && !decide (40 < m.lo) && (allE m.code m.lo == 0))



/-- are the interfaces of a class valid, none of them the class, none twice? (behind those of pre) -/
def ifsB (nm : List UInt8) : List (List UInt8) → List (List UInt8) → Bool
  | _, [] => true
  | pre, p :: r => validL p && !(p == nm) && !(pre.contains p) && ifsB nm (pre ++ [p]) r
theorem ifsB_at (nm : List UInt8) {l : List (List UInt8)} (k : Nat) (p : List UInt8) (h : l[k]? = some p) : ifsB nm (l.take k) (l.drop k) = (validL p && !(p == nm) && !((l.take k).contains p) && ifsB nm (l.take (k + 1)) (l.drop (k + 1))) := by
  obtain ⟨h1, h2⟩ := List.getElem?_eq_some_iff.1 h
  rw [List.drop_eq_getElem_cons h1, h2, ifsB, List.take_add_one, h]; rfl
/-- the six cells of a class at a block -/
def CB (w : World) (b : Nat) (nm su : ByteArray) (vi : Value) (fl ld : Int) (vm : Value) : Prop :=
  b < w.heap.size ∧ w.cell? ⟨b, 0, none⟩ = some (.string nm) ∧ w.cell? ⟨b, 1, none⟩ = some (.string su) ∧ w.cell? ⟨b, 2, none⟩ = some vi ∧ w.cell? ⟨b, 3, none⟩ = some (.int .i64 fl) ∧ w.cell? ⟨b, 4, none⟩ = some (.int .i64 ld) ∧ w.cell? ⟨b, 5, none⟩ = some vm
theorem CB.keep {w w' : World} {b : Nat} {nm su : ByteArray} {vi : Value} {fl ld : Int} {vm : Value} (h : CB w b nm su vi fl ld vm) (hb : Below w.heap.size w w') : CB w' b nm su vi fl ld vm := by
  obtain ⟨h, h0, h1, h2, h3, h4, h5⟩ := h
  exact ⟨Nat.lt_of_lt_of_le h hb.size, (hb.cell h).trans h0, (hb.cell h).trans h1, (hb.cell h).trans h2, (hb.cell h).trans h3, (hb.cell h).trans h4, (hb.cell h).trans h5⟩
/-- are the methods from the place k on sound, and each found at its place? -/
def mthsB (iface : Bool) (all : List Mth) : List Mth → Nat → Bool
  | [], _ => true
  | m :: r, k => mthB m iface && (findM m.nm m.ds all 0 == (k : Int)) && mthsB iface all r (k + 1)
theorem mthsB_at (iface : Bool) (all : List Mth) {l : List Mth} (k : Nat) (x : Mth) (h : l[k]? = some x) : mthsB iface all (l.drop k) k = (mthB x iface && (findM x.nm x.ds all 0 == (k : Int)) && mthsB iface all (l.drop (k + 1)) (k + 1)) := by
  obtain ⟨h1, h2⟩ := List.getElem?_eq_some_iff.1 h
  rw [List.drop_eq_getElem_cons h1, h2, mthsB]
/-- is a class sound? -/
def clsB (c : Cls) : Bool :=
  validL c.nm.data.toList && validL c.su.data.toList && !(c.nm.toList == c.su.toList) && !decide (20 < (c.ifs.length : Int)) && !decide (40 < (c.ms.length : Int)) && !decide (c.ld < 0) && !decide (9 < c.ld) && (chkC c.fl == 0) &&
    ifsB c.nm.data.toList [] c.ifs && mthsB (hasI c.fl 512) c.ms c.ms 0
def clsE (c : Cls) : Int := if clsB c then 0 else 1

/-- the texts of a method, of a class are not too long to be walked -/
def MthOK (m : Mth) : Prop := m.nm.size ≤ maxLen ∧ m.ds.size ≤ maxLen ∧ ∀ i ∈ m.code, InsOK i

end Go.Proofs.YtpbnjmncjecobaaGreat
