/- Methods and classes as rows of cells; the walks of the document's Args (arbiterref02), Words and Find (arbiterref05); what was there before stays. -/
import Derived.Test.YtfbhjfpkhofifaaDoorCodeL
import Derived.Test.YtfbhjfpkhofifaaDoorRefDesc
import Derived.Test.YtfbhjfpkhofifaaDoorFlagsParse
namespace Go.Proofs.YtfbhjfpkhofifaaDoor
open Go.RowKit

/-- a method -/
structure Mth where
  nm : ByteArray
  ds : ByteArray
  fl : Int
  lo : Int
  st : Int
  code : List Ins

/-- a class -/
structure Cls where
  nm : ByteArray
  su : ByteArray
  ifs : List (List UInt8)
  fl : Int
  ld : Int
  ms : List Mth

/-- the six cells of a method at an address -/
def MthAt (w : World) (bk o : Nat) (m : Mth) : Prop :=
  w.cell? ⟨bk, o, none⟩ = some (.string m.nm) ∧ w.cell? ⟨bk, o + 1, none⟩ = some (.string m.ds) ∧ w.cell? ⟨bk, o + 2, none⟩ = some (.int .i64 m.fl) ∧ w.cell? ⟨bk, o + 3, none⟩ = some (.int .i64 m.lo) ∧ w.cell? ⟨bk, o + 4, none⟩ = some (.int .i64 m.st) ∧ ∃ v, w.cell? ⟨bk, o + 5, none⟩ = some v ∧ IsInss w v m.code

theorem MthAt.keep {w w' : World} {bk o : Nat} {m : Mth} (h : MthAt w bk o m) (hb : Below w.heap.size w w') (hlt : bk < w.heap.size) : MthAt w' bk o m := by
  obtain ⟨h0, h1, h2, h3, h4, v, h5, h6⟩ := h
  exact ⟨(hb.cell hlt).trans h0, (hb.cell hlt).trans h1, (hb.cell hlt).trans h2, (hb.cell hlt).trans h3, (hb.cell hlt).trans h4, v, (hb.cell hlt).trans h5, h6.keep hb⟩

/-- the value v is a list of methods l in the world w -/
def IsMths (w : World) (v : Value) (l : List Mth) : Prop :=
  ∃ ao cap, v = .slice ao l.length cap ∧ l.length ≤ cap ∧ cap ≤ maxLen ∧
    (l ≠ [] → ∃ bk o, ao = some ⟨bk, o, none⟩ ∧ bk < w.heap.size ∧ ∀ k m, l[k]? = some m → MthAt w bk (o + k * 6) m)

theorem IsMths.keep {w w' : World} {v : Value} {l : List Mth} (h : IsMths w v l) (hb : Below w.heap.size w w') : IsMths w' v l := by
  obtain ⟨ao, cap, rfl, h1, h2, h3⟩ := h
  refine ⟨ao, cap, rfl, h1, h2, fun hne => ?_⟩
  obtain ⟨bk, o, e, hlt, hc⟩ := h3 hne
  exact ⟨bk, o, e, Nat.lt_of_lt_of_le hlt hb.size, fun k i hk => (hc k i hk).keep hb hlt⟩

def clsV (c : Cls) (vi vm : Value) : Value := .agg #[.string c.nm, .string c.su, vi, .int .i64 c.fl, .int .i64 c.ld, vm]

/-- the place of a method among those from k on -/
def findM (nm ds : ByteArray) : List Mth → Nat → Int
  | [], _ => -1
  | m :: r, k => if (m.nm.toList == nm.toList) && (m.ds.toList == ds.toList) then k else findM nm ds r (k + 1)

theorem findM_at {l : List Mth} {nm ds : ByteArray} (k : Nat) (x : Mth) (h : l[k]? = some x) : findM nm ds (l.drop k) k = if (x.nm.toList == nm.toList) && (x.ds.toList == ds.toList) then (k : Int) else findM nm ds (l.drop (k + 1)) (k + 1) := by
  obtain ⟨h1, h2⟩ := List.getElem?_eq_some_iff.1 h
  rw [List.drop_eq_getElem_cons h1, h2, findM]

end Go.Proofs.YtfbhjfpkhofifaaDoor
