/- The walks of the document's Args (arbiterref02), Words and method (arbiterref05); what was there before stays. -/
import Derived.Test.YtfbhjfpkhofifaaDoorShpA
namespace Go.Proofs.YtfbhjfpkhofifaaDoor
open Go.RowKit

theorem pdD_len (l : List UInt8) : (pdD l).1.length ≤ 20 := by
  unfold pdD
  split
  · rename_i h
    unfold pdE at h
    split at h
    · exact absurd h (by decide)
    · split at h
      · exact absurd h (by decide)
      · rename_i d hd
        split at h
        · exact absurd h (by decide)
        · rename_i hg
          simp only [largeD, Bool.not_eq_true, Bool.or_eq_false_iff, decide_eq_false_iff_not] at hg
          rw [hd]
          have := hg.1.1
          simp only [Option.getD_some]
          omega
  · simp

/-- how many locals a method's arguments take, and the error beside it -/
def wdsN (ds : List UInt8) (fl : Int) : Int := if pdE ds = 0 then ((pdD ds).1.length : Int) + (if hasI fl 8 then 0 else 1) else 0
def wdsE (ds : List UInt8) : Int := if pdE ds = 0 then 0 else 1

end Go.Proofs.YtfbhjfpkhofifaaDoor

namespace Go.Proofs.YtfbhjfpkhofifaaDoor
open Go.RowKit

/-- is a method sound in a class? -/
def mthB (m : Mth) (iface : Bool) : Bool :=
  memberL m.nm.data.toList && (chkM m.fl iface (m.nm.toList == [60, 105, 110, 105, 116, 62]) == 0) && (pdE m.ds.data.toList == 0) && !((m.nm.toList == [60, 105, 110, 105, 116, 62]) && !voidB (pdD m.ds.data.toList).2) &&
    (if hasI m.fl 1024 then (m.lo == 0) && (m.st == 0) && ((m.code.length : Int) == 0)
     else !decide (m.st < 0) && !decide (40 < m.st) && !decide (m.lo < wdsN m.ds.data.toList m.fl) && !decide (40 < m.lo) && (allE m.code m.lo == 0))

end Go.Proofs.YtfbhjfpkhofifaaDoor

