/- The walk of the document's CheckAll (arbiterref04); what was there before stays. -/
import Derived.Test.YtgppadlkollfaaaGreatRefDesc
import Derived.Lib.ItoaNum
import Derived.Lib.ItoaLen
import Derived.Laws.IdiomStrings
import Derived.Deep.RegionWith
namespace Go.Proofs.YtgppadlkollfaaaGreat
open Go.RowKit





/-- is a reference sound? -/
def rckB (c n d : List UInt8) : Bool := (prfE c == 0) && memberL n && (pdE d == 0)
def rckE (c n d : List UInt8) : Int := if rckB c n d then 0 else 1









end Go.Proofs.YtgppadlkollfaaaGreat
