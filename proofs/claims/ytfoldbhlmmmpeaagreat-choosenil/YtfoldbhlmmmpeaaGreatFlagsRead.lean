/- The document's way of reading words is the plain one: words taken in the list's order. No Go text is named here. -/
import Derived.Laws.Entries
import Derived.Lib.Join
namespace Go.Proofs.YtfoldbhlmmmpeaaGreat
open Go

/-- has f this flag? -/
def hasI (f x : Int) : Bool := bits .and .i64 f x != 0
/-- words taken in the list's order -/
def subW : List (Int × List UInt8) → List (List UInt8) → Option Int
  | _, [] => some 0
  | [], _ :: _ => none
  | p :: ps, t :: ts => if p.2 = t then (subW ps ts).map (p.1 + ·) else subW ps (t :: ts)



end Go.Proofs.YtfoldbhlmmmpeaaGreat
