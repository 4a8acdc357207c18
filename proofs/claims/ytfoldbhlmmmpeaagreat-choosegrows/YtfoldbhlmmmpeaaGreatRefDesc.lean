/- The walk of arbiterref02's ParseDesc: the descriptor that a text writes, or the error; what was there before stays. -/
import Derived.Test.YtfoldbhlmmmpeaaGreatDescA
namespace Go.Proofs.YtfoldbhlmmmpeaaGreat
open Go.RowKit

section
variable {w wr w1 : World} {v : Value} {ts : List (Nat × List UInt8)} {vd : Bool} {rd : Int} {rn : ByteArray}
end
end Go.Proofs.YtfoldbhlmmmpeaaGreat
