import Derived.Test.YtenpnkkkjjdccaaGreatHrV
namespace Go.Proofs.YtenpnkkkjjdccaaGreat
open Go.RowKit
section
variable {w wr w1:World} {v:Value} {ts:List (Nat×List UInt8)} {vd:Bool} {rd:Int} {rn:ByteArray}
end
end Go.Proofs.YtenpnkkkjjdccaaGreat
