import Derived.Test.YtlohdfpinmdljaaGreatDoorTyC
namespace Go.Proofs.YtlohdfpinmdljaaGreatDoor
open Go.RowKit
section
variable {w wr w1:World} {v:Value} {ts:List (Nat×List UInt8)} {vd:Bool} {rd:Int} {rn:ByteArray}
end
end Go.Proofs.YtlohdfpinmdljaaGreatDoor
