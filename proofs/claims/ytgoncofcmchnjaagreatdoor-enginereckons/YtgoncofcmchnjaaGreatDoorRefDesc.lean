import Derived.Test.YtgoncofcmchnjaaGreatDoorTyC
namespace Go.Proofs.YtgoncofcmchnjaaGreatDoor
open Go.RowKit
section
variable {w wr w1:World} {v:Value} {ts:List (Nat×List UInt8)} {vd:Bool} {rd:Int} {rn:ByteArray}
end
end Go.Proofs.YtgoncofcmchnjaaGreatDoor
