import Derived.Test.YtdpodamnfpehkaaGreatDoorHrV
namespace Go.Proofs.YtdpodamnfpehkaaGreatDoor
open Go.RowKit
section
variable {w wr w1:World} {v:Value} {ts:List (Nat×List UInt8)} {vd:Bool} {rd:Int} {rn:ByteArray}
end
end Go.Proofs.YtdpodamnfpehkaaGreatDoor
