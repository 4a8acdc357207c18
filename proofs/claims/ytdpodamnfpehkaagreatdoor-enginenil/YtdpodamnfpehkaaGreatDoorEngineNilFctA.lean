import Derived.Test.YtdpodamnfpehkaaGreatDoorRows
import Derived.RowKit
namespace Go.Proofs.YtdpodamnfpehkaaGreatDoor
open Go Go.RowKit
theorem engineNil_laidOut:laidOutB Tryz.prog=true:=by kernel_rfl
end Go.Proofs.YtdpodamnfpehkaaGreatDoor
