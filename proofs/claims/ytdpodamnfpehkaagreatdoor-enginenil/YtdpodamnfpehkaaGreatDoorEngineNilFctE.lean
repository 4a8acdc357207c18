import Derived.Test.YtdpodamnfpehkaaGreatDoorRows
import Derived.RowKit
namespace Go.Proofs.YtdpodamnfpehkaaGreatDoor
open Go Go.RowKit
theorem engineNil_k12:(Rows.engineNilRow.recurses == Tryz.prog.recurses 3)=true:=by kernel_rfl
end Go.Proofs.YtdpodamnfpehkaaGreatDoor
