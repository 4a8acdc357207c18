import Derived.Test.YtdpodamnfpehkaaGreatDoorRows
import Derived.RowKit
namespace Go.Proofs.YtdpodamnfpehkaaGreatDoor
open Go Go.RowKit
theorem engineNil_k10:(Rows.engineNilRow.inPlace == Tryz.prog.inPlace 3)=true:=by kernel_rfl
end Go.Proofs.YtdpodamnfpehkaaGreatDoor
