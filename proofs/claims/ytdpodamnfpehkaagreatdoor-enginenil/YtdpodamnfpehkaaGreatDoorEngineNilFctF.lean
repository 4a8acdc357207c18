import Derived.Test.YtdpodamnfpehkaaGreatDoorRows
import Derived.RowKit
namespace Go.Proofs.YtdpodamnfpehkaaGreatDoor
open Go Go.RowKit
theorem engineNil_k13:(Rows.engineNilRow.named == Tryz.prog.varsNamed 3)=true:=by kernel_rfl
end Go.Proofs.YtdpodamnfpehkaaGreatDoor
