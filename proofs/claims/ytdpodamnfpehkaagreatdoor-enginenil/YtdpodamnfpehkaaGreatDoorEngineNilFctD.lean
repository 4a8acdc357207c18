import Derived.Test.YtdpodamnfpehkaaGreatDoorRows
import Derived.RowKit
namespace Go.Proofs.YtdpodamnfpehkaaGreatDoor
open Go Go.RowKit
theorem engineNil_k11:(Rows.engineNilRow.unfollowed == Tryz.prog.unfollowed 3)=true:=by kernel_rfl
end Go.Proofs.YtdpodamnfpehkaaGreatDoor
