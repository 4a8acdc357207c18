import Derived.Test.YtlohdfpinmdljaaGreatDoorRows
import Derived.RowKit
namespace Go.Proofs.YtlohdfpinmdljaaGreatDoor
open Go Go.RowKit
theorem engineLoops_k11:(Rows.engineLoopsRow.unfollowed == Tryz.prog.unfollowed 3)=true:=by kernel_rfl
end Go.Proofs.YtlohdfpinmdljaaGreatDoor
