import Derived.Test.YtlohdfpinmdljaaGreatDoorRows
import Derived.RowKit
namespace Go.Proofs.YtlohdfpinmdljaaGreatDoor
open Go Go.RowKit
theorem engineLoops_k12:(Rows.engineLoopsRow.recurses == Tryz.prog.recurses 3)=true:=by kernel_rfl
end Go.Proofs.YtlohdfpinmdljaaGreatDoor
