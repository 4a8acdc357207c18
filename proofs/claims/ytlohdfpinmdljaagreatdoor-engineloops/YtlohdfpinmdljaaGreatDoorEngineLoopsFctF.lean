import Derived.Test.YtlohdfpinmdljaaGreatDoorRows
import Derived.RowKit
namespace Go.Proofs.YtlohdfpinmdljaaGreatDoor
open Go Go.RowKit
theorem engineLoops_k13:(Rows.engineLoopsRow.named == Tryz.prog.varsNamed 3)=true:=by kernel_rfl
end Go.Proofs.YtlohdfpinmdljaaGreatDoor
