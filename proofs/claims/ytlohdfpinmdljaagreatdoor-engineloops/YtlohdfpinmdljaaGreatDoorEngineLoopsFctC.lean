import Derived.Test.YtlohdfpinmdljaaGreatDoorRows
import Derived.RowKit
namespace Go.Proofs.YtlohdfpinmdljaaGreatDoor
open Go Go.RowKit
theorem engineLoops_k10:(Rows.engineLoopsRow.inPlace == Tryz.prog.inPlace 3)=true:=by kernel_rfl
end Go.Proofs.YtlohdfpinmdljaaGreatDoor
