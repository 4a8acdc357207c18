import Derived.Test.YtlohdfpinmdljaaGreatDoorRows
import Derived.RowKit
namespace Go.Proofs.YtlohdfpinmdljaaGreatDoor
open Go Go.RowKit
theorem engineLoops_laidOut:laidOutB Tryz.prog=true:=by kernel_rfl
end Go.Proofs.YtlohdfpinmdljaaGreatDoor
