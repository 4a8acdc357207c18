import Derived.Test.YtgoncofcmchnjaaGreatDoorRows
import Derived.RowKit
namespace Go.Proofs.YtgoncofcmchnjaaGreatDoor
open Go Go.RowKit
theorem engineReckons_k12:(Rows.engineReckonsRow.recurses == Tryz.prog.recurses 3)=true:=by kernel_rfl
end Go.Proofs.YtgoncofcmchnjaaGreatDoor
