import Derived.Test.YtgoncofcmchnjaaGreatDoorRows
import Derived.RowKit
namespace Go.Proofs.YtgoncofcmchnjaaGreatDoor
open Go Go.RowKit
theorem engineReckons_k10:(Rows.engineReckonsRow.inPlace == Tryz.prog.inPlace 3)=true:=by kernel_rfl
end Go.Proofs.YtgoncofcmchnjaaGreatDoor
