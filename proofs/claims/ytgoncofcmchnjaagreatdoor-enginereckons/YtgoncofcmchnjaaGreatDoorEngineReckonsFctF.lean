import Derived.Test.YtgoncofcmchnjaaGreatDoorRows
import Derived.RowKit
namespace Go.Proofs.YtgoncofcmchnjaaGreatDoor
open Go Go.RowKit
theorem engineReckons_k13:(Rows.engineReckonsRow.named == Tryz.prog.varsNamed 3)=true:=by kernel_rfl
end Go.Proofs.YtgoncofcmchnjaaGreatDoor
