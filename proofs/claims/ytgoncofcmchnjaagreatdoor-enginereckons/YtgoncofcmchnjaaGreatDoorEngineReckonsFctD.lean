import Derived.Test.YtgoncofcmchnjaaGreatDoorRows
import Derived.RowKit
namespace Go.Proofs.YtgoncofcmchnjaaGreatDoor
open Go Go.RowKit
theorem engineReckons_k11:(Rows.engineReckonsRow.unfollowed == Tryz.prog.unfollowed 3)=true:=by kernel_rfl
end Go.Proofs.YtgoncofcmchnjaaGreatDoor
