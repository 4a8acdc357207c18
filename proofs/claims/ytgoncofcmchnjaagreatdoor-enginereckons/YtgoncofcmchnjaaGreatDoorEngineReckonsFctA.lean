import Derived.Test.YtgoncofcmchnjaaGreatDoorRows
import Derived.RowKit
namespace Go.Proofs.YtgoncofcmchnjaaGreatDoor
open Go Go.RowKit
theorem engineReckons_laidOut:laidOutB Tryz.prog=true:=by kernel_rfl
end Go.Proofs.YtgoncofcmchnjaaGreatDoor
