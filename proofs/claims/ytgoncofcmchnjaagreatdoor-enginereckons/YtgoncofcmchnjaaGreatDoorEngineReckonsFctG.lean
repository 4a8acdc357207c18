import Derived.Test.YtgoncofcmchnjaaGreatDoorEngineReckonsFctA
import Derived.Test.YtgoncofcmchnjaaGreatDoorEngineReckonsFctC
import Derived.Test.YtgoncofcmchnjaaGreatDoorEngineReckonsFctD
import Derived.Test.YtgoncofcmchnjaaGreatDoorEngineReckonsFctE
import Derived.Test.YtgoncofcmchnjaaGreatDoorEngineReckonsFctF
import Derived.Lib.SmallJoins
import Derived.WalkKit
import Derived.ProofKit
import Derived.OpenShut
import Derived.Carry
namespace Go.Proofs.YtgoncofcmchnjaaGreatDoor
open Go Go.ChangeShapes Go.WideShapes Go.ChangeAt Go.Joins Go.RowKit
theorem engineReckons_and {a b:Bool} (h1:a=true) (h2:b=true):(a&&b)=true:=by rw [h1,h2];rfl
theorem engineReckons_k2:mapsRowed Tryz.prog=true:=by kernel_rfl
theorem engineReckons_closed:joinedFacts Tryz.prog 3 Tryz.f3 Rows.engineReckonsSpec Rows.engineReckonsRow=true:=by
  unfold joinedFacts
  refine engineReckons_and (engineReckons_and (engineReckons_and (engineReckons_and (engineReckons_and (engineReckons_and (engineReckons_and (engineReckons_and (engineReckons_and (engineReckons_and (engineReckons_and (engineReckons_and (engineReckons_and (engineReckons_and (engineReckons_and (engineReckons_and (engineReckons_and (engineReckons_and (engineReckons_and (engineReckons_and (engineReckons_and (engineReckons_and (engineReckons_and (engineReckons_and (engineReckons_and (engineReckons_and (engineReckons_and (engineReckons_and (engineReckons_and (engineReckons_and (engineReckons_and ?_ engineReckons_laidOut) engineReckons_k2) ?_) ?_) ?_) ?_) ?_) ?_) engineReckons_k10) engineReckons_k11) engineReckons_k12) engineReckons_k13) ?_) ?_) ?_) ?_) ?_) ?_) ?_) ?_) ?_) ?_) ?_) ?_) ?_) ?_) ?_) ?_) ?_) ?_) ?_
  all_goals kernel_rfl
end Go.Proofs.YtgoncofcmchnjaaGreatDoor
