import Derived.Test.YtdpodamnfpehkaaGreatDoorEngineNilFctA
import Derived.Test.YtdpodamnfpehkaaGreatDoorEngineNilFctC
import Derived.Test.YtdpodamnfpehkaaGreatDoorEngineNilFctD
import Derived.Test.YtdpodamnfpehkaaGreatDoorEngineNilFctE
import Derived.Test.YtdpodamnfpehkaaGreatDoorEngineNilFctF
import Derived.Lib.SmallJoins
import Derived.WalkKit
import Derived.ProofKit
import Derived.OpenShut
import Derived.Carry
namespace Go.Proofs.YtdpodamnfpehkaaGreatDoor
open Go Go.ChangeShapes Go.WideShapes Go.ChangeAt Go.Joins Go.RowKit
theorem engineNil_and {a b:Bool} (h1:a=true) (h2:b=true):(a&&b)=true:=by rw [h1,h2];rfl
theorem engineNil_k2:mapsRowed Tryz.prog=true:=by kernel_rfl
theorem engineNil_closed:joinedFacts Tryz.prog 3 Tryz.f3 Rows.engineNilSpec Rows.engineNilRow=true:=by
  unfold joinedFacts
  refine engineNil_and (engineNil_and (engineNil_and (engineNil_and (engineNil_and (engineNil_and (engineNil_and (engineNil_and (engineNil_and (engineNil_and (engineNil_and (engineNil_and (engineNil_and (engineNil_and (engineNil_and (engineNil_and (engineNil_and (engineNil_and (engineNil_and (engineNil_and (engineNil_and (engineNil_and (engineNil_and (engineNil_and (engineNil_and (engineNil_and (engineNil_and (engineNil_and (engineNil_and (engineNil_and (engineNil_and ?_ engineNil_laidOut) engineNil_k2) ?_) ?_) ?_) ?_) ?_) ?_) engineNil_k10) engineNil_k11) engineNil_k12) engineNil_k13) ?_) ?_) ?_) ?_) ?_) ?_) ?_) ?_) ?_) ?_) ?_) ?_) ?_) ?_) ?_) ?_) ?_) ?_) ?_
  all_goals kernel_rfl
end Go.Proofs.YtdpodamnfpehkaaGreatDoor
