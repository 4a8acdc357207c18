import Derived.Test.YtlohdfpinmdljaaGreatDoorEngineLoopsFctA
import Derived.Test.YtlohdfpinmdljaaGreatDoorEngineLoopsFctC
import Derived.Test.YtlohdfpinmdljaaGreatDoorEngineLoopsFctD
import Derived.Test.YtlohdfpinmdljaaGreatDoorEngineLoopsFctE
import Derived.Test.YtlohdfpinmdljaaGreatDoorEngineLoopsFctF
import Derived.Lib.SmallJoins
import Derived.WalkKit
import Derived.ProofKit
import Derived.OpenShut
import Derived.Carry
namespace Go.Proofs.YtlohdfpinmdljaaGreatDoor
open Go Go.ChangeShapes Go.WideShapes Go.ChangeAt Go.Joins Go.RowKit
theorem engineLoops_and {a b:Bool} (h1:a=true) (h2:b=true):(a&&b)=true:=by rw [h1,h2];rfl
theorem engineLoops_k2:mapsRowed Tryz.prog=true:=by kernel_rfl
theorem engineLoops_closed:joinedFacts Tryz.prog 3 Tryz.f3 Rows.engineLoopsSpec Rows.engineLoopsRow=true:=by
  unfold joinedFacts
  refine engineLoops_and (engineLoops_and (engineLoops_and (engineLoops_and (engineLoops_and (engineLoops_and (engineLoops_and (engineLoops_and (engineLoops_and (engineLoops_and (engineLoops_and (engineLoops_and (engineLoops_and (engineLoops_and (engineLoops_and (engineLoops_and (engineLoops_and (engineLoops_and (engineLoops_and (engineLoops_and (engineLoops_and (engineLoops_and (engineLoops_and (engineLoops_and (engineLoops_and (engineLoops_and (engineLoops_and (engineLoops_and (engineLoops_and (engineLoops_and (engineLoops_and ?_ engineLoops_laidOut) engineLoops_k2) ?_) ?_) ?_) ?_) ?_) ?_) engineLoops_k10) engineLoops_k11) engineLoops_k12) engineLoops_k13) ?_) ?_) ?_) ?_) ?_) ?_) ?_) ?_) ?_) ?_) ?_) ?_) ?_) ?_) ?_) ?_) ?_) ?_) ?_
  all_goals kernel_rfl
end Go.Proofs.YtlohdfpinmdljaaGreatDoor
