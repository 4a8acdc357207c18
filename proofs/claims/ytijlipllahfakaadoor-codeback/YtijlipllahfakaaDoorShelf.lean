/- Nothing is laid here. -/
import Derived.Test.YtijlipllahfakaaDoorProg
namespace Go.Proofs.YtijlipllahfakaaDoor
end Go.Proofs.YtijlipllahfakaaDoor
