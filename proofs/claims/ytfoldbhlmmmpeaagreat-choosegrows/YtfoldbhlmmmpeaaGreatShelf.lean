/- Nothing is laid here. -/
import Derived.Test.YtfoldbhlmmmpeaaGreatPure
import Derived.Test.YtfoldbhlmmmpeaaGreatProg
namespace Go.Proofs.YtfoldbhlmmmpeaaGreat


end Go.Proofs.YtfoldbhlmmmpeaaGreat
