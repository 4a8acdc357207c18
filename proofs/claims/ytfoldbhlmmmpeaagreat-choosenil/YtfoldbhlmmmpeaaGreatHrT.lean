/- Define: a class arrives. -/
import Derived.Test.YtfoldbhlmmmpeaaGreatHrS
import Derived.Test.YtfoldbhlmmmpeaaGreatHrR
import Derived.Test.YtfoldbhlmmmpeaaGreatSoE
namespace Go.Proofs.YtfoldbhlmmmpeaaGreat
open Go.RowKit Go.Maps

end Go.Proofs.YtfoldbhlmmmpeaaGreat
