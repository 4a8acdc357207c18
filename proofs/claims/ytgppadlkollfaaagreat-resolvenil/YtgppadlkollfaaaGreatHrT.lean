/- Define: a class arrives. -/
import Derived.Test.YtgppadlkollfaaaGreatHrS
import Derived.Test.YtgppadlkollfaaaGreatHrR
import Derived.Test.YtgppadlkollfaaaGreatSoE
namespace Go.Proofs.YtgppadlkollfaaaGreat
open Go.RowKit Go.Maps

end Go.Proofs.YtgppadlkollfaaaGreat
