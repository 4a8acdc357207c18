/- Walks of package shapes: hasSoundMethods, Check; what was there before stays. -/
import Derived.Test.YtgppadlkollfaaaGreatSoA
import Derived.Test.YtgppadlkollfaaaGreatShpD
import Derived.Test.YtgppadlkollfaaaGreatOwnL
import Derived.Test.YtgppadlkollfaaaGreatDescA
import Derived.Test.YtgppadlkollfaaaGreatFOwnA
namespace Go.Proofs.YtgppadlkollfaaaGreat
open Go.RowKit







end Go.Proofs.YtgppadlkollfaaaGreat
