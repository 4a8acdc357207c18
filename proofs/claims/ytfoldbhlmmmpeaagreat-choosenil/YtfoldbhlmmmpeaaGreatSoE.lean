/- Walks of package shapes: hasSoundMethods, Check; what was there before stays. -/
import Derived.Test.YtfoldbhlmmmpeaaGreatSoA
import Derived.Test.YtfoldbhlmmmpeaaGreatShpD
import Derived.Test.YtfoldbhlmmmpeaaGreatOwnL
import Derived.Test.YtfoldbhlmmmpeaaGreatDescA
import Derived.Test.YtfoldbhlmmmpeaaGreatFOwnA
namespace Go.Proofs.YtfoldbhlmmmpeaaGreat
open Go.RowKit







end Go.Proofs.YtfoldbhlmmmpeaaGreat
