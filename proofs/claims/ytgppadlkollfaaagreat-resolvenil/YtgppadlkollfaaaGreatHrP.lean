/- A class in memory, as the checks take it and as the copies take it; lists of classes. -/
import Derived.Test.YtgppadlkollfaaaGreatHrR
import Derived.Test.YtgppadlkollfaaaGreatArgC
namespace Go.Proofs.YtgppadlkollfaaaGreat
open Go.RowKit

end Go.Proofs.YtgppadlkollfaaaGreat
