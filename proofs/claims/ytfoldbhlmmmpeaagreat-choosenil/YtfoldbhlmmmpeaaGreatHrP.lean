/- A class in memory, as the checks take it and as the copies take it; lists of classes. -/
import Derived.Test.YtfoldbhlmmmpeaaGreatHrR
import Derived.Test.YtfoldbhlmmmpeaaGreatArgC
namespace Go.Proofs.YtfoldbhlmmmpeaaGreat
open Go.RowKit

end Go.Proofs.YtfoldbhlmmmpeaaGreat
