import Derived.Test.YtfoldbhlmmmpeaaGreatOvB
import Derived.Lib.SmallJoins
namespace Go.Proofs.YtfoldbhlmmmpeaaGreat
open Go.RowKit Go.Maps Go.Joins
end Go.Proofs.YtfoldbhlmmmpeaaGreat
