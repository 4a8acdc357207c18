/- How a class among the arguments reads: as the walks take it. -/
import Derived.Test.YtfoldbhlmmmpeaaGreatArgI
import Derived.Test.YtfoldbhlmmmpeaaGreatShpD
namespace Go.Proofs.YtfoldbhlmmmpeaaGreat
open Go.ChangeShapes Go.WideShapes Go.ChangeAt Go.RowKit Go.Joins Go.Deep

end Go.Proofs.YtfoldbhlmmmpeaaGreat
