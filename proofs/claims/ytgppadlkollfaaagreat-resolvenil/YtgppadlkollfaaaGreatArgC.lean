/- How a class among the arguments reads: as the walks take it. -/
import Derived.Test.YtgppadlkollfaaaGreatArgI
import Derived.Test.YtgppadlkollfaaaGreatShpD
namespace Go.Proofs.YtgppadlkollfaaaGreat
open Go.ChangeShapes Go.WideShapes Go.ChangeAt Go.RowKit Go.Joins Go.Deep

end Go.Proofs.YtgppadlkollfaaaGreat
