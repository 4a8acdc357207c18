/- How references, instructions and lists of instructions among the arguments read: as the walks take them. -/
import Derived.Test.YtfoldbhlmmmpeaaGreatCodeL
import Derived.Deep.Slices
import Derived.Deep.Strs
import Derived.SizedLaws
import Derived.Lib.SmallJoins
namespace Go.Proofs.YtfoldbhlmmmpeaaGreat
open Go.ChangeShapes Go.WideShapes Go.ChangeAt Go.RowKit Go.Joins Go.Deep

end Go.Proofs.YtfoldbhlmmmpeaaGreat
