/- Plain facts: lists held against each other element by element are in an order if the elements are; no Go text is named here. -/
import Derived.Test.YtfoldbhlmmmpeaaGreatShelf
import Derived.Lib.Join
import GoSem.Op.String
namespace Go.Proofs.YtfoldbhlmmmpeaaGreat



end Go.Proofs.YtfoldbhlmmmpeaaGreat
