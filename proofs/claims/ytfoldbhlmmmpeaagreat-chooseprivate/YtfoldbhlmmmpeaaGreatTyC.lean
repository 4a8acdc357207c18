import Derived.Test.YtfoldbhlmmmpeaaGreatOwnParse
import Derived.Laws.IdiomStrings
namespace Go.Proofs.YtfoldbhlmmmpeaaGreat
open Go.RowKit
end Go.Proofs.YtfoldbhlmmmpeaaGreat
