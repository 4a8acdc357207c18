import Derived.Test.YtfoldbhlmmmpeaaGreatTypesParse
import Derived.Laws.IdiomStrings
namespace Go.Proofs.YtfoldbhlmmmpeaaGreat
open Go.RowKit
end Go.Proofs.YtfoldbhlmmmpeaaGreat
