/- What a type is asked: Check (package types and the document's), Same. -/
import Derived.Test.YtfoldbhlmmmpeaaGreatDescA
import Derived.Laws.IdiomStrings
namespace Go.Proofs.YtfoldbhlmmmpeaaGreat
open Go.RowKit

end Go.Proofs.YtfoldbhlmmmpeaaGreat
