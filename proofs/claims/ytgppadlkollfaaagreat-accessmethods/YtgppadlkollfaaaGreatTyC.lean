/- What a type is asked: Check (package types and the document's), Same. -/
import Derived.Test.YtgppadlkollfaaaGreatTys
import Derived.Laws.IdiomStrings
namespace Go.Proofs.YtgppadlkollfaaaGreat
open Go.RowKit

end Go.Proofs.YtgppadlkollfaaaGreat
