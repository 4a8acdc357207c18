/- Walks of the document's answers of layer 1 (arbiterref01) that read lists: Valid, SameTexts, Compare: each returns what the plain function says; what was there before stays. -/
import Derived.Test.YtgppadlkollfaaaGreatJoin
import Derived.Test.YtgppadlkollfaaaGreatOrder
import Derived.Deep.QuietTactic
import Derived.BigQuiet
namespace Go.Proofs.YtgppadlkollfaaaGreat
open Go.RowKit







end Go.Proofs.YtgppadlkollfaaaGreat
