/- The walk of package code's CheckAll: it returns what the document's answer says; what was there before stays. -/
import Derived.Test.YtfoldbhlmmmpeaaGreatCodeL
import Derived.Test.YtfoldbhlmmmpeaaGreatDescA
import Derived.Deep.QuietTactic
import Derived.BigQuiet
namespace Go.Proofs.YtfoldbhlmmmpeaaGreat
open Go.RowKit











end Go.Proofs.YtfoldbhlmmmpeaaGreat
