/- The walk of the document's Check (arbiterref05): is a class sound? What was there before stays. -/
import Derived.Test.YtfoldbhlmmmpeaaGreatSoA
import Derived.Deep.LoopGhost
import Derived.Deep.RegionWith
import Derived.Deep.QuietTactic
import Derived.BigQuiet
namespace Go.Proofs.YtfoldbhlmmmpeaaGreat
open Go.RowKit





end Go.Proofs.YtfoldbhlmmmpeaaGreat
