import Derived.Test.YtfoldbhlmmmpeaaGreatJoin
import Derived.Test.YtfoldbhlmmmpeaaGreatOrder
import Derived.Deep.QuietTactic
import Derived.BigQuiet
namespace Go.Proofs.YtfoldbhlmmmpeaaGreat
open Go.RowKit
end Go.Proofs.YtfoldbhlmmmpeaaGreat
