import Derived.Test.YtjlfnelihbdhjaaGreatJoin
import Derived.Test.YtjlfnelihbdhjaaGreatOrder
import Derived.Deep.QuietTactic
import Derived.BigQuiet
namespace Go.Proofs.YtjlfnelihbdhjaaGreat
open Go.RowKit
end Go.Proofs.YtjlfnelihbdhjaaGreat
