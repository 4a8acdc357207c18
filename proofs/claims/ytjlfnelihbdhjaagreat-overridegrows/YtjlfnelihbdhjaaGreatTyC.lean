import Derived.Test.YtjlfnelihbdhjaaGreatOwnParse
import Derived.Laws.IdiomStrings
namespace Go.Proofs.YtjlfnelihbdhjaaGreat
open Go.RowKit
end Go.Proofs.YtjlfnelihbdhjaaGreat
