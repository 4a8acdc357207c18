/- The walk of names.Join: it answers the joined parts or ErrForm, as the plain functions say; what was there before stays. -/
import Derived.Test.YtfoldbhlmmmpeaaGreatValid
import Derived.Test.YtfoldbhlmmmpeaaGreatShelf
import Derived.Lib.Join
namespace Go.Proofs.YtfoldbhlmmmpeaaGreat
open Go.RowKit

end Go.Proofs.YtfoldbhlmmmpeaaGreat
