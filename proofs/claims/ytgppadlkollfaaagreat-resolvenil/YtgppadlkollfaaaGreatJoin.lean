/- The walk of names.Join: it answers the joined parts or ErrForm, as the plain functions say; what was there before stays. -/
import Derived.Test.YtgppadlkollfaaaGreatValid
import Derived.Test.YtgppadlkollfaaaGreatShelf
import Derived.Lib.Join
namespace Go.Proofs.YtgppadlkollfaaaGreat
open Go.RowKit

end Go.Proofs.YtgppadlkollfaaaGreat
