/- The walks of the document's number and SameMethod (arbiterref05); what was there before stays. -/
import Derived.Test.YtgppadlkollfaaaGreatCodeL
import Derived.Test.YtgppadlkollfaaaGreatRefLists
import Derived.Test.YtgppadlkollfaaaGreatShpD
namespace Go.Proofs.YtgppadlkollfaaaGreat
open Go.RowKit







end Go.Proofs.YtgppadlkollfaaaGreat
