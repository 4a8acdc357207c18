/- The walk of the document's CheckAll (arbiterref04); what was there before stays. -/
import Derived.Test.YtfoldbhlmmmpeaaGreatRefDesc
import Derived.Lib.ItoaNum
import Derived.Lib.ItoaLen
import Derived.Laws.IdiomStrings
import Derived.Deep.RegionWith
namespace Go.Proofs.YtfoldbhlmmmpeaaGreat
open Go.RowKit













end Go.Proofs.YtfoldbhlmmmpeaaGreat
