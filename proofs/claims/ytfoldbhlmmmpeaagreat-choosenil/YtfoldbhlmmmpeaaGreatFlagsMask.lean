/- 'No other flag than these', by a mask: f &^ mask is 0 just if f is made of the list's flags. No Go text is named here. -/
import Derived.Test.YtfoldbhlmmmpeaaGreatSoA
namespace Go.Proofs.YtfoldbhlmmmpeaaGreat
open Go



end Go.Proofs.YtfoldbhlmmmpeaaGreat
