/- Nothing is laid here. -/
import Derived.Test.YtgppadlkollfaaaGreatPure
import Derived.Test.YtgppadlkollfaaaGreatProg
namespace Go.Proofs.YtgppadlkollfaaaGreat


end Go.Proofs.YtgppadlkollfaaaGreat
