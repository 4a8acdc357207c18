import Derived.Test.YtgppadlkollfaaaGreatShelf
import Derived.Lib.Join
import GoSem.Op.String
namespace Go.Proofs.YtgppadlkollfaaaGreat
end Go.Proofs.YtgppadlkollfaaaGreat
