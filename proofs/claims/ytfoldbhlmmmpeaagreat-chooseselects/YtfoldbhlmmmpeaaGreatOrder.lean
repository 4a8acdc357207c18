import Derived.Test.YtfoldbhlmmmpeaaGreatShelf
import Derived.Lib.Join
import GoSem.Op.String
namespace Go.Proofs.YtfoldbhlmmmpeaaGreat
end Go.Proofs.YtfoldbhlmmmpeaaGreat
