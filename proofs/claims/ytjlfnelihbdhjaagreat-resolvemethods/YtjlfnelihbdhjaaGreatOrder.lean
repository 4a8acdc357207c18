import Derived.Test.YtjlfnelihbdhjaaGreatShelf
import Derived.Lib.Join
import GoSem.Op.String
namespace Go.Proofs.YtjlfnelihbdhjaaGreat
end Go.Proofs.YtjlfnelihbdhjaaGreat
