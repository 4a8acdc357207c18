/- Chain of a world that is there. -/
import Derived.Test.YtpbnjmncjecobaaGreatHrU
import Derived.Test.YtpbnjmncjecobaaGreatHrV
import Derived.Deep.RegionHeld3
import Derived.RangeFuncBox
import Derived.Maps.AppendAt
namespace Go.Proofs.YtpbnjmncjecobaaGreat
open Go.RowKit Go.Shelf
attribute [local go_sem] Oper.semAt_some


attribute [local go_sem] Oper.semAt_some

end Go.Proofs.YtpbnjmncjecobaaGreat
