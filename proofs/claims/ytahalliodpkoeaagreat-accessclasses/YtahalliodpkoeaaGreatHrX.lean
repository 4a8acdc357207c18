/- Chain of a world that is there. -/
import Derived.Test.YtahalliodpkoeaaGreatHrU
import Derived.Test.YtahalliodpkoeaaGreatHrV
import Derived.Deep.RegionHeld3
import Derived.RangeFuncBox
import Derived.Maps.AppendAt
namespace Go.Proofs.YtahalliodpkoeaaGreat
open Go.RowKit Go.Shelf
attribute [local go_sem] Oper.semAt_some


attribute [local go_sem] Oper.semAt_some

end Go.Proofs.YtahalliodpkoeaaGreat
