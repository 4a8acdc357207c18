/- Nothing is laid here. -/
import Derived.Test.YtahalliodpkoeaaGreatPure
import Derived.Test.YtahalliodpkoeaaGreatProg
namespace Go.Proofs.YtahalliodpkoeaaGreat


end Go.Proofs.YtahalliodpkoeaaGreat
