/- slices.Index and slices.Contains over numbers. -/
import Derived.Test.YtahalliodpkoeaaGreatHrK
import Derived.BigQuiet
import Derived.Deep.QuietTactic
namespace Go.Proofs.YtahalliodpkoeaaGreat
open Go.RowKit

end Go.Proofs.YtahalliodpkoeaaGreat
