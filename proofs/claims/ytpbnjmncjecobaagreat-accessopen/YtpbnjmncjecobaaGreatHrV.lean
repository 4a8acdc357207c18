/- slices.Index and slices.Contains over numbers. -/
import Derived.Test.YtpbnjmncjecobaaGreatHrK
import Derived.BigQuiet
import Derived.Deep.QuietTactic
namespace Go.Proofs.YtpbnjmncjecobaaGreat
open Go.RowKit

end Go.Proofs.YtpbnjmncjecobaaGreat
