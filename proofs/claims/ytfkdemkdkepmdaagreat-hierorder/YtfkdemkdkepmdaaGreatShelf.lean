/- Nothing is laid here. -/
import Derived.Test.YtfkdemkdkepmdaaGreatPure
import Derived.Test.YtfkdemkdkepmdaaGreatProg
namespace Go.Proofs.YtfkdemkdkepmdaaGreat


end Go.Proofs.YtfkdemkdkepmdaaGreat
