/- Nothing is laid here. -/
import Derived.Test.YtfkdemkdkepmdabGreatPure
import Derived.Test.YtfkdemkdkepmdabGreatProg
namespace Go.Proofs.YtfkdemkdkepmdabGreat


end Go.Proofs.YtfkdemkdkepmdabGreat
