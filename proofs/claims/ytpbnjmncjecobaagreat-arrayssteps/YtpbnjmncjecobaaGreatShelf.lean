/- Nothing is laid here. -/
import Derived.Test.YtpbnjmncjecobaaGreatPure
import Derived.Test.YtpbnjmncjecobaaGreatProg
namespace Go.Proofs.YtpbnjmncjecobaaGreat


end Go.Proofs.YtpbnjmncjecobaaGreat
