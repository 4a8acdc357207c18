import Derived.Test.YtgppadlkollfaaaGreatPure
import Derived.Test.YtgppadlkollfaaaGreatProg
namespace Go.Proofs.YtgppadlkollfaaaGreat
theorem valid_ne {l:List UInt8} (h:validL l=true):1≤l.length:=by
  cases l with
  | nil=>revert h;decide
  | cons c r=>simp
end Go.Proofs.YtgppadlkollfaaaGreat
