import Derived.Test.YtjlfnelihbdhjaaGreatPure
import Derived.Test.YtjlfnelihbdhjaaGreatProg
namespace Go.Proofs.YtjlfnelihbdhjaaGreat
theorem valid_ne {l:List UInt8} (h:validL l=true):1≤l.length:=by
  cases l with
  | nil=>revert h;decide
  | cons c r=>simp
end Go.Proofs.YtjlfnelihbdhjaaGreat
