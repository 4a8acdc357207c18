/- Nothing is laid here. -/
import Derived.Test.YtahalliodpkoeaaGreatPure
import Derived.Test.YtahalliodpkoeaaGreatProg
namespace Go.Proofs.YtahalliodpkoeaaGreat

theorem valid_ne {l : List UInt8} (h : validL l = true) : 1 ≤ l.length := by
  cases l with
  | nil => revert h; decide
  | cons c r => simp


end Go.Proofs.YtahalliodpkoeaaGreat
