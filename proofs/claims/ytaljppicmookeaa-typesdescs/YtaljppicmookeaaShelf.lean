/- The library's contracts at this program: none is needed here yet. -/
import Derived.Test.YtaljppicmookeaaProg
namespace Go.Proofs
end Go.Proofs
