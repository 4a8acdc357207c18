/- Plain functions on lists of bytes for layer 1 (names): parts, valid names, the last separator; no Go text is named here. -/
import Derived.Lib.Strings
import Derived.Lib.IndexBytes
import Derived.Lib.PathFns
import Derived.Lib.Bytealg
namespace Go.Proofs.YtfoldbhlmmmpeaaGreat

def lastL (l : List UInt8) : Int := Lib.Pa.lastIndexByte l 47
def pkgL (l : List UInt8) : List UInt8 := l.take (lastL l).toNat
theorem lastL_bounds (l : List UInt8) : -1 ≤ lastL l ∧ lastL l < l.length := Lib.Pa.lastIndexByte_bounds l 47

end Go.Proofs.YtfoldbhlmmmpeaaGreat
