/- Plain functions on lists of bytes for layer 2 (types): a type read from a text, written, descriptors; there and back. No Go text is named here. -/
import Derived.Test.YtfoldbhlmmmpeaaGreatShelf
namespace Go.Proofs.YtfoldbhlmmmpeaaGreat

end Go.Proofs.YtfoldbhlmmmpeaaGreat
