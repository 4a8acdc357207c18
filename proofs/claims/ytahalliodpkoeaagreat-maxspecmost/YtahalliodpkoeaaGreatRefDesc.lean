/- The walk of arbiterref02's ParseDesc: the descriptor that a text writes, or the error; what was there before stays. -/
import Derived.Test.YtahalliodpkoeaaGreatDescA
namespace Go.Proofs.YtahalliodpkoeaaGreat
open Go.RowKit

/-- while the document's ParseDesc reads: the answer's block, the descriptor's block, its arguments, what was there before -/
structure Rq (w : World) (v : Value) (ts : List (Nat × List UInt8)) (vd : Bool) (rd : Int) (rn : ByteArray) (wr : World) : Prop where
  r : wr.heap[w.heap.size]? = some (.cells zeroD 225 (0, 0))
  d : wr.heap[w.heap.size + 1]? = some (.cells #[v, .bool vd, .int .i64 rd, .string rn] 225 (0, 0))
  own : wr.ownsRow (w.heap.size + 2) 71 2 v ts.length (flatT (ts.map natT))
  bel : Below w.heap.size w wr

section
variable {w wr w1 : World} {v : Value} {ts : List (Nat × List UInt8)} {vd : Bool} {rd : Int} {rn : ByteArray}
/-- behind an append: the arguments are one more, and the descriptor's block as it was -/
structure Rp (w : World) (v v' : Value) (ts : List (Nat × List UInt8)) (wr : World) : Prop where
  r : wr.heap[w.heap.size]? = some (.cells zeroD 225 (0, 0))
  d : wr.heap[w.heap.size + 1]? = some (.cells #[v, .bool false, .int .i64 0, .string ⟨#[]⟩] 225 (0, 0))
  own : wr.ownsRow (w.heap.size + 2) 71 2 v' ts.length (flatT (ts.map natT))
  bel : Below w.heap.size w wr

end
end Go.Proofs.YtahalliodpkoeaaGreat
