/- Walks of arbiterref02's Parse and ParseRef: the type that a text writes, or the error; what was there before stays. -/
import Derived.Test.YtfbhjfpkhofifaaDoorOwn
namespace Go.Proofs.YtfbhjfpkhofifaaDoor
open Go.RowKit

/-- the error of Parse, and the type beside it -/
def parE (l : List UInt8) : Int := if 2000 < l.length then 5 else match readT l with
  | some (t, []) => if 255 < t.1 then 5 else 0
  | _ => 4
def parT (l : List UInt8) : Nat × List UInt8 := if parE l = 0 then (match readT l with
  | some (t, _) => t
  | none => (0, [])) else (0, [])

/-- the error of ParseRef, and the type beside it -/
def prfE (l : List UInt8) : Int := if 2000 < l.length then 5 else if l.head? = some 91 then parE l else if validL l then 0 else 4
def prfT (l : List UInt8) : Nat × List UInt8 := if 2000 < l.length then (0, []) else if l.head? = some 91 then parT l else if validL l then (0, l) else (0, [])

theorem head_at (s : ByteArray) (h : 0 < s.size) : s.data.toList.head? = some s[0] := by
  have := drop_cons s 0 h
  rw [List.drop_zero] at this
  rw [this]; rfl

end Go.Proofs.YtfbhjfpkhofifaaDoor
