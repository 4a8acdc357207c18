import Derived.Test.YtfnmmpkhopochaaGreatOwnQ
import Derived.Deep.Slices
import Derived.Deep.Strs
import Derived.SizedLaws
import Derived.Lib.SmallJoins
namespace Go.Proofs.YtfnmmpkhopochaaGreat
open Go.ChangeShapes Go.WideShapes Go.ChangeAt Go.RowKit Go.Joins Go.Deep
def InsW (i:Ins):Prop:=(-9223372036854775808≤i.n∧i.n≤9223372036854775807)∧InsOK i
theorem flatI_ins (l:List Ins) (k:Nat) (i:Ins) (h:l[k]?=some i) (j:Nat) (hj:j<7):(flatI l)[k * 7+j]?=(insC i)[j]?:=by
  obtain ⟨e0,e1,e2,e3,e4,e5,e6⟩:=flatI_at l k i h
  match j,hj with
  | 0,_=>exact e0
  | 1,_=>exact e1
  | 2,_=>exact e2
  | 3,_=>exact e3
  | 4,_=>exact e4
  | 5,_=>exact e5
  | 6,_=>exact e6
end Go.Proofs.YtfnmmpkhopochaaGreat
