import Derived.Test.YtfnmmpkhopochaaGreatHrR
import Derived.Test.YtfnmmpkhopochaaGreatHrX
namespace Go.Proofs.YtfnmmpkhopochaaGreat
open Go.RowKit Go.Maps
def WAt (b:Nat) (ps:List Plc) (w:World):Prop:=∃ N mb vp pv,HW w N b mb ps vp pv
theorem HW.wat {w:World} {N b mb:Nat} {ps:List Plc} {vp:Value} {pv:List PV} (h:HW w N b mb ps vp pv):WAt b ps w:=⟨N,mb,vp,pv,h⟩
theorem WAt.below {b:Nat} {ps:List Plc} {w w':World} (h:WAt b ps w) (hb:Below w.heap.size w w'):WAt b ps w':=by
  obtain ⟨N,mb,vp,pv,h⟩:=h
  exact ⟨N,mb,vp,pv,h.below hb⟩
end Go.Proofs.YtfnmmpkhopochaaGreat
