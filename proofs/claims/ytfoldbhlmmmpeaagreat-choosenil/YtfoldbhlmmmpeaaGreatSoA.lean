/- Walks of package shapes: isWithin, Find (slices.IndexFunc over a method's name and descriptor); what was there before stays. -/
import Derived.Test.YtfoldbhlmmmpeaaGreatRows
import Derived.Test.YtfoldbhlmmmpeaaGreatFlagsRead
import Derived.Test.YtfoldbhlmmmpeaaGreatCodeL
import Derived.Test.YtfoldbhlmmmpeaaGreatRefDesc
import Derived.WalkKit
import Derived.WalkSpells
import Derived.WalkLawsBesides
import Derived.Lib.Walk
import Derived.Lib.PathFns
namespace Go.Proofs.YtfoldbhlmmmpeaaGreat
open Go.RowKit

def openI (f : Int) : Int := if hasI f 1 then 1 else if hasI f 4 then 4 else if hasI f 2 then 2 else 0









set_option maxRecDepth 100000 in
set_option maxHeartbeats 1000000 in
theorem isM_any (xn xd nm ds : ByteArray) (xf xl xs : Int) (vc : Value) (b1 b2 : Nat) (w : World) (g1 : w.cell? ⟨b1, 0, none⟩ = some (.string nm)) (g2 : w.cell? ⟨b2, 0, none⟩ = some (.string ds)) (l1 : b1 < w.heap.size) (l2 : b2 < w.heap.size) :
    Calls Tryz.prog 173 #[.agg #[.string xn, .string xd, .int .i64 xf, .int .i64 xl, .int .i64 xs, vc], .pointer (some ⟨b1, 0, none⟩), .pointer (some ⟨b2, 0, none⟩)] w fun e w' => e = .returned (.bool ((xn.toList == nm.toList) && (xd.toList == ds.toList))) ∧ Below w.heap.size w w' := by
  generalize hz : ((xn.toList == nm.toList) && (xd.toList == ds.toList)) = z
  have HZ : Hid _ := hz
  clear hz
  cases q1 : (xn.toList == nm.toList) with
  | false =>
    go_enter Tryz.func173, Tryz.ntmps173
    go_wp2
    go_ret
    exact ⟨ret_bool (by rw [← HZ.out, q1]; rfl), (Below.refl _ _).alloc (Nat.le_refl _) _⟩
  | true =>
    cases q2 : (xd.toList == ds.toList) with
    | false =>
      go_enter Tryz.func173, Tryz.ntmps173
      go_wp2
      go_ret
      exact ⟨ret_bool (by rw [← HZ.out, q1, q2]; rfl), (Below.refl _ _).alloc (Nat.le_refl _) _⟩
    | true =>
      go_enter Tryz.func173, Tryz.ntmps173
      go_wp2
      go_ret
      exact ⟨ret_bool (by rw [← HZ.out, q1, q2]; rfl), (Below.refl _ _).alloc (Nat.le_refl _) _⟩

end Go.Proofs.YtfoldbhlmmmpeaaGreat
