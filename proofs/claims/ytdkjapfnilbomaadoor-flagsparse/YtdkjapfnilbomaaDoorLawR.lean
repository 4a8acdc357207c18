/- The walk of the law FlagsParse: it answers true where the package's variable holds its words. -/
import Derived.Test.YtdkjapfnilbomaaDoorReadF
namespace Go.Proofs.YtdkjapfnilbomaaDoor
open Go.RowKit

set_option maxRecDepth 10000 in
set_option maxHeartbeats 1000000 in
theorem FlagsParse_any (s : ByteArray) (hs : s.size ≤ 140737488351232) (w : World) (h : WordsIn w) :
    Calls Tryd.prog 4 #[.string s] w fun e w' => e = .returned (.bool true) ∧ Below w.heap.size w w' := by
  have HA : Hid (Calls Tryd.prog 7 _ w _) := awake_any w h
  have HT : Hid (∀ w1 : World, Below w.heap.size w w1 → Calls Tryd.prog 18 #[.string s] w1 _) := fun w1 hb => ParseClass_any s (by omega) w1 (h.keep hb)
  have HU : Hid (∀ w : World, _) := rParseClass_any s hs
  have HV : Hid (∀ w1 : World, Below w.heap.size w w1 → Calls Tryd.prog 20 #[.string s] w1 _) := fun w1 hb => ParseMethod_any s (by omega) w1 (h.keep hb)
  have HW : Hid (∀ w : World, _) := rParseMethod_any s hs
  generalize parF clsP s.data.toList = f1 at *
  generalize parX clsP s.data.toList = e1 at *
  generalize parF mthP s.data.toList = f2 at *
  generalize parX mthP s.data.toList = e2 at *
  clear h
  go_enter Tryd.func4, Tryd.ntmps4
  go_wp2_with (first
      | (go_at_call 7; refine HA.out.mono ?_; rintro e w1 ⟨rfl, hb1⟩)
      | (go_at_call 18; refine (HT.out _ hb1).mono ?_; rintro e w2 ⟨rfl, hb2⟩; replace hb2 := Below.step hb1 hb2)
      | (go_at_call 19; refine (HU.out _).mono ?_; rintro e w3 ⟨rfl, hb3⟩; replace hb3 := Below.step hb2 hb3)
      | (go_at_call 20; refine (HV.out _ hb3).mono ?_; rintro e w4 ⟨rfl, hb4⟩; replace hb4 := Below.step hb3 hb4)
      | (go_at_call 21; refine (HW.out _).mono ?_; rintro e w5 ⟨rfl, hb5⟩; replace hb5 := Below.step hb4 hb5))
  go_ret
  exact ⟨ret_bool (by simp), hb5⟩
end Go.Proofs.YtdkjapfnilbomaaDoor
