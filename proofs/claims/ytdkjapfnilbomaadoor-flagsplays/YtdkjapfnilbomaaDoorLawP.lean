/- The walk of the law FlagsPlays: it answers true where the package's variable holds its words. -/
import Derived.Test.YtdkjapfnilbomaaDoorOwnC
namespace Go.Proofs.YtdkjapfnilbomaaDoor
open Go.RowKit

set_option maxRecDepth 10000 in
set_option maxHeartbeats 1000000 in
theorem FlagsPlays_any (f : Int) (hf : -9223372036854775808 ≤ f ∧ f ≤ 9223372036854775807) (iface : Bool) (nm : ByteArray) (w : World) (h : WordsIn w) :
    Calls Tryd.prog 3 #[.int .i64 f, .bool iface, .string nm] w fun e w' => e = .returned (.bool true) ∧ Below w.heap.size w w' := by
  have HA : Hid (Calls Tryd.prog 7 _ w _) := awake_any w h
  have HC : Hid (∀ w : World, _) := CheckClass_any f hf
  have HD : Hid (∀ w : World, _) := rCheckClass_any f
  have HM : Hid (∀ w : World, _) := CheckMethod_any f hf iface nm
  have HN : Hid (∀ w : World, _) := rCheckMethod_any f iface nm
  have HO : Hid (∀ w : World, _) := Open_any f
  have HP : Hid (∀ w : World, _) := rOpen_any f
  have HT : Hid (∀ w1 : World, Below w.heap.size w w1 → Calls Tryd.prog 14 #[.int .i64 f] w1 _) := fun w1 hb => ClassText_any f hf w1 (h.keep hb)
  have HU : Hid (∀ w : World, _) := rClassText_any f
  have HV : Hid (∀ w1 : World, Below w.heap.size w w1 → Calls Tryd.prog 16 #[.int .i64 f] w1 _) := fun w1 hb => MethodText_any f hf w1 (h.keep hb)
  have HW : Hid (∀ w : World, _) := rMethodText_any f
  generalize chkC f = c at *
  generalize chkM f iface (nm.toList == [60, 105, 110, 105, 116, 62]) = m at *
  generalize openI f = o at *
  generalize (textF f clsP).toArray = t1 at *
  generalize (textF f mthP).toArray = t2 at *
  generalize textE f clsP = e1 at *
  generalize textE f mthP = e2 at *
  clear h hf
  go_enter Tryd.func3, Tryd.ntmps3
  go_wp2_with (first
      | (go_at_call 7; refine HA.out.mono ?_; rintro e w1 ⟨rfl, hb1⟩)
      | (go_at_call 8; refine (HC.out _).mono ?_; rintro e w2 ⟨rfl, he⟩; subst w2)
      | (go_at_call 9; refine (HD.out _).mono ?_; rintro e w2 ⟨rfl, hb2⟩; replace hb2 := Below.step hb1 hb2)
      | (go_at_call 10; refine (HM.out _).mono ?_; rintro e w3 ⟨rfl, he⟩; subst w3)
      | (go_at_call 11; refine (HN.out _).mono ?_; rintro e w3 ⟨rfl, hb3⟩; replace hb3 := Below.step hb2 hb3)
      | (go_at_call 12; refine (HO.out _).mono ?_; rintro e w4 ⟨rfl, he⟩; subst w4)
      | (go_at_call 13; refine (HP.out _).mono ?_; rintro e w4 ⟨rfl, he⟩; subst w4)
      | (go_at_call 14; refine (HT.out _ hb3).mono ?_; rintro e w4 ⟨rfl, hb4⟩; replace hb4 := Below.step hb3 hb4)
      | (go_at_call 15; refine (HU.out _).mono ?_; rintro e w5 ⟨rfl, hb5⟩; replace hb5 := Below.step hb4 hb5)
      | (go_at_call 16; refine (HV.out _ hb5).mono ?_; rintro e w6 ⟨rfl, hb6⟩; replace hb6 := Below.step hb5 hb6)
      | (go_at_call 17; refine (HW.out _).mono ?_; rintro e w7 ⟨rfl, hb7⟩; replace hb7 := Below.step hb6 hb7))
  go_ret
  exact ⟨ret_bool (by simp), hb7⟩
end Go.Proofs.YtdkjapfnilbomaaDoor
