/- The law of a nil world (HierNil): the walk. -/
import Derived.Test.YtfkdemkdkepmdaaGreatHrI
namespace Go.Proofs.YtfkdemkdkepmdaaGreat
open Go.RowKit Go.Maps

set_option maxRecDepth 100000 in
set_option maxHeartbeats 4000000 in
theorem HierNil_any (W : World) : Calls Tryz.prog 8 #[] W fun e w' => e = .returned (.bool true) ∧ Below W.heap.size W w' := by
  have HA : Hid (∀ w : World, Calls Tryz.prog 9 #[] w fun e w' => e = .returned (.bool true) ∧ Below w.heap.size w w') := awake_any
  go_enter Tryz.func8, Tryz.ntmps8
  go_wp2_with (first
    | (go_at_call 9; refine (HA.out _).mono ?_; rintro e w1 ⟨rfl, hb⟩; have B1 : Hid (Below W.heap.size W w1) := hb; clear hb HA)
    | (go_at_call 38; refine (define_nil _ _ _).mono ?_; rintro e w2 ⟨rfl, hb⟩; have B2 : Hid (Below W.heap.size W w2) := (by first | exact bstep B1.out hb | exact bstep (B1.out.alloc B1.out.size _) hb); clear hb)
    | (go_at_call 12; refine (class_nil _ _).mono ?_; rintro e w3 ⟨rfl, hb⟩; have B3 : Hid (Below W.heap.size W w3) := (by first | exact bstep B2.out hb | exact bstep (B2.out.alloc B2.out.size _) hb); clear hb)
    | (go_at_call 15; refine (byName_nil _ _).mono ?_; rintro e w9 ⟨rfl, hw9⟩; rw [hw9]; clear hw9 w9)
    | (go_at_call 16; refine (super_nil _ _).mono ?_; rintro e w4 ⟨rfl, hb⟩; have B4 : Hid (Below W.heap.size W w4) := (by first | exact bstep B3.out hb | exact bstep (B3.out.alloc B3.out.size _) hb); clear hb)
    | (go_at_call 18; refine (depth_nil _ _).mono ?_; rintro e w5 ⟨rfl, hb⟩; have B5 : Hid (Below W.heap.size W w5) := (by first | exact bstep B4.out hb | exact bstep (B4.out.alloc B4.out.size _) hb); clear hb)
    | (go_at_call 20; refine (chain_nil _ _).mono ?_; rintro e w6 ⟨rfl, hb⟩; have B6 : Hid (Below W.heap.size W w6) := (by first | exact bstep B5.out hb | exact bstep (B5.out.alloc B5.out.size _) hb); clear hb)
    | (go_at_call 23; refine (closure_nil _ _).mono ?_; rintro e w7 ⟨rfl, hb⟩; have B7 : Hid (Below W.heap.size W w7) := (by first | exact bstep B6.out hb | exact bstep (B6.out.alloc B6.out.size _) hb); clear hb)
    | (go_at_call 31; refine (find_nil _ _ _ _).mono ?_; rintro e w8 ⟨rfl, hb⟩; have B8 : Hid (Below W.heap.size W w8) := (by first | exact bstep B7.out hb | exact bstep (B7.out.alloc B7.out.size _) hb); clear hb)
    | (go_at_call 33; refine (method_nil _ _ _).mono ?_; rintro e w9 ⟨rfl, hb⟩; have B9 : Hid (Below W.heap.size W w9) := (by first | exact bstep B8.out hb | exact bstep (B8.out.alloc B8.out.size _) hb); clear hb)
    | (go_at_call 11; refine (len_nil  _).mono ?_; rintro e w9 ⟨rfl, hw9⟩; rw [hw9]; clear hw9 w9)
    | (go_at_call 25; refine (extends_nil _ _ _).mono ?_; rintro e w10 ⟨rfl, hb⟩; have B10 : Hid (Below W.heap.size W w10) := (by first | exact bstep B9.out hb | exact bstep (B9.out.alloc B9.out.size _) hb); clear hb)
    | (go_at_call 27; refine (isIface_nil _ _).mono ?_; rintro e w11 ⟨rfl, hb⟩; have B11 : Hid (Below W.heap.size W w11) := (by first | exact bstep B10.out hb | exact bstep (B10.out.alloc B10.out.size _) hb); clear hb)
    | (go_at_call 29; refine (samePkg_nil _ _ _).mono ?_; rintro e w12 ⟨rfl, hb⟩; have B12 : Hid (Below W.heap.size W w12) := (by first | exact bstep B11.out hb | exact bstep (B11.out.alloc B11.out.size _) hb); clear hb))
  exact bodyPost_ret (results_tmp rfl _ _ _) rfl ⟨rfl, by first | exact B12.out | exact B12.out.alloc B12.out.size _⟩
end Go.Proofs.YtfkdemkdkepmdaaGreat
