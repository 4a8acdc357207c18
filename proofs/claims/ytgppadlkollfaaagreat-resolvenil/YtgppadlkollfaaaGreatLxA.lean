/- Layer 11: a new world, worlds of a list, a nil world; the law ResolveNil. -/
import Derived.Test.YtgppadlkollfaaaGreatRsD
import Derived.Test.YtgppadlkollfaaaGreatRsF
namespace Go.Proofs.YtgppadlkollfaaaGreat
open Go.RowKit Go.Maps



def strObj : ByteArray := ⟨#[79, 98, 106, 101, 99, 116]⟩
def strId : ByteArray := ⟨#[105, 100]⟩
def strD : ByteArray := ⟨#[40, 41, 73]⟩
theorem met3 : metR P3 0 false strObj strId strD = ((0, 1), 0) := by kernel_rfl
set_option maxRecDepth 100000 in
theorem awake11_c (W : World) : Calls Tryz.prog 46 #[] W fun e w' => e = .returned (.bool true) ∧ Below W.heap.size W w' := by
  have HN : Hid (∀ w : World, Calls Tryz.prog 66 #[] w fun e w' => ∃ b, e = .returned (.pointer (some ⟨b, 0, none⟩)) ∧ WAt b P3 w' ∧ Below w.heap.size w w') := fun w => (new_any w).mono fun e w' zz => ⟨_, zz.1, by obtain ⟨vp, pv, hw⟩ := zz.2.1; exact hw.wat, zz.2.2⟩
  have HM : Hid (∀ (w : World) (b : Nat), WAt b P3 w → Calls Tryz.prog 47 #[.pointer (some ⟨b, 0, none⟩), .int .i64 0, .agg #[.bool false, .string ⟨#[79, 98, 106, 101, 99, 116]⟩, .string ⟨#[105, 100]⟩, .string ⟨#[40, 41, 73]⟩]] w fun e w' => e = .returned (.tuple #[.agg #[.int .i64 0, .int .i64 1], .int .i64 0]) ∧ Below w.heap.size w w') := fun w b h => (met_c h wi3 0 false strObj strId strD (by decide) (by decide) (by decide)).mono fun e w' zz => ⟨by rw [zz.1, met3]; rfl, zz.2⟩
  have BB : Hid (Below W.heap.size W W) := Below.refl _ _
  go_enter Tryz.func46, Tryz.ntmps46
  go_wp2_with (first
    | (go_at_call 66; refine (HN.out _).mono ?_; rintro e w1 ⟨b, rfl, hw, hb⟩; have BB2 : Below W.heap.size W w1 := bstep (by repeat (first | exact BB.out | exact Below.refl _ _ | refine Below.setCell ?_ (by simp; try omega) _ | refine Below.alloc ?_ (by have := BB.out.size; simp; try omega) _ | refine Below.drew ?_)) hb; clear BB; have BB : Hid (Below W.heap.size W w1) := BB2; (try clear HH); have HH : Hid (WAt b P3 w1) := hw; clear hw hb BB2)
    | (go_at_call 47; refine (HM.out _ _ HH.out).mono ?_; rintro e w2 ⟨rfl, hb⟩; have BB2 := bstep BB.out hb; clear BB; have BB : Hid (Below W.heap.size W w2) := BB2; clear hb BB2 HM))
  exact bodyPost_ret (results_tmp rfl _ _ _) rfl ⟨rfl, (by repeat (first | exact BB.out | exact Below.refl _ _ | refine Below.setCell ?_ (by simp; try omega) _ | refine Below.alloc ?_ (by have := BB.out.size; simp; try omega) _ | refine Below.drew ?_))⟩
set_option maxRecDepth 100000 in
theorem cls_nil (d : Int) (s : ByteArray) (W : World) : Calls Tryz.prog 50 #[.pointer none, .int .i64 d, .string s] W fun e w' => e = .returned (tyE ((0, ⟨#[]⟩), 2)) ∧ Below W.heap.size W w' := by
  have HC : Hid (∀ w : World, Calls Tryz.prog 110 #[.pointer none, .int .i64 d] w fun e w' => e = .returned (.int .i64 2) ∧ w' = w) := fun w => rck_nil d w
  go_enter Tryz.func50, Tryz.ntmps50
  go_wp2_with (go_at_call 110; refine (HC.out _).mono ?_; rintro e w9 ⟨rfl, hw9⟩; rw [hw9]; clear hw9 w9)
  exact bodyPost_ret (v := tyE ((0, ⟨#[]⟩), 2)) (by simp [results, Tryz.results50, go_sem, tyE]) rfl ⟨rfl, (by repeat (first | exact Below.refl _ _ | refine Below.setCell ?_ (by simp; try omega) _ | refine Below.alloc ?_ (by simp; try omega) _ | refine Below.drew ?_))⟩
set_option maxRecDepth 100000 in
theorem look_nil (c : Int) (nm ds : ByteArray) (W : World) : Calls Tryz.prog 53 #[.pointer none, .int .i64 c, .string nm, .string ds] W fun e w' => e = .returned (idE ((0, 0), 2)) ∧ Below W.heap.size W w' := by
  have HC : Hid (∀ w : World, Calls Tryz.prog 110 #[.pointer none, .int .i64 c] w fun e w' => e = .returned (.int .i64 2) ∧ w' = w) := fun w => rck_nil c w
  go_enter Tryz.func53, Tryz.ntmps53
  go_wp2_with (go_at_call 110; refine (HC.out _).mono ?_; rintro e w9 ⟨rfl, hw9⟩; rw [hw9]; clear hw9 w9)
  exact bodyPost_ret (v := idE ((0, 0), 2)) (by simp [results, Tryz.results53, go_sem, idE]) rfl ⟨rfl, (by repeat (first | exact Below.refl _ _ | refine Below.setCell ?_ (by simp; try omega) _ | refine Below.alloc ?_ (by simp; try omega) _ | refine Below.drew ?_))⟩
set_option maxRecDepth 100000 in
theorem lif_nil (c : Int) (nm ds : ByteArray) (W : World) : Calls Tryz.prog 55 #[.pointer none, .int .i64 c, .string nm, .string ds] W fun e w' => e = .returned (idE ((0, 0), 2)) ∧ Below W.heap.size W w' := by
  have HC : Hid (∀ w : World, Calls Tryz.prog 110 #[.pointer none, .int .i64 c] w fun e w' => e = .returned (.int .i64 2) ∧ w' = w) := fun w => rck_nil c w
  go_enter Tryz.func55, Tryz.ntmps55
  go_wp2_with (go_at_call 110; refine (HC.out _).mono ?_; rintro e w9 ⟨rfl, hw9⟩; rw [hw9]; clear hw9 w9)
  exact bodyPost_ret (v := idE ((0, 0), 2)) (by simp [results, Tryz.results55, go_sem, idE]) rfl ⟨rfl, (by repeat (first | exact Below.refl _ _ | refine Below.setCell ?_ (by simp; try omega) _ | refine Below.alloc ?_ (by simp; try omega) _ | refine Below.drew ?_))⟩
set_option maxRecDepth 100000 in
theorem met_nil (d : Int) (y : Bool) (c nm ds : ByteArray) (W : World) : Calls Tryz.prog 47 #[.pointer none, .int .i64 d, .agg #[.bool y, .string c, .string nm, .string ds]] W fun e w' => e = .returned (idE ((0, 0), 2)) ∧ Below W.heap.size W w' := by
  have HC : Hid (∀ w : World, Calls Tryz.prog 110 #[.pointer none, .int .i64 d] w fun e w' => e = .returned (.int .i64 2) ∧ w' = w) := fun w => rck_nil d w
  go_enter Tryz.func47, Tryz.ntmps47
  go_wp2_with (go_at_call 110; refine (HC.out _).mono ?_; rintro e w9 ⟨rfl, hw9⟩; rw [hw9]; clear hw9 w9)
  exact bodyPost_ret (v := idE ((0, 0), 2)) (by simp [results, Tryz.results47, go_sem, idE]) rfl ⟨rfl, (by repeat (first | exact Below.refl _ _ | refine Below.setCell ?_ (by simp; try omega) _ | refine Below.alloc ?_ (by simp; try omega) _ | refine Below.drew ?_))⟩
set_option maxRecDepth 100000 in
set_option maxHeartbeats 4000000 in
theorem ResolveNil_any (W : World) : Calls Tryz.prog 13 #[] W fun e w' => e = .returned (.bool true) ∧ Below W.heap.size W w' := by
  have HA : Hid (∀ w : World, Calls Tryz.prog 46 #[] w fun e w' => e = .returned (.bool true) ∧ Below w.heap.size w w') := awake11_c
  have H1 : Hid (∀ d s (w : World), Calls Tryz.prog 50 #[.pointer none, .int .i64 d, .string s] w fun e w' => e = .returned (.tuple #[.agg #[.int .i64 0, .string ⟨#[]⟩], .int .i64 2]) ∧ Below w.heap.size w w') := cls_nil
  have H2 : Hid (∀ d s t (w : World), Calls Tryz.prog 53 #[.pointer none, .int .i64 d, .string s, .string t] w fun e w' => e = .returned (.tuple #[.agg #[.int .i64 0, .int .i64 0], .int .i64 2]) ∧ Below w.heap.size w w') := look_nil
  have H3 : Hid (∀ d s t (w : World), Calls Tryz.prog 55 #[.pointer none, .int .i64 d, .string s, .string t] w fun e w' => e = .returned (.tuple #[.agg #[.int .i64 0, .int .i64 0], .int .i64 2]) ∧ Below w.heap.size w w') := lif_nil
  have H4 : Hid (∀ d y c n s (w : World), Calls Tryz.prog 47 #[.pointer none, .int .i64 d, .agg #[.bool y, .string c, .string n, .string s]] w fun e w' => e = .returned (.tuple #[.agg #[.int .i64 0, .int .i64 0], .int .i64 2]) ∧ Below w.heap.size w w') := met_nil
  have BB : Hid (Below W.heap.size W W) := Below.refl _ _
  go_enter Tryz.func13, Tryz.ntmps13
  go_wp2_with (first
    | (go_at_call 46; refine (HA.out _).mono ?_; rintro e w1 ⟨rfl, hb⟩; have BB2 : Below W.heap.size W w1 := bstep (by repeat (first | exact BB.out | exact Below.refl _ _ | refine Below.setCell ?_ (by simp; try omega) _ | refine Below.alloc ?_ (by have := BB.out.size; simp; try omega) _ | refine Below.drew ?_)) hb; clear BB; have BB : Hid (Below W.heap.size W w1) := BB2; clear hb BB2 HA)
    | (go_at_call 50; refine (H1.out _ _ _).mono ?_; rintro e w2 ⟨rfl, hb⟩; have BB2 : Below W.heap.size W w2 := bstep (by repeat (first | exact BB.out | exact Below.refl _ _ | refine Below.setCell ?_ (by simp; try omega) _ | refine Below.alloc ?_ (by have := BB.out.size; simp; try omega) _ | refine Below.drew ?_)) hb; clear BB; have BB : Hid (Below W.heap.size W w2) := BB2; clear hb BB2 H1)
    | (go_at_call 53; refine (H2.out _ _ _ _).mono ?_; rintro e w3 ⟨rfl, hb⟩; have BB2 : Below W.heap.size W w3 := bstep (by repeat (first | exact BB.out | exact Below.refl _ _ | refine Below.setCell ?_ (by simp; try omega) _ | refine Below.alloc ?_ (by have := BB.out.size; simp; try omega) _ | refine Below.drew ?_)) hb; clear BB; have BB : Hid (Below W.heap.size W w3) := BB2; clear hb BB2 H2)
    | (go_at_call 55; refine (H3.out _ _ _ _).mono ?_; rintro e w4 ⟨rfl, hb⟩; have BB2 : Below W.heap.size W w4 := bstep (by repeat (first | exact BB.out | exact Below.refl _ _ | refine Below.setCell ?_ (by simp; try omega) _ | refine Below.alloc ?_ (by have := BB.out.size; simp; try omega) _ | refine Below.drew ?_)) hb; clear BB; have BB : Hid (Below W.heap.size W w4) := BB2; clear hb BB2 H3)
    | (go_at_call 47; refine (H4.out _ _ _ _ _ _).mono ?_; rintro e w5 ⟨rfl, hb⟩; have BB2 : Below W.heap.size W w5 := bstep (by repeat (first | exact BB.out | exact Below.refl _ _ | refine Below.setCell ?_ (by simp; try omega) _ | refine Below.alloc ?_ (by have := BB.out.size; simp; try omega) _ | refine Below.drew ?_)) hb; clear BB; have BB : Hid (Below W.heap.size W w5) := BB2; clear hb BB2 H4))
  exact bodyPost_ret (results_tmp rfl _ _ _) rfl ⟨rfl, (by repeat (first | exact BB.out | exact Below.refl _ _ | refine Below.setCell ?_ (by simp; try omega) _ | refine Below.alloc ?_ (by have := BB.out.size; simp; try omega) _ | refine Below.drew ?_))⟩
end Go.Proofs.YtgppadlkollfaaaGreat
