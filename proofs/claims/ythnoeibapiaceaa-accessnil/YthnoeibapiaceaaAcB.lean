/- ClassOpen of a new world; every call on a nil world; the law AccessNil: the walk. -/
import Derived.Test.YthnoeibapiaceaaAcA
namespace Go.Proofs.Ythnoeibapiaceaa
open Go.RowKit Go.Maps

theorem plc3 : ∀ q ∈ P3, PlcB q := by
  intro q hq
  simp only [P3, List.mem_cons, List.not_mem_nil, or_false] at hq
  rcases hq with rfl | rfl | rfl
  · exact ⟨by decide, by decide, by decide, by decide, by decide⟩
  · exact ⟨by decide, by decide, by decide, by decide, by decide⟩
  · exact ⟨by decide, by decide, by decide, by decide, by decide⟩

set_option maxRecDepth 100000 in
theorem classOpen_new (N b mb : Nat) (vp : Value) (pv : List PV) (W : World) (h : HW W N b mb P3 vp pv) : Calls Try.prog 5 #[.pointer (some ⟨b, 0, none⟩), .int .i64 1, .int .i64 0] W fun e w' => e = .returned (.tuple #[.bool true, .int .i64 0]) ∧ Below W.heap.size W w' := by
  have HI : Hid (∀ w : World, Below W.heap.size W w → Calls Try.prog 11 #[.pointer (some ⟨b, 0, none⟩), .int .i64 1, .int .i64 0] w fun e w' => e = .returned (.bool true) ∧ Below w.heap.size w w') := fun w hb => isClassOpen_pub N b mb P3 vp pv 1 0 ⟨objH, 0, []⟩ w (h.below hb) rfl (plc3 _ (by simp [P3])) (by decide)
  have HC : Hid (∀ (w : World) (v : Value), Below W.heap.size W w → Rds w v 2 1 [.int .i64 1, .int .i64 0] → Calls Try.prog 10 #[.pointer (some ⟨b, 0, none⟩), v] w fun e w' => e = .returned (.int .i64 0) ∧ Below w.heap.size w w') := fun w v hb hv => check_any N b mb P3 vp pv v [1, 0] w (h.below hb) hv (by decide)
  clear h
  go_enter Try.func5, Try.ntmps5
  go_wp2_with (first
    | (go_at_call 10; refine (HC.out _ _ ((Below.refl _ _).alloc (Nat.le_refl _) _) (rds_at _ _ rfl _ 3 2 1 rfl (by decide))).mono ?_; rintro e w1 ⟨rfl, hb⟩; have B1 : Hid (Below W.heap.size W w1) := bstep ((Below.refl _ _).alloc (Nat.le_refl _) _) hb; clear hb HC)
    | (go_at_call 11; refine (HI.out _ B1.out).mono ?_; rintro e w2 ⟨rfl, hb⟩; have B2 : Hid (Below W.heap.size W w2) := bstep B1.out hb; clear hb HI))
  exact bodyPost_ret (results_tmp2 rfl _ _ _) rfl ⟨rfl, B2.out⟩
set_option maxRecDepth 100000 in
theorem classOpen_nil (W : World) : Calls Try.prog 5 #[.pointer none, .int .i64 0, .int .i64 0] W fun e w' => e = .returned (.tuple #[.bool false, .int .i64 2]) ∧ Below W.heap.size W w' := by
  have HC : Hid (∀ (w : World) (v : Value), Calls Try.prog 10 #[.pointer none, v] w fun e w' => e = .returned (.int .i64 2) ∧ w' = w) := fun w v => check_nil v w
  go_enter Try.func5, Try.ntmps5
  go_wp2_with (go_at_call 10; refine (HC.out _ _).mono ?_; rintro e w9 ⟨rfl, hw9⟩; rw [hw9]; clear hw9 w9)
  exact bodyPost_ret (results_tmp2 rfl _ _ _) rfl ⟨rfl, (Below.refl _ _).alloc (Nat.le_refl _) _⟩
set_option maxRecDepth 100000 in
theorem typeOpen_nil (W : World) (d : Int) (s : ByteArray) : Calls Try.prog 6 #[.pointer none, .int .i64 0, .agg #[.int .i64 d, .string s]] W fun e w' => e = .returned (.tuple #[.bool false, .int .i64 2]) ∧ Below W.heap.size W w' := by
  have HC : Hid (∀ (w : World) (v : Value), Calls Try.prog 10 #[.pointer none, v] w fun e w' => e = .returned (.int .i64 2) ∧ w' = w) := fun w v => check_nil v w
  go_enter Try.func6, Try.ntmps6
  go_wp2_with (go_at_call 10; refine (HC.out _ _).mono ?_; rintro e w9 ⟨rfl, hw9⟩; rw [hw9]; clear hw9 w9)
  refine bodyPost_ret (results_tmp2 rfl _ _ _) rfl ⟨rfl, ?_⟩
  repeat (first | exact Below.refl _ _ | refine Below.setCell ?_ (by simp; try omega) _ | refine Below.alloc ?_ (by simp; try omega) _)
set_option maxRecDepth 100000 in
theorem methodOpen_nil (W : World) (c i : Int) : Calls Try.prog 7 #[.pointer none, .int .i64 0, .agg #[.int .i64 c, .int .i64 i], .int .i64 0] W fun e w' => e = .returned (.tuple #[.bool false, .int .i64 2]) ∧ Below W.heap.size W w' := by
  have HC : Hid (∀ (w : World) (v : Value), Calls Try.prog 10 #[.pointer none, v] w fun e w' => e = .returned (.int .i64 2) ∧ w' = w) := fun w v => check_nil v w
  go_enter Try.func7, Try.ntmps7
  go_wp2_with (go_at_call 10; refine (HC.out _ _).mono ?_; rintro e w9 ⟨rfl, hw9⟩; rw [hw9]; clear hw9 w9)
  refine bodyPost_ret (results_tmp2 rfl _ _ _) rfl ⟨rfl, ?_⟩
  repeat (first | exact Below.refl _ _ | refine Below.setCell ?_ (by simp; try omega) _ | refine Below.alloc ?_ (by simp; try omega) _)
set_option maxRecDepth 100000 in
theorem package_nil (W : World) : Calls Try.prog 8 #[.pointer none, .int .i64 0] W fun e w' => e = .returned (.tuple #[.int .i64 0, .string ⟨#[]⟩, .int .i64 2]) ∧ Below W.heap.size W w' := by
  have HC : Hid (∀ (w : World) (v : Value), Calls Try.prog 10 #[.pointer none, v] w fun e w' => e = .returned (.int .i64 2) ∧ w' = w) := fun w v => check_nil v w
  go_enter Try.func8, Try.ntmps8
  go_wp2_with (go_at_call 10; refine (HC.out _ _).mono ?_; rintro e w9 ⟨rfl, hw9⟩; rw [hw9]; clear hw9 w9)
  refine bodyPost_ret (v := .tuple #[.int .i64 0, .string ⟨#[]⟩, .int .i64 2]) (by simp [results, Try.results8, go_sem]) rfl ⟨rfl, ?_⟩
  repeat (first | exact Below.refl _ _ | refine Below.setCell ?_ (by simp; try omega) _ | refine Below.alloc ?_ (by simp; try omega) _)

set_option maxRecDepth 100000 in
theorem awake8_any (W : World) : Calls Try.prog 4 #[] W fun e w' => e = .returned (.bool true) ∧ Below W.heap.size W w' := by
  have HN : Hid (∀ w : World, Calls Try.prog 9 #[] w fun e w' => e = .returned (.pointer (some ⟨w.heap.size + 1, 0, none⟩)) ∧ (∃ vp pv, HW w' w.heap.size (w.heap.size + 1) w.heap.size P3 vp pv) ∧ Below w.heap.size w w') := new_any
  have HO : Hid (∀ (w : World) (N b mb : Nat) (vp : Value) (pv : List PV), HW w N b mb P3 vp pv → Calls Try.prog 5 #[.pointer (some ⟨b, 0, none⟩), .int .i64 1, .int .i64 0] w fun e w' => e = .returned (.tuple #[.bool true, .int .i64 0]) ∧ Below w.heap.size w w') := fun w N b mb vp pv h => classOpen_new N b mb vp pv w h
  go_enter Try.func4, Try.ntmps4
  go_wp2_with (first
    | (go_at_call 9; refine (HN.out _).mono ?_; rintro e w1 ⟨rfl, ⟨vp, pv, hw⟩, hb⟩; have H1 : Hid (HW w1 W.heap.size (W.heap.size + 1) W.heap.size P3 vp pv) := hw; have B1 : Hid (Below W.heap.size W w1) := hb; clear hw hb HN)
    | (go_at_call 5; refine (HO.out _ _ _ _ _ _ H1.out).mono ?_; rintro e w2 ⟨rfl, hb⟩; have B2 : Hid (Below W.heap.size W w2) := bstep B1.out hb; clear hb HO))
  exact bodyPost_ret (results_tmp rfl _ _ _) rfl ⟨rfl, B2.out⟩

set_option maxRecDepth 100000 in
set_option maxHeartbeats 4000000 in
theorem AccessNil_any (W : World) : Calls Try.prog 3 #[] W fun e w' => e = .returned (.bool true) ∧ Below W.heap.size W w' := by
  have HA : Hid (∀ w : World, Calls Try.prog 4 #[] w fun e w' => e = .returned (.bool true) ∧ Below w.heap.size w w') := awake8_any
  go_enter Try.func3, Try.ntmps3
  go_wp2_with (first
    | (go_at_call 4; refine (HA.out _).mono ?_; rintro e w1 ⟨rfl, hb⟩; have B1 : Hid (Below W.heap.size W w1) := hb; clear hb HA)
    | (go_at_call 5; refine (classOpen_nil _).mono ?_; rintro e w2 ⟨rfl, hb⟩; have B2 : Hid (Below W.heap.size W w2) := (by first | exact bstep B1.out hb | exact bstep (B1.out.alloc B1.out.size _) hb); clear hb)
    | (go_at_call 6; refine (typeOpen_nil _ _ _).mono ?_; rintro e w3 ⟨rfl, hb⟩; have B3 : Hid (Below W.heap.size W w3) := (by first | exact bstep B2.out hb | exact bstep (B2.out.alloc B2.out.size _) hb); clear hb)
    | (go_at_call 7; refine (methodOpen_nil _ _ _).mono ?_; rintro e w4 ⟨rfl, hb⟩; have B4 : Hid (Below W.heap.size W w4) := (by first | exact bstep B3.out hb | exact bstep (B3.out.alloc B3.out.size _) hb); clear hb)
    | (go_at_call 8; refine (package_nil _).mono ?_; rintro e w5 ⟨rfl, hb⟩; have B5 : Hid (Below W.heap.size W w5) := (by first | exact bstep B4.out hb | exact bstep (B4.out.alloc B4.out.size _) hb); clear hb))
  exact bodyPost_ret (results_tmp rfl _ _ _) rfl ⟨rfl, by first | exact B5.out | exact B5.out.alloc B5.out.size _⟩
end Go.Proofs.Ythnoeibapiaceaa
