/- Walks of package shapes: isSound: is a method sound in a class? What was there before stays. -/
import Derived.Test.YtfbhjfpkhofifaaGreatDoorSoB
namespace Go.Proofs.YtfbhjfpkhofifaaGreatDoor
open Go.RowKit

theorem mth_body (nm ds : ByteArray) (fl lo st : Int) (code : List Ins) (iface : Bool) : mthB ⟨nm, ds, fl, lo, st, code⟩ iface = (memberL nm.data.toList && (pdE ds.data.toList == 0) && (chkM fl iface (nm.toList == [60, 105, 110, 105, 116, 62]) == 0) && !((nm.toList == [60, 105, 110, 105, 116, 62]) && !voidB (pdD ds.data.toList).2) &&
    (if hasI fl 1024 then (lo == 0) && (st == 0) && ((code.length : Int) == 0) else bodyB ds.data.toList fl lo st code)) := by
  unfold mthB bodyB
  simp only
  cases memberL nm.data.toList
  · rfl
  · cases hp : (pdE ds.data.toList == 0)
    · simp
    · have hw : wdsE ds.data.toList = 0 := by rw [wdsE, if_pos (by simpa using hp)]
      rw [hw]
      have e1 : decide (wdsN ds.data.toList fl ≤ lo) = !decide (lo < wdsN ds.data.toList fl) := by by_cases h : lo < wdsN ds.data.toList fl <;> simp [h] <;> omega
      have e2 : decide (lo ≤ 40) = !decide (40 < lo) := by by_cases h : 40 < lo <;> simp [h] <;> omega
      have e3 : decide (0 ≤ st) = !decide (st < 0) := by by_cases h : st < 0 <;> simp [h] <;> omega
      have e4 : decide (st ≤ 40) = !decide (40 < st) := by by_cases h : 40 < st <;> simp [h] <;> omega
      rw [e1, e2, e3, e4]
      simp only [Bool.true_and, Bool.and_true, beq_self_eq_true]
      split
      · rfl
      · generalize (!decide (st < 0)) = x1
        generalize (!decide (40 < st)) = x2
        generalize (!decide (lo < wdsN ds.data.toList fl)) = x3
        generalize (!decide (40 < lo)) = x4
        cases x1 <;> cases x2 <;> cases x3 <;> cases x4 <;> simp

set_option maxRecDepth 100000 in
set_option maxHeartbeats 2000000 in
theorem isSound_any (nm ds : ByteArray) (fl lo st : Int) (vc : Value) (code : List Ins) (iface : Bool) (hn : nm.size ≤ maxLen) (hd : ds.size ≤ maxLen) (hf : -9223372036854775808 ≤ fl ∧ fl ≤ 9223372036854775807) (w : World) (hI : IsInss w vc code) (hok : ∀ i ∈ code, InsOK i) :
    Calls Tryz.prog 57 #[.agg #[.string nm, .string ds, .int .i64 fl, .int .i64 lo, .int .i64 st, vc], .bool iface] w fun e w' => e = .returned (.bool (mthB ⟨nm, ds, fl, lo, st, code⟩ iface)) ∧ Below w.heap.size w w' := by
  have HM : Hid (∀ w, _) := member_any nm hn
  have HCM : Hid (∀ w, _) := Fl.CheckMethod_any fl hf iface nm
  have HD : Hid (∀ w, _) := parseDesc_any ds hd
  have HI : Hid (IsInss w vc code) := hI
  have HB : Hid (∀ w', IsInss w' vc code → _) := fun w' h => body_any nm ds fl lo st vc code hd w' h hok
  have HR : Hid _ := mth_body nm ds fl lo st code iface
  have hh1 : (bits .and .i64 fl 1024 != 0) = hasI fl 1024 := rfl
  unfold DOut at HD
  obtain ⟨ao, cap, rfl, h1, h2, _⟩ := hI
  unfold maxLen at h2
  clear hn hd hok hf
  obtain ⟨K, hK⟩ : ∃ K, code.length = K := ⟨_, rfl⟩
  rw [hK] at h1 HI HB HR ⊢
  clear hK
  generalize mthB ⟨nm, ds, fl, lo, st, code⟩ iface = z at *
  generalize memberL nm.data.toList = mm at *
  generalize qi : (nm.toList == [60, 105, 110, 105, 116, 62]) = ini at *
  generalize chkM fl iface ini = ck at *
  generalize bodyB ds.data.toList fl lo st code = bb at *
  generalize pdE ds.data.toList = pd at *
  generalize (pdD ds.data.toList).1 = pa at *
  generalize (pdD ds.data.toList).2 = pr at *
  generalize voidB pr = vd at *
  generalize hasI fl 1024 = hh at *
  generalize hpd : (pd == 0) = q0 at *
  generalize hck : (ck == 0) = q1 at *
  have hpd2 : (pd != 0) = !q0 := by rw [bne, hpd]
  have hck2 : (ck != 0) = !q1 := by rw [bne, hck]
  generalize hl0 : (lo == 0) = q2 at *
  generalize hs0 : (st == 0) = q3 at *
  generalize hk0 : ((K : Int) == 0) = q4 at *
  cases mm with
  | false =>
    go_enter Tryz.func57, Tryz.ntmps57
    go_wp2_with (first
      | (go_at_call 32; refine ((HD.out) _).mono ?_; rintro e w1 ⟨v, rfl, ho, hb1⟩; obtain ⟨v1, v2, rfl⟩ := own_slice ho; have hs1 : w.heap.size < w1.heap.size := (by have := hb1.size; simp at this; omega); have a0 : w1.cell? ⟨w.heap.size, 0, none⟩ = some (.string nm) := (hb1.cell (p := ⟨w.heap.size, 0, none⟩) (by simp)).trans (by simp [go_sem, *]); have a1 : w1.cell? ⟨w.heap.size, 1, none⟩ = some (.string ds) := (hb1.cell (p := ⟨w.heap.size, 1, none⟩) (by simp)).trans (by simp [go_sem, *]); have a2 : w1.cell? ⟨w.heap.size, 2, none⟩ = some (.int .i64 fl) := (hb1.cell (p := ⟨w.heap.size, 2, none⟩) (by simp)).trans (by simp [go_sem, *]); have a3 : w1.cell? ⟨w.heap.size, 3, none⟩ = some (.int .i64 lo) := (hb1.cell (p := ⟨w.heap.size, 3, none⟩) (by simp)).trans (by simp [go_sem, *]); have a4 : w1.cell? ⟨w.heap.size, 4, none⟩ = some (.int .i64 st) := (hb1.cell (p := ⟨w.heap.size, 4, none⟩) (by simp)).trans (by simp [go_sem, *]); have a5 : w1.cell? ⟨w.heap.size, 5, none⟩ = some (.slice ao K cap) := (hb1.cell (p := ⟨w.heap.size, 5, none⟩) (by simp)).trans (by simp [go_sem, *]); have B1 : Hid (Below w.heap.size w w1) := Below.step ((Below.refl _ _).alloc (Nat.le_refl _) _) hb1; clear hb1 ho)
      | (go_at_call 103; refine ((HM.out) _).mono ?_; rintro e w2 ⟨rfl, hw2⟩; rw [hw2]; clear hw2)
      | (go_at_call 104; refine ((HCM.out) _).mono ?_; rintro e w2 ⟨rfl, hw2⟩; rw [hw2]; clear hw2))
    go_ret
    exact ⟨ret_bool (by rw [HR.out]; simp [*]), B1.out.alloc B1.out.size _⟩
  | true =>
  cases q0 with
  | false =>
    go_enter Tryz.func57, Tryz.ntmps57
    go_wp2_with (first
      | (go_at_call 32; refine ((HD.out) _).mono ?_; rintro e w1 ⟨v, rfl, ho, hb1⟩; obtain ⟨v1, v2, rfl⟩ := own_slice ho; have hs1 : w.heap.size < w1.heap.size := (by have := hb1.size; simp at this; omega); have a0 : w1.cell? ⟨w.heap.size, 0, none⟩ = some (.string nm) := (hb1.cell (p := ⟨w.heap.size, 0, none⟩) (by simp)).trans (by simp [go_sem, *]); have a1 : w1.cell? ⟨w.heap.size, 1, none⟩ = some (.string ds) := (hb1.cell (p := ⟨w.heap.size, 1, none⟩) (by simp)).trans (by simp [go_sem, *]); have a2 : w1.cell? ⟨w.heap.size, 2, none⟩ = some (.int .i64 fl) := (hb1.cell (p := ⟨w.heap.size, 2, none⟩) (by simp)).trans (by simp [go_sem, *]); have a3 : w1.cell? ⟨w.heap.size, 3, none⟩ = some (.int .i64 lo) := (hb1.cell (p := ⟨w.heap.size, 3, none⟩) (by simp)).trans (by simp [go_sem, *]); have a4 : w1.cell? ⟨w.heap.size, 4, none⟩ = some (.int .i64 st) := (hb1.cell (p := ⟨w.heap.size, 4, none⟩) (by simp)).trans (by simp [go_sem, *]); have a5 : w1.cell? ⟨w.heap.size, 5, none⟩ = some (.slice ao K cap) := (hb1.cell (p := ⟨w.heap.size, 5, none⟩) (by simp)).trans (by simp [go_sem, *]); have B1 : Hid (Below w.heap.size w w1) := Below.step ((Below.refl _ _).alloc (Nat.le_refl _) _) hb1; clear hb1 ho)
      | (go_at_call 103; refine ((HM.out) _).mono ?_; rintro e w2 ⟨rfl, hw2⟩; rw [hw2]; clear hw2)
      | (go_at_call 104; refine ((HCM.out) _).mono ?_; rintro e w2 ⟨rfl, hw2⟩; rw [hw2]; clear hw2))
    go_ret
    exact ⟨ret_bool (by rw [HR.out]; simp [*]), B1.out.alloc B1.out.size _⟩
  | true =>
  cases q1 with
  | false =>
    go_enter Tryz.func57, Tryz.ntmps57
    go_wp2_with (first
      | (go_at_call 32; refine ((HD.out) _).mono ?_; rintro e w1 ⟨v, rfl, ho, hb1⟩; obtain ⟨v1, v2, rfl⟩ := own_slice ho; have hs1 : w.heap.size < w1.heap.size := (by have := hb1.size; simp at this; omega); have a0 : w1.cell? ⟨w.heap.size, 0, none⟩ = some (.string nm) := (hb1.cell (p := ⟨w.heap.size, 0, none⟩) (by simp)).trans (by simp [go_sem, *]); have a1 : w1.cell? ⟨w.heap.size, 1, none⟩ = some (.string ds) := (hb1.cell (p := ⟨w.heap.size, 1, none⟩) (by simp)).trans (by simp [go_sem, *]); have a2 : w1.cell? ⟨w.heap.size, 2, none⟩ = some (.int .i64 fl) := (hb1.cell (p := ⟨w.heap.size, 2, none⟩) (by simp)).trans (by simp [go_sem, *]); have a3 : w1.cell? ⟨w.heap.size, 3, none⟩ = some (.int .i64 lo) := (hb1.cell (p := ⟨w.heap.size, 3, none⟩) (by simp)).trans (by simp [go_sem, *]); have a4 : w1.cell? ⟨w.heap.size, 4, none⟩ = some (.int .i64 st) := (hb1.cell (p := ⟨w.heap.size, 4, none⟩) (by simp)).trans (by simp [go_sem, *]); have a5 : w1.cell? ⟨w.heap.size, 5, none⟩ = some (.slice ao K cap) := (hb1.cell (p := ⟨w.heap.size, 5, none⟩) (by simp)).trans (by simp [go_sem, *]); have B1 : Hid (Below w.heap.size w w1) := Below.step ((Below.refl _ _).alloc (Nat.le_refl _) _) hb1; clear hb1 ho)
      | (go_at_call 103; refine ((HM.out) _).mono ?_; rintro e w2 ⟨rfl, hw2⟩; rw [hw2]; clear hw2)
      | (go_at_call 104; refine ((HCM.out) _).mono ?_; rintro e w2 ⟨rfl, hw2⟩; rw [hw2]; clear hw2))
    go_ret
    exact ⟨ret_bool (by rw [HR.out]; simp [*]), B1.out.alloc B1.out.size _⟩
  | true =>
  by_cases hv : ini = true ∧ vd = false
  · obtain ⟨rfl, rfl⟩ := hv
    go_enter Tryz.func57, Tryz.ntmps57
    go_wp2_with (first
      | (go_at_call 32; refine ((HD.out) _).mono ?_; rintro e w1 ⟨v, rfl, ho, hb1⟩; obtain ⟨v1, v2, rfl⟩ := own_slice ho; have hs1 : w.heap.size < w1.heap.size := (by have := hb1.size; simp at this; omega); have a0 : w1.cell? ⟨w.heap.size, 0, none⟩ = some (.string nm) := (hb1.cell (p := ⟨w.heap.size, 0, none⟩) (by simp)).trans (by simp [go_sem, *]); have a1 : w1.cell? ⟨w.heap.size, 1, none⟩ = some (.string ds) := (hb1.cell (p := ⟨w.heap.size, 1, none⟩) (by simp)).trans (by simp [go_sem, *]); have a2 : w1.cell? ⟨w.heap.size, 2, none⟩ = some (.int .i64 fl) := (hb1.cell (p := ⟨w.heap.size, 2, none⟩) (by simp)).trans (by simp [go_sem, *]); have a3 : w1.cell? ⟨w.heap.size, 3, none⟩ = some (.int .i64 lo) := (hb1.cell (p := ⟨w.heap.size, 3, none⟩) (by simp)).trans (by simp [go_sem, *]); have a4 : w1.cell? ⟨w.heap.size, 4, none⟩ = some (.int .i64 st) := (hb1.cell (p := ⟨w.heap.size, 4, none⟩) (by simp)).trans (by simp [go_sem, *]); have a5 : w1.cell? ⟨w.heap.size, 5, none⟩ = some (.slice ao K cap) := (hb1.cell (p := ⟨w.heap.size, 5, none⟩) (by simp)).trans (by simp [go_sem, *]); have B1 : Hid (Below w.heap.size w w1) := Below.step ((Below.refl _ _).alloc (Nat.le_refl _) _) hb1; clear hb1 ho)
      | (go_at_call 103; refine ((HM.out) _).mono ?_; rintro e w2 ⟨rfl, hw2⟩; rw [hw2]; clear hw2)
      | (go_at_call 104; refine ((HCM.out) _).mono ?_; rintro e w2 ⟨rfl, hw2⟩; rw [hw2]; clear hw2))
    go_ret
    exact ⟨ret_bool (by rw [HR.out]; simp [*]), B1.out.alloc B1.out.size _⟩
  have hvv : ini = false ∨ (ini = true ∧ vd = true) := by cases ini <;> cases vd <;> simp_all
  clear hv
  cases hh with
  | true =>
    cases q2 with
    | false =>
      rcases hvv with rfl | ⟨rfl, rfl⟩
      all_goals
        go_enter Tryz.func57, Tryz.ntmps57
        go_wp2_with (first
          | (go_at_call 32; refine ((HD.out) _).mono ?_; rintro e w1 ⟨v, rfl, ho, hb1⟩; obtain ⟨v1, v2, rfl⟩ := own_slice ho; have hs1 : w.heap.size < w1.heap.size := (by have := hb1.size; simp at this; omega); have a0 : w1.cell? ⟨w.heap.size, 0, none⟩ = some (.string nm) := (hb1.cell (p := ⟨w.heap.size, 0, none⟩) (by simp)).trans (by simp [go_sem, *]); have a1 : w1.cell? ⟨w.heap.size, 1, none⟩ = some (.string ds) := (hb1.cell (p := ⟨w.heap.size, 1, none⟩) (by simp)).trans (by simp [go_sem, *]); have a2 : w1.cell? ⟨w.heap.size, 2, none⟩ = some (.int .i64 fl) := (hb1.cell (p := ⟨w.heap.size, 2, none⟩) (by simp)).trans (by simp [go_sem, *]); have a3 : w1.cell? ⟨w.heap.size, 3, none⟩ = some (.int .i64 lo) := (hb1.cell (p := ⟨w.heap.size, 3, none⟩) (by simp)).trans (by simp [go_sem, *]); have a4 : w1.cell? ⟨w.heap.size, 4, none⟩ = some (.int .i64 st) := (hb1.cell (p := ⟨w.heap.size, 4, none⟩) (by simp)).trans (by simp [go_sem, *]); have a5 : w1.cell? ⟨w.heap.size, 5, none⟩ = some (.slice ao K cap) := (hb1.cell (p := ⟨w.heap.size, 5, none⟩) (by simp)).trans (by simp [go_sem, *]); have B1 : Hid (Below w.heap.size w w1) := Below.step ((Below.refl _ _).alloc (Nat.le_refl _) _) hb1; clear hb1 ho)
          | (go_at_call 103; refine ((HM.out) _).mono ?_; rintro e w2 ⟨rfl, hw2⟩; rw [hw2]; clear hw2)
          | (go_at_call 104; refine ((HCM.out) _).mono ?_; rintro e w2 ⟨rfl, hw2⟩; rw [hw2]; clear hw2))
        go_ret
        exact ⟨ret_bool (by rw [HR.out]; simp [*]), B1.out.alloc B1.out.size _⟩
    | true =>
    cases q3 with
    | false =>
      rcases hvv with rfl | ⟨rfl, rfl⟩
      all_goals
        go_enter Tryz.func57, Tryz.ntmps57
        go_wp2_with (first
          | (go_at_call 32; refine ((HD.out) _).mono ?_; rintro e w1 ⟨v, rfl, ho, hb1⟩; obtain ⟨v1, v2, rfl⟩ := own_slice ho; have hs1 : w.heap.size < w1.heap.size := (by have := hb1.size; simp at this; omega); have a0 : w1.cell? ⟨w.heap.size, 0, none⟩ = some (.string nm) := (hb1.cell (p := ⟨w.heap.size, 0, none⟩) (by simp)).trans (by simp [go_sem, *]); have a1 : w1.cell? ⟨w.heap.size, 1, none⟩ = some (.string ds) := (hb1.cell (p := ⟨w.heap.size, 1, none⟩) (by simp)).trans (by simp [go_sem, *]); have a2 : w1.cell? ⟨w.heap.size, 2, none⟩ = some (.int .i64 fl) := (hb1.cell (p := ⟨w.heap.size, 2, none⟩) (by simp)).trans (by simp [go_sem, *]); have a3 : w1.cell? ⟨w.heap.size, 3, none⟩ = some (.int .i64 lo) := (hb1.cell (p := ⟨w.heap.size, 3, none⟩) (by simp)).trans (by simp [go_sem, *]); have a4 : w1.cell? ⟨w.heap.size, 4, none⟩ = some (.int .i64 st) := (hb1.cell (p := ⟨w.heap.size, 4, none⟩) (by simp)).trans (by simp [go_sem, *]); have a5 : w1.cell? ⟨w.heap.size, 5, none⟩ = some (.slice ao K cap) := (hb1.cell (p := ⟨w.heap.size, 5, none⟩) (by simp)).trans (by simp [go_sem, *]); have B1 : Hid (Below w.heap.size w w1) := Below.step ((Below.refl _ _).alloc (Nat.le_refl _) _) hb1; clear hb1 ho)
          | (go_at_call 103; refine ((HM.out) _).mono ?_; rintro e w2 ⟨rfl, hw2⟩; rw [hw2]; clear hw2)
          | (go_at_call 104; refine ((HCM.out) _).mono ?_; rintro e w2 ⟨rfl, hw2⟩; rw [hw2]; clear hw2))
        go_ret
        exact ⟨ret_bool (by rw [HR.out]; simp [*]), B1.out.alloc B1.out.size _⟩
    | true =>
      rcases hvv with rfl | ⟨rfl, rfl⟩
      all_goals
        go_enter Tryz.func57, Tryz.ntmps57
        go_wp2_with (first
          | (go_at_call 32; refine ((HD.out) _).mono ?_; rintro e w1 ⟨v, rfl, ho, hb1⟩; obtain ⟨v1, v2, rfl⟩ := own_slice ho; have hs1 : w.heap.size < w1.heap.size := (by have := hb1.size; simp at this; omega); have a0 : w1.cell? ⟨w.heap.size, 0, none⟩ = some (.string nm) := (hb1.cell (p := ⟨w.heap.size, 0, none⟩) (by simp)).trans (by simp [go_sem, *]); have a1 : w1.cell? ⟨w.heap.size, 1, none⟩ = some (.string ds) := (hb1.cell (p := ⟨w.heap.size, 1, none⟩) (by simp)).trans (by simp [go_sem, *]); have a2 : w1.cell? ⟨w.heap.size, 2, none⟩ = some (.int .i64 fl) := (hb1.cell (p := ⟨w.heap.size, 2, none⟩) (by simp)).trans (by simp [go_sem, *]); have a3 : w1.cell? ⟨w.heap.size, 3, none⟩ = some (.int .i64 lo) := (hb1.cell (p := ⟨w.heap.size, 3, none⟩) (by simp)).trans (by simp [go_sem, *]); have a4 : w1.cell? ⟨w.heap.size, 4, none⟩ = some (.int .i64 st) := (hb1.cell (p := ⟨w.heap.size, 4, none⟩) (by simp)).trans (by simp [go_sem, *]); have a5 : w1.cell? ⟨w.heap.size, 5, none⟩ = some (.slice ao K cap) := (hb1.cell (p := ⟨w.heap.size, 5, none⟩) (by simp)).trans (by simp [go_sem, *]); have B1 : Hid (Below w.heap.size w w1) := Below.step ((Below.refl _ _).alloc (Nat.le_refl _) _) hb1; clear hb1 ho)
          | (go_at_call 103; refine ((HM.out) _).mono ?_; rintro e w2 ⟨rfl, hw2⟩; rw [hw2]; clear hw2)
          | (go_at_call 104; refine ((HCM.out) _).mono ?_; rintro e w2 ⟨rfl, hw2⟩; rw [hw2]; clear hw2))
        go_ret
        exact ⟨ret_bool (by rw [HR.out]; simp [*]), B1.out.alloc B1.out.size _⟩
  | false =>
    rcases hvv with rfl | ⟨rfl, rfl⟩
    all_goals
      go_enter Tryz.func57, Tryz.ntmps57
      go_wp2_with (first
        | (go_at_call 32; refine ((HD.out) _).mono ?_; rintro e w1 ⟨v, rfl, ho, hb1⟩; obtain ⟨v1, v2, rfl⟩ := own_slice ho; have hs1 : w.heap.size < w1.heap.size := (by have := hb1.size; simp at this; omega); have a0 : w1.cell? ⟨w.heap.size, 0, none⟩ = some (.string nm) := (hb1.cell (p := ⟨w.heap.size, 0, none⟩) (by simp)).trans (by simp [go_sem, *]); have a1 : w1.cell? ⟨w.heap.size, 1, none⟩ = some (.string ds) := (hb1.cell (p := ⟨w.heap.size, 1, none⟩) (by simp)).trans (by simp [go_sem, *]); have a2 : w1.cell? ⟨w.heap.size, 2, none⟩ = some (.int .i64 fl) := (hb1.cell (p := ⟨w.heap.size, 2, none⟩) (by simp)).trans (by simp [go_sem, *]); have a3 : w1.cell? ⟨w.heap.size, 3, none⟩ = some (.int .i64 lo) := (hb1.cell (p := ⟨w.heap.size, 3, none⟩) (by simp)).trans (by simp [go_sem, *]); have a4 : w1.cell? ⟨w.heap.size, 4, none⟩ = some (.int .i64 st) := (hb1.cell (p := ⟨w.heap.size, 4, none⟩) (by simp)).trans (by simp [go_sem, *]); have a5 : w1.cell? ⟨w.heap.size, 5, none⟩ = some (.slice ao K cap) := (hb1.cell (p := ⟨w.heap.size, 5, none⟩) (by simp)).trans (by simp [go_sem, *]); have B1 : Hid (Below w.heap.size w w1) := Below.step ((Below.refl _ _).alloc (Nat.le_refl _) _) hb1; clear hb1 ho)
        | (go_at_call 103; refine ((HM.out) _).mono ?_; rintro e w2 ⟨rfl, hw2⟩; rw [hw2]; clear hw2)
        | (go_at_call 104; refine ((HCM.out) _).mono ?_; rintro e w2 ⟨rfl, hw2⟩; rw [hw2]; clear hw2)
        | (go_at_call 105; refine ((HB.out) _ (HI.out.keep (B1.out.alloc B1.out.size _))).mono ?_; rintro e w3 ⟨rfl, hb3⟩; have B3 : Hid (Below w.heap.size w w3) := Below.step (B1.out.alloc B1.out.size _) hb3; clear hb3))
      go_ret
      exact ⟨ret_bool (by rw [HR.out]; simp [*]), B3.out⟩
end Go.Proofs.YtfbhjfpkhofifaaGreatDoor
