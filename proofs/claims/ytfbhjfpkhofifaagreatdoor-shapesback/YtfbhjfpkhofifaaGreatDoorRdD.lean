/- strings.Cut at a line's end; how a text is cut into its lines, one at a time. -/
import Derived.Test.YtfbhjfpkhofifaaGreatDoorRdC
import Derived.Test.YtfbhjfpkhofifaaGreatDoorFReadF
namespace Go.Proofs.YtfbhjfpkhofifaaGreatDoor
open Go.RowKit

set_option maxRecDepth 100000 in
set_option maxHeartbeats 400000 in
theorem readFlags_0 (fv : Value) (w : World) : Calls Tryz.prog 182 #[.string ⟨#[]⟩, fv] w fun e w' => e = .returned (.tuple #[.int .i64 0, .nilIface]) ∧ w' = w := by
  go_enter Tryz.func182, Tryz.ntmps182
  go_wp2
  go_ret2
  exact ⟨rfl, rfl⟩

set_option maxRecDepth 100000 in
set_option maxHeartbeats 1000000 in
theorem readFlagsClass_1 (s P : ByteArray) (f x : Int) (w : World) (hS : SIn w) (hs : s.toList.isEmpty = false) (HT : ∀ w : World, Calls Tryz.prog 180 #[.string s, .string ⟨#[32]⟩] w fun e w' => e = .returned (.string P) ∧ w' = w)
    (HP : Calls Tryz.prog 183 #[.string P] w fun e w' => e = .returned (.tuple #[.int .i64 f, .int .i64 x]) ∧ Below w.heap.size w w') (q : Bool) (hq : q = (!P.toList.isEmpty && (x == 0))) :
    Calls Tryz.prog 182 #[.string s, .func (.func 183) #[] #[]] w fun e w' => (∃ er, e = .returned (.tuple #[.int .i64 (if q then f else 0), er]) ∧ if q then er = .nilIface else ErrV er) ∧ Below w.heap.size w w' := by
  have HT : Hid (∀ w : World, _) := HT
  have HP : Hid (Calls Tryz.prog 183 _ w _) := HP
  have HS : Hid (SIn w) := hS
  clear hS
  generalize hA : P.toList.isEmpty = qa at *
  generalize hB : (x == 0) = qb at *
  have hB2 : (x != 0) = !qb := by rw [bne, hB]
  cases qa with
  | true =>
    obtain rfl : q = false := by rw [hq]; rfl
    clear hq
    go_enter Tryz.func182, Tryz.ntmps182
    go_wp2_with (first
      | (go_at_call 180; refine (HT.out _).mono ?_; rintro e w1 ⟨rfl, hw1⟩; rw [hw1]; clear hw1 HT)
      | (go_at_call 183; refine HP.out.mono ?_; rintro e w2 ⟨rfl, hb2⟩; obtain ⟨_, ⟨h5, tp, a, hc⟩, _⟩ := HS.out.keep hb2; clear HP HS))
    all_goals (try go_region)
    all_goals (try go_wp2)
    all_goals go_ret2
    all_goals first
      | exact ⟨⟨_, rfl, tp, a, rfl⟩, hb2⟩
      | exact ⟨⟨_, rfl, tp, a, rfl⟩, hb2.drew⟩
  | false =>
    cases qb with
    | true =>
      obtain rfl : q = true := by rw [hq]; rfl
      clear hq
      go_enter Tryz.func182, Tryz.ntmps182
      go_wp2_with (first
        | (go_at_call 180; refine (HT.out _).mono ?_; rintro e w1 ⟨rfl, hw1⟩; rw [hw1]; clear hw1 HT)
        | (go_at_call 183; refine HP.out.mono ?_; rintro e w2 ⟨rfl, hb2⟩; obtain ⟨_, ⟨h5, tp, a, hc⟩, _⟩ := HS.out.keep hb2; clear HP HS))
      all_goals go_ret2
      all_goals first
        | exact ⟨⟨_, rfl, rfl⟩, hb2⟩
        | exact ⟨rfl, hb2⟩
    | false =>
      obtain rfl : q = false := by rw [hq]; rfl
      clear hq
      go_enter Tryz.func182, Tryz.ntmps182
      go_wp2_with (first
        | (go_at_call 180; refine (HT.out _).mono ?_; rintro e w1 ⟨rfl, hw1⟩; rw [hw1]; clear hw1 HT)
        | (go_at_call 183; refine HP.out.mono ?_; rintro e w2 ⟨rfl, hb2⟩; obtain ⟨_, ⟨h5, tp, a, hc⟩, _⟩ := HS.out.keep hb2; clear HP HS))
      all_goals (try go_region)
      all_goals (try go_wp2)
      all_goals go_ret2
      all_goals first
        | exact ⟨⟨_, rfl, tp, a, rfl⟩, hb2⟩
        | exact ⟨⟨_, rfl, tp, a, rfl⟩, hb2.drew⟩

theorem readFlagsClass_any (s : ByteArray) (hs : s.size ≤ 40000) (h : s.data.toList = [] ∨ ∃ r, s.data.toList = 32 :: r) (w : World) (hG : GP w) :
    Calls Tryz.prog 182 #[.string s, .func (.func 183) #[] #[]] w fun e w' => (∃ er, e = .returned (.tuple #[.int .i64 (if fgB clsP s.data.toList then fgN clsP s.data.toList else 0), er]) ∧ if fgB clsP s.data.toList then er = .nilIface else ErrV er) ∧ Below w.heap.size w w' := by
  rcases h with h | ⟨r, h⟩
  · obtain rfl : s = ⟨#[]⟩ := bytes_ext h
    exact (readFlags_0 _ w).mono fun e w' ⟨h1, h2⟩ => ⟨⟨.nilIface, h1, rfl⟩, by rw [h2]; exact Below.refl _ _⟩
  · have hl : r.length ≤ 40000 := by have := bsize s; rw [h, List.length_cons] at this; omega
    have HT : ∀ w : World, Calls Tryz.prog 180 #[.string s, .string ⟨#[32]⟩] w fun e w' => e = .returned (.string ⟨r.toArray⟩) ∧ w' = w := fun w => by
      have h1 := trim_prefix s ⟨#[32]⟩ w
      have e : (if hpB s ⟨#[32]⟩ then s.extract (⟨#[32]⟩ : ByteArray).size s.size else s) = ⟨r.toArray⟩ := by
        rw [hp_32 _ _ h, if_pos (by simp)]
        apply bytes_ext; rw [Lib.extract_to_end, h]; rfl
      rw [e] at h1
      exact h1
    have HP := Fl.ParseClass_any ⟨r.toArray⟩ (by rw [mk_size]; omega) w hG.1.2
    have e1 : (⟨r.toArray⟩ : ByteArray).data.toList = r := by simp
    rw [e1] at HP
    have e2 : fgB clsP s.data.toList = (!(⟨r.toArray⟩ : ByteArray).toList.isEmpty && (parX clsP r == 0)) := by
      rw [fgB, h, Lib.toList_data]
      cases r <;> rfl
    have e3 : fgN clsP s.data.toList = parF clsP r := by rw [fgN, h]; rfl
    rw [e3]
    exact readFlagsClass_1 s ⟨r.toArray⟩ _ _ w hG.2.2.2 (by rw [Lib.toList_data, h]; rfl) HT HP _ e2

set_option maxRecDepth 100000 in
set_option maxHeartbeats 1000000 in
theorem readFlagsMethod_1 (s P : ByteArray) (f x : Int) (w : World) (hS : SIn w) (hs : s.toList.isEmpty = false) (HT : ∀ w : World, Calls Tryz.prog 180 #[.string s, .string ⟨#[32]⟩] w fun e w' => e = .returned (.string P) ∧ w' = w)
    (HP : Calls Tryz.prog 186 #[.string P] w fun e w' => e = .returned (.tuple #[.int .i64 f, .int .i64 x]) ∧ Below w.heap.size w w') (q : Bool) (hq : q = (!P.toList.isEmpty && (x == 0))) :
    Calls Tryz.prog 182 #[.string s, .func (.func 186) #[] #[]] w fun e w' => (∃ er, e = .returned (.tuple #[.int .i64 (if q then f else 0), er]) ∧ if q then er = .nilIface else ErrV er) ∧ Below w.heap.size w w' := by
  have HT : Hid (∀ w : World, _) := HT
  have HP : Hid (Calls Tryz.prog 186 _ w _) := HP
  have HS : Hid (SIn w) := hS
  clear hS
  generalize hA : P.toList.isEmpty = qa at *
  generalize hB : (x == 0) = qb at *
  have hB2 : (x != 0) = !qb := by rw [bne, hB]
  cases qa with
  | true =>
    obtain rfl : q = false := by rw [hq]; rfl
    clear hq
    go_enter Tryz.func182, Tryz.ntmps182
    go_wp2_with (first
      | (go_at_call 180; refine (HT.out _).mono ?_; rintro e w1 ⟨rfl, hw1⟩; rw [hw1]; clear hw1 HT)
      | (go_at_call 186; refine HP.out.mono ?_; rintro e w2 ⟨rfl, hb2⟩; obtain ⟨_, ⟨h5, tp, a, hc⟩, _⟩ := HS.out.keep hb2; clear HP HS))
    all_goals (try go_region)
    all_goals (try go_wp2)
    all_goals go_ret2
    all_goals first
      | exact ⟨⟨_, rfl, tp, a, rfl⟩, hb2⟩
      | exact ⟨⟨_, rfl, tp, a, rfl⟩, hb2.drew⟩
  | false =>
    cases qb with
    | true =>
      obtain rfl : q = true := by rw [hq]; rfl
      clear hq
      go_enter Tryz.func182, Tryz.ntmps182
      go_wp2_with (first
        | (go_at_call 180; refine (HT.out _).mono ?_; rintro e w1 ⟨rfl, hw1⟩; rw [hw1]; clear hw1 HT)
        | (go_at_call 186; refine HP.out.mono ?_; rintro e w2 ⟨rfl, hb2⟩; obtain ⟨_, ⟨h5, tp, a, hc⟩, _⟩ := HS.out.keep hb2; clear HP HS))
      all_goals go_ret2
      all_goals first
        | exact ⟨⟨_, rfl, rfl⟩, hb2⟩
        | exact ⟨rfl, hb2⟩
    | false =>
      obtain rfl : q = false := by rw [hq]; rfl
      clear hq
      go_enter Tryz.func182, Tryz.ntmps182
      go_wp2_with (first
        | (go_at_call 180; refine (HT.out _).mono ?_; rintro e w1 ⟨rfl, hw1⟩; rw [hw1]; clear hw1 HT)
        | (go_at_call 186; refine HP.out.mono ?_; rintro e w2 ⟨rfl, hb2⟩; obtain ⟨_, ⟨h5, tp, a, hc⟩, _⟩ := HS.out.keep hb2; clear HP HS))
      all_goals (try go_region)
      all_goals (try go_wp2)
      all_goals go_ret2
      all_goals first
        | exact ⟨⟨_, rfl, tp, a, rfl⟩, hb2⟩
        | exact ⟨⟨_, rfl, tp, a, rfl⟩, hb2.drew⟩

theorem readFlagsMethod_any (s : ByteArray) (hs : s.size ≤ 40000) (h : s.data.toList = [] ∨ ∃ r, s.data.toList = 32 :: r) (w : World) (hG : GP w) :
    Calls Tryz.prog 182 #[.string s, .func (.func 186) #[] #[]] w fun e w' => (∃ er, e = .returned (.tuple #[.int .i64 (if fgB mthP s.data.toList then fgN mthP s.data.toList else 0), er]) ∧ if fgB mthP s.data.toList then er = .nilIface else ErrV er) ∧ Below w.heap.size w w' := by
  rcases h with h | ⟨r, h⟩
  · obtain rfl : s = ⟨#[]⟩ := bytes_ext h
    exact (readFlags_0 _ w).mono fun e w' ⟨h1, h2⟩ => ⟨⟨.nilIface, h1, rfl⟩, by rw [h2]; exact Below.refl _ _⟩
  · have hl : r.length ≤ 40000 := by have := bsize s; rw [h, List.length_cons] at this; omega
    have HT : ∀ w : World, Calls Tryz.prog 180 #[.string s, .string ⟨#[32]⟩] w fun e w' => e = .returned (.string ⟨r.toArray⟩) ∧ w' = w := fun w => by
      have h1 := trim_prefix s ⟨#[32]⟩ w
      have e : (if hpB s ⟨#[32]⟩ then s.extract (⟨#[32]⟩ : ByteArray).size s.size else s) = ⟨r.toArray⟩ := by
        rw [hp_32 _ _ h, if_pos (by simp)]
        apply bytes_ext; rw [Lib.extract_to_end, h]; rfl
      rw [e] at h1
      exact h1
    have HP := Fl.ParseMethod_any ⟨r.toArray⟩ (by rw [mk_size]; omega) w hG.1.2
    have e1 : (⟨r.toArray⟩ : ByteArray).data.toList = r := by simp
    rw [e1] at HP
    have e2 : fgB mthP s.data.toList = (!(⟨r.toArray⟩ : ByteArray).toList.isEmpty && (parX mthP r == 0)) := by
      rw [fgB, h, Lib.toList_data]
      cases r <;> rfl
    have e3 : fgN mthP s.data.toList = parF mthP r := by rw [fgN, h]; rfl
    rw [e3]
    exact readFlagsMethod_1 s ⟨r.toArray⟩ _ _ w hG.2.2.2 (by rw [Lib.toList_data, h]; rfl) HT HP _ e2


theorem below_set {W w : World} (h : Below W.heap.size W w) {b : Nat} (hb : W.heap.size ≤ b) (k : Nat) (v : Value) : Below W.heap.size W (w.setCell ⟨b, k, none⟩ v) := h.setCell hb v
def mtV (nm ds : ByteArray) (f : Int) : Value := .agg #[.string nm, .string ds, .int .i64 f, .int .i64 0, .int .i64 0, .slice none 0 0]

set_option maxRecDepth 100000 in
set_option maxHeartbeats 400000 in
theorem readMethod_no (s R : ByteArray) (w : World) (HW : ∀ w', Below w.heap.size w w' → Calls Tryz.prog 155 #[.string s, .string ⟨#[109, 101, 116, 104, 111, 100]⟩] w' fun e w'' => (∃ er, e = .returned (.tuple #[.string R, er]) ∧ ErrV er) ∧ Below w'.heap.size w' w'') :
    Calls Tryz.prog 160 #[.string s] w fun e w' => (∃ er, e = .returned (.tuple #[mtV ⟨#[]⟩ ⟨#[]⟩ 0, er]) ∧ ErrV er) ∧ Below w.heap.size w w' := by
  have HW : Hid _ := HW
  unfold mtV
  go_enter Tryz.func160, Tryz.ntmps160
  go_wp2_with (go_at_call 155; refine (HW.out _ ((Below.refl _ _).alloc (Nat.le_refl _) _)).mono ?_; rintro e w1 ⟨⟨er, rfl, tp, a, rfl⟩, hb1⟩; have hk := hb1.block w.heap.size (by simp); rw [heap_alloc_new] at hk; have z0 := cell_of_row w1 w.heap.size 0 _ _ _ hk; have y0 := frozen_of_row w1 w.heap.size 0 _ _ hk; have z1 := cell_of_row w1 w.heap.size 1 _ _ _ hk; have y1 := frozen_of_row w1 w.heap.size 1 _ _ hk; have z2 := cell_of_row w1 w.heap.size 2 _ _ _ hk; have y2 := frozen_of_row w1 w.heap.size 2 _ _ hk; have z3 := cell_of_row w1 w.heap.size 3 _ _ _ hk; have y3 := frozen_of_row w1 w.heap.size 3 _ _ hk; have z4 := cell_of_row w1 w.heap.size 4 _ _ _ hk; have y4 := frozen_of_row w1 w.heap.size 4 _ _ hk; have z5 := cell_of_row w1 w.heap.size 5 _ _ _ hk; have y5 := frozen_of_row w1 w.heap.size 5 _ _ hk; simp only [List.getElem?_toArray, List.getElem?_cons_zero, List.getElem?_cons_succ] at z0 z1 z2 z3 z4 z5; have hlt : w.heap.size < w1.heap.size := (Array.getElem?_eq_some_iff.1 hk).1; have HK : Hid _ := hk; clear hk; have B1 : Hid (Below w.heap.size w w1) := Below.step ((Below.refl _ _).alloc (Nat.le_refl _) _) hb1; clear hb1 HW)
  exact bodyPost_ret (v := .tuple #[.agg #[.string ⟨#[]⟩, .string ⟨#[]⟩, .int .i64 0, .int .i64 0, .int .i64 0, .slice none 0 0], .iface tp (.pointer a)]) (by simp [results, Tryz.results160, go_sem, *]) rfl ⟨⟨_, rfl, tp, a, rfl⟩, (below_set (below_set (below_set (below_set (below_set (below_set B1.out (Nat.le_refl _) _ _) (Nat.le_refl _) _ _) (Nat.le_refl _) _ _) (Nat.le_refl _) _ _) (Nat.le_refl _) _ _) (Nat.le_refl _) _ _)⟩

set_option maxRecDepth 100000 in
set_option maxHeartbeats 1000000 in
theorem readMethod_bad (s R A R2 D F : ByteArray) (w : World) (hS : SIn w) (HW : ∀ w', Below w.heap.size w w' → Calls Tryz.prog 155 #[.string s, .string ⟨#[109, 101, 116, 104, 111, 100]⟩] w' fun e w'' => e = .returned (.tuple #[.string R, .nilIface]) ∧ Below w'.heap.size w' w'')
    (HP : ∀ w, Calls Tryz.prog 156 #[.string R] w fun e w' => e = .returned (.tuple #[.string A, .string R2]) ∧ ∃ n, w' = w.drewN n) (HQ : ∀ w, Calls Tryz.prog 156 #[.string R2] w fun e w' => e = .returned (.tuple #[.string D, .string F]) ∧ ∃ n, w' = w.drewN n)
    (hq : (A.toList.isEmpty || D.toList.isEmpty) = true) :
    Calls Tryz.prog 160 #[.string s] w fun e w' => (∃ er, e = .returned (.tuple #[mtV ⟨#[]⟩ ⟨#[]⟩ 0, er]) ∧ ErrV er) ∧ Below w.heap.size w w' := by
  have HW : Hid _ := HW
  have HP : Hid (∀ w : World, _) := HP
  have HQ : Hid (∀ w : World, _) := HQ
  have HS : Hid (SIn w) := hS
  clear hS
  unfold mtV
  generalize hA : A.toList.isEmpty = qa at *
  generalize hB : D.toList.isEmpty = qb at *
  cases qa with
  | true =>
    clear hq
    go_enter Tryz.func160, Tryz.ntmps160
    go_wp2_with (first
      | (go_at_call 155; refine (HW.out _ ((Below.refl _ _).alloc (Nat.le_refl _) _)).mono ?_; rintro e w1 ⟨rfl, hb1⟩; have hk := hb1.block w.heap.size (by simp); rw [heap_alloc_new] at hk; have z0 := cell_of_row w1 w.heap.size 0 _ _ _ hk; have y0 := frozen_of_row w1 w.heap.size 0 _ _ hk; have z1 := cell_of_row w1 w.heap.size 1 _ _ _ hk; have y1 := frozen_of_row w1 w.heap.size 1 _ _ hk; have z2 := cell_of_row w1 w.heap.size 2 _ _ _ hk; have y2 := frozen_of_row w1 w.heap.size 2 _ _ hk; have z3 := cell_of_row w1 w.heap.size 3 _ _ _ hk; have y3 := frozen_of_row w1 w.heap.size 3 _ _ hk; have z4 := cell_of_row w1 w.heap.size 4 _ _ _ hk; have y4 := frozen_of_row w1 w.heap.size 4 _ _ hk; have z5 := cell_of_row w1 w.heap.size 5 _ _ _ hk; have y5 := frozen_of_row w1 w.heap.size 5 _ _ hk; simp only [List.getElem?_toArray, List.getElem?_cons_zero, List.getElem?_cons_succ] at z0 z1 z2 z3 z4 z5; have hlt : w.heap.size < w1.heap.size := (Array.getElem?_eq_some_iff.1 hk).1; have HK : Hid _ := hk; clear hk; have B1 : Hid (Below w.heap.size w w1) := Below.step ((Below.refl _ _).alloc (Nat.le_refl _) _) hb1; have h5w : 5 < w.heap.size := HS.out.2.1.1; have h5n : ¬ w.heap.size = 5 := (by omega); obtain ⟨_, ⟨h5, tp, a, hc⟩, _⟩ := HS.out.keep B1.out; clear hb1 HW HS)
      | (go_at_call 156; refine (HP.out _).mono ?_; rintro e w2 ⟨rfl, n, rfl⟩; clear HP)
      | (go_at_call 156; refine (HQ.out _).mono ?_; rintro e w3 ⟨rfl, m, rfl⟩; clear HQ))
    all_goals (try go_region)
    all_goals (try go_wp2)
    all_goals first
      | exact bodyPost_ret (v := .tuple #[.agg #[.string ⟨#[]⟩, .string ⟨#[]⟩, .int .i64 0, .int .i64 0, .int .i64 0, .slice none 0 0], .iface tp (.pointer a)]) (by simp [results, Tryz.results160, go_sem, *]) rfl ⟨⟨_, rfl, tp, a, rfl⟩, (below_set (below_set (below_set (below_set (below_set (below_set (below_dN _ B1.out) (Nat.le_refl _) _ _) (Nat.le_refl _) _ _) (Nat.le_refl _) _ _) (Nat.le_refl _) _ _) (Nat.le_refl _) _ _) (Nat.le_refl _) _ _)⟩
      | exact bodyPost_ret (v := .tuple #[.agg #[.string ⟨#[]⟩, .string ⟨#[]⟩, .int .i64 0, .int .i64 0, .int .i64 0, .slice none 0 0], .iface tp (.pointer a)]) (by simp [results, Tryz.results160, go_sem, *]) rfl ⟨⟨_, rfl, tp, a, rfl⟩, (below_set (below_set (below_set (below_set (below_set (below_set B1.out (Nat.le_refl _) _ _) (Nat.le_refl _) _ _) (Nat.le_refl _) _ _) (Nat.le_refl _) _ _) (Nat.le_refl _) _ _) (Nat.le_refl _) _ _)⟩

  | false =>
    obtain rfl : qb = true := by simpa using hq
    clear hq
    go_enter Tryz.func160, Tryz.ntmps160
    go_wp2_with (first
      | (go_at_call 155; refine (HW.out _ ((Below.refl _ _).alloc (Nat.le_refl _) _)).mono ?_; rintro e w1 ⟨rfl, hb1⟩; have hk := hb1.block w.heap.size (by simp); rw [heap_alloc_new] at hk; have z0 := cell_of_row w1 w.heap.size 0 _ _ _ hk; have y0 := frozen_of_row w1 w.heap.size 0 _ _ hk; have z1 := cell_of_row w1 w.heap.size 1 _ _ _ hk; have y1 := frozen_of_row w1 w.heap.size 1 _ _ hk; have z2 := cell_of_row w1 w.heap.size 2 _ _ _ hk; have y2 := frozen_of_row w1 w.heap.size 2 _ _ hk; have z3 := cell_of_row w1 w.heap.size 3 _ _ _ hk; have y3 := frozen_of_row w1 w.heap.size 3 _ _ hk; have z4 := cell_of_row w1 w.heap.size 4 _ _ _ hk; have y4 := frozen_of_row w1 w.heap.size 4 _ _ hk; have z5 := cell_of_row w1 w.heap.size 5 _ _ _ hk; have y5 := frozen_of_row w1 w.heap.size 5 _ _ hk; simp only [List.getElem?_toArray, List.getElem?_cons_zero, List.getElem?_cons_succ] at z0 z1 z2 z3 z4 z5; have hlt : w.heap.size < w1.heap.size := (Array.getElem?_eq_some_iff.1 hk).1; have HK : Hid _ := hk; clear hk; have B1 : Hid (Below w.heap.size w w1) := Below.step ((Below.refl _ _).alloc (Nat.le_refl _) _) hb1; have h5w : 5 < w.heap.size := HS.out.2.1.1; have h5n : ¬ w.heap.size = 5 := (by omega); obtain ⟨_, ⟨h5, tp, a, hc⟩, _⟩ := HS.out.keep B1.out; clear hb1 HW HS)
      | (go_at_call 156; refine (HP.out _).mono ?_; rintro e w2 ⟨rfl, n, rfl⟩; clear HP)
      | (go_at_call 156; refine (HQ.out _).mono ?_; rintro e w3 ⟨rfl, m, rfl⟩; clear HQ))
    all_goals (try go_region)
    all_goals (try go_wp2)
    all_goals first
      | exact bodyPost_ret (v := .tuple #[.agg #[.string ⟨#[]⟩, .string ⟨#[]⟩, .int .i64 0, .int .i64 0, .int .i64 0, .slice none 0 0], .iface tp (.pointer a)]) (by simp [results, Tryz.results160, go_sem, *]) rfl ⟨⟨_, rfl, tp, a, rfl⟩, (below_set (below_set (below_set (below_set (below_set (below_set (below_dN _ B1.out) (Nat.le_refl _) _ _) (Nat.le_refl _) _ _) (Nat.le_refl _) _ _) (Nat.le_refl _) _ _) (Nat.le_refl _) _ _) (Nat.le_refl _) _ _)⟩
      | exact bodyPost_ret (v := .tuple #[.agg #[.string ⟨#[]⟩, .string ⟨#[]⟩, .int .i64 0, .int .i64 0, .int .i64 0, .slice none 0 0], .iface tp (.pointer a)]) (by simp [results, Tryz.results160, go_sem, *]) rfl ⟨⟨_, rfl, tp, a, rfl⟩, (below_set (below_set (below_set (below_set (below_set (below_set B1.out (Nat.le_refl _) _ _) (Nat.le_refl _) _ _) (Nat.le_refl _) _ _) (Nat.le_refl _) _ _) (Nat.le_refl _) _ _) (Nat.le_refl _) _ _)⟩

set_option maxRecDepth 100000 in
set_option maxHeartbeats 1000000 in
theorem readMethod_ok (s R A R2 D F : ByteArray) (f : Int) (E : Value → Prop) (w : World) (HW : ∀ w', Below w.heap.size w w' → Calls Tryz.prog 155 #[.string s, .string ⟨#[109, 101, 116, 104, 111, 100]⟩] w' fun e w'' => e = .returned (.tuple #[.string R, .nilIface]) ∧ Below w'.heap.size w' w'')
    (HP : ∀ w, Calls Tryz.prog 156 #[.string R] w fun e w' => e = .returned (.tuple #[.string A, .string R2]) ∧ ∃ n, w' = w.drewN n) (HQ : ∀ w, Calls Tryz.prog 156 #[.string R2] w fun e w' => e = .returned (.tuple #[.string D, .string F]) ∧ ∃ n, w' = w.drewN n)
    (HF : ∀ w', Below w.heap.size w w' → Calls Tryz.prog 182 #[.string F, .func (.func 186) #[] #[]] w' fun e w'' => (∃ er, e = .returned (.tuple #[.int .i64 f, er]) ∧ E er) ∧ Below w'.heap.size w' w'')
    (hA : A.toList.isEmpty = false) (hD : D.toList.isEmpty = false) :
    Calls Tryz.prog 160 #[.string s] w fun e w' => (∃ er, e = .returned (.tuple #[mtV A D f, er]) ∧ E er) ∧ Below w.heap.size w w' := by
  have HW : Hid _ := HW
  have HP : Hid (∀ w : World, _) := HP
  have HQ : Hid (∀ w : World, _) := HQ
  have HF : Hid (∀ w : World, _ → _) := HF
  unfold mtV
  go_enter Tryz.func160, Tryz.ntmps160
  go_wp2_with (first
    | (go_at_call 155; refine (HW.out _ ((Below.refl _ _).alloc (Nat.le_refl _) _)).mono ?_; rintro e w1 ⟨rfl, hb1⟩; have hk := hb1.block w.heap.size (by simp); rw [heap_alloc_new] at hk; have z0 := cell_of_row w1 w.heap.size 0 _ _ _ hk; have y0 := frozen_of_row w1 w.heap.size 0 _ _ hk; have z1 := cell_of_row w1 w.heap.size 1 _ _ _ hk; have y1 := frozen_of_row w1 w.heap.size 1 _ _ hk; have z2 := cell_of_row w1 w.heap.size 2 _ _ _ hk; have y2 := frozen_of_row w1 w.heap.size 2 _ _ hk; have z3 := cell_of_row w1 w.heap.size 3 _ _ _ hk; have y3 := frozen_of_row w1 w.heap.size 3 _ _ hk; have z4 := cell_of_row w1 w.heap.size 4 _ _ _ hk; have y4 := frozen_of_row w1 w.heap.size 4 _ _ hk; have z5 := cell_of_row w1 w.heap.size 5 _ _ _ hk; have y5 := frozen_of_row w1 w.heap.size 5 _ _ hk; simp only [List.getElem?_toArray, List.getElem?_cons_zero, List.getElem?_cons_succ] at z0 z1 z2 z3 z4 z5; have hlt : w.heap.size < w1.heap.size := (Array.getElem?_eq_some_iff.1 hk).1; have HK : Hid _ := hk; clear hk; have B1 : Hid (Below w.heap.size w w1) := Below.step ((Below.refl _ _).alloc (Nat.le_refl _) _) hb1; clear hb1 HW)
    | (go_at_call 156; refine (HP.out _).mono ?_; rintro e w2 ⟨rfl, n, rfl⟩; clear HP)
    | (go_at_call 156; refine (HQ.out _).mono ?_; rintro e w3 ⟨rfl, m, rfl⟩; clear HQ)
    | (go_at_call 182; refine (HF.out _ (below_dN _ B1.out)).mono ?_; rintro e w4 ⟨⟨er, rfl, her⟩, hb4⟩; have HK0 : Hid _ := HK.out; clear z0 z1 z2 z3 z4 z5 y0 y1 y2 y3 y4 y5; have hk := (hb4.block w.heap.size hlt).trans HK0.out; have z0 := cell_of_row w4 w.heap.size 0 _ _ _ hk; have y0 := frozen_of_row w4 w.heap.size 0 _ _ hk; have z1 := cell_of_row w4 w.heap.size 1 _ _ _ hk; have y1 := frozen_of_row w4 w.heap.size 1 _ _ hk; have z2 := cell_of_row w4 w.heap.size 2 _ _ _ hk; have y2 := frozen_of_row w4 w.heap.size 2 _ _ hk; have z3 := cell_of_row w4 w.heap.size 3 _ _ _ hk; have y3 := frozen_of_row w4 w.heap.size 3 _ _ hk; have z4 := cell_of_row w4 w.heap.size 4 _ _ _ hk; have y4 := frozen_of_row w4 w.heap.size 4 _ _ hk; have z5 := cell_of_row w4 w.heap.size 5 _ _ _ hk; have y5 := frozen_of_row w4 w.heap.size 5 _ _ hk; simp only [List.getElem?_toArray, List.getElem?_cons_zero, List.getElem?_cons_succ] at z0 z1 z2 z3 z4 z5; have hlt4 : w.heap.size < w4.heap.size := (Array.getElem?_eq_some_iff.1 hk).1; clear hk; have B4 : Hid (Below w.heap.size w w4) := Below.step (below_dN _ B1.out) hb4; have HER : Hid (E er) := her; clear hb4 HF her))
  all_goals (try go_region)
  all_goals (try go_wp2)
  all_goals first
    | exact bodyPost_ret (v := .tuple #[.agg #[.string A, .string D, .int .i64 f, .int .i64 0, .int .i64 0, .slice none 0 0], er]) (by simp [results, Tryz.results160, go_sem, *]) rfl ⟨⟨_, rfl, HER.out⟩, (below_set (below_set (below_set (below_set (below_set (below_set B4.out (Nat.le_refl _) _ _) (Nat.le_refl _) _ _) (Nat.le_refl _) _ _) (Nat.le_refl _) _ _) (Nat.le_refl _) _ _) (Nat.le_refl _) _ _)⟩
    | exact bodyPost_ret (v := .tuple #[.agg #[.string A, .string D, .int .i64 f, .int .i64 0, .int .i64 0, .slice none 0 0], er]) (by simp [results, Tryz.results160, go_sem, *]) rfl ⟨⟨_, rfl, HER.out⟩, (below_set (below_set (below_set (below_set (below_set (below_set (below_dN _ B4.out) (Nat.le_refl _) _ _) (Nat.le_refl _) _ _) (Nat.le_refl _) _ _) (Nat.le_refl _) _ _) (Nat.le_refl _) _ _) (Nat.le_refl _) _ _)⟩
/-- readMethod: the method that a line begins, or an error -/
theorem readMethod_any (s : ByteArray) (hs : s.size ≤ 40000) (w : World) (hG : GP w) :
    Calls Tryz.prog 160 #[.string s] w fun e w' => (∃ nm ds f er, e = .returned (.tuple #[mtV nm ds f, er]) ∧ if (fstW s.data.toList == wMethod) && mlB s.data.toList then er = .nilIface ∧ nm = ⟨(mlN s.data.toList).toArray⟩ ∧ ds = ⟨(mlD s.data.toList).toArray⟩ ∧ f = fgN mthP (mlF s.data.toList) else ErrV er) ∧ Below w.heap.size w w' := by
  have HW : ∀ w', Below w.heap.size w w' → Calls Tryz.prog 155 #[.string s, .string ⟨#[109, 101, 116, 104, 111, 100]⟩] w' fun e w'' => (∃ er, e = .returned (.tuple #[.string (if fstW s.data.toList == wMethod then ⟨(restW s.data.toList).toArray⟩ else ⟨#[]⟩), er]) ∧ if fstW s.data.toList == wMethod then er = .nilIface else ErrV er) ∧ Below w'.heap.size w' w'' := fun w' h => cutWord_w s ⟨#[109, 101, 116, 104, 111, 100]⟩ (by decide) w' (hG.keep h).2.2.2.1
  cases hq : (fstW s.data.toList == wMethod) with
  | false =>
    simp only [hq, Bool.false_eq_true, if_false] at HW
    exact (readMethod_no s _ w HW).mono fun e w' ⟨⟨er, h1, h2⟩, h3⟩ => ⟨⟨_, _, _, er, h1, h2⟩, h3⟩
  | true =>
    have hr := (rest_len s.data.toList).1
    rw [bsize] at hr
    simp only [hq, if_true] at HW
    have HW2 : ∀ w', Below w.heap.size w w' → Calls Tryz.prog 155 #[.string s, .string ⟨#[109, 101, 116, 104, 111, 100]⟩] w' fun e w'' => e = .returned (.tuple #[.string ⟨(restW s.data.toList).toArray⟩, .nilIface]) ∧ Below w'.heap.size w' w'' := fun w' h => (HW w' h).mono fun e w' ⟨⟨er, h1, h2⟩, h3⟩ => ⟨by rw [h1, h2], h3⟩
    have hd : (⟨(restW s.data.toList).toArray⟩ : ByteArray).data.toList = restW s.data.toList := by simp
    have HP := cutPart_any ⟨(restW s.data.toList).toArray⟩ (by rw [mk_size]; omega) (by rw [hd]; exact rest_head _)
    rw [hd] at HP
    have hr2 := rest_len ((restW s.data.toList).drop 1)
    rw [List.length_drop] at hr2
    have hd2 : (⟨(mlR s.data.toList).toArray⟩ : ByteArray).data.toList = mlR s.data.toList := by simp
    have HQ := cutPart_any ⟨(mlR s.data.toList).toArray⟩ (by rw [mk_size, mlR]; omega) (by rw [hd2]; exact rest_head _)
    rw [hd2] at HQ
    have hd3 : (⟨(mlF s.data.toList).toArray⟩ : ByteArray).data.toList = mlF s.data.toList := by simp
    have hml := ml_len s.data.toList
    rw [bsize] at hml
    have HF := fun (w' : World) (h : Below w.heap.size w w') => readFlagsMethod_any ⟨(mlF s.data.toList).toArray⟩ (by rw [mk_size]; omega) (by rw [hd3]; exact rest_head _) w' (hG.keep h)
    rw [hd3] at HF
    have ea : (⟨(mlN s.data.toList).toArray⟩ : ByteArray).toList.isEmpty = (mlN s.data.toList == []) := by rw [Lib.toList_data]; cases mlN s.data.toList <;> rfl
    have ed : (⟨(mlD s.data.toList).toArray⟩ : ByteArray).toList.isEmpty = (mlD s.data.toList == []) := by rw [Lib.toList_data]; cases mlD s.data.toList <;> rfl
    cases h1 : (mlN s.data.toList == []) with
    | true =>
      have hb : mlB s.data.toList = false := by rw [mlB, h1]; rfl
      rw [hb]
      exact (readMethod_bad s _ _ _ _ _ w hG.2.2.2 HW2 HP HQ (by
        have : (⟨(fstW ((restW s.data.toList).drop 1)).toArray⟩ : ByteArray).toList.isEmpty = true := ea.trans h1
        rw [this]; rfl)).mono fun e w' ⟨⟨er, h1, h2⟩, h3⟩ => ⟨⟨_, _, _, er, h1, h2⟩, h3⟩
    | false =>
      cases h2 : (mlD s.data.toList == []) with
      | true =>
        have hb : mlB s.data.toList = false := by rw [mlB, h2]; simp
        rw [hb]
        exact (readMethod_bad s _ _ _ _ _ w hG.2.2.2 HW2 HP HQ (by
          have : (⟨(fstW ((mlR s.data.toList).drop 1)).toArray⟩ : ByteArray).toList.isEmpty = true := ed.trans h2
          rw [this]; simp)).mono fun e w' ⟨⟨er, h1, h2⟩, h3⟩ => ⟨⟨_, _, _, er, h1, h2⟩, h3⟩
      | false =>
        have hb : mlB s.data.toList = fgB mthP (mlF s.data.toList) := by rw [mlB, h1, h2]; rfl
        refine (readMethod_ok s _ ⟨(mlN s.data.toList).toArray⟩ _ ⟨(mlD s.data.toList).toArray⟩ ⟨(mlF s.data.toList).toArray⟩ _ _ w HW2 HP HQ HF (ea.trans h1) (ed.trans h2)).mono fun e w' ⟨⟨er, h3, h4⟩, h5⟩ => ⟨⟨_, _, _, er, h3, ?_⟩, h5⟩
        rw [hb]
        cases h6 : fgB mthP (mlF s.data.toList) with
        | false => rw [h6] at h4; exact h4
        | true => rw [h6] at h4; exact ⟨h4, rfl, rfl, rfl⟩


set_option maxRecDepth 100000 in
set_option maxHeartbeats 400000 in
theorem slIndex_10 (s : ByteArray) (w : World) : Calls Tryz.prog 154 #[.string s, .string ⟨#[10]⟩] w fun e w' => e = .returned (.int .i64 (Lib.indexByte s.data.toList 10)) ∧ w' = w := by
  have HB : Hid (∀ w : World, Calls Tryz.prog 175 #[.string s, .int .u8 10] w fun e w' => e = .returned (.int .i64 (Lib.indexByte s.data.toList 10)) ∧ w' = w) := fun w => Tryz.stringslite_IndexByte s 10 w
  have HR : Hid (([10] == s.toList) = true → Lib.indexByte s.data.toList 10 = 0) := fun h => by
    have e : s.data.toList = [10] := by rw [← Lib.toList_data]; exact (eq_of_beq h).symm
    rw [e]; rfl
  generalize Lib.indexByte s.data.toList 10 = r at *
  go_enter Tryz.func154, Tryz.ntmps154
  go_wp2_with (go_at_call 175; refine (HB.out _).mono ?_; rintro e w1 ⟨rfl, rfl⟩)
  · rename_i hc
    go_ret
    exact ⟨ret_int (HR.out hc).symm, rfl⟩
  · go_ret
    exact ⟨rfl, rfl⟩

set_option maxRecDepth 100000 in
set_option maxHeartbeats 1000000 in
theorem cut10_yes (s : ByteArray) (k : Nat) (hs : s.size ≤ 9223372036854775807) (hk : k < s.size) (HI : ∀ w : World, Calls Tryz.prog 154 #[.string s, .string ⟨#[10]⟩] w fun e w' => e = .returned (.int .i64 (k : Int)) ∧ w' = w) (w : World) :
    Calls Tryz.prog 123 #[.string s, .string ⟨#[10]⟩] w fun e w' => e = .returned (.tuple #[.string (s.extract 0 k), .string (s.extract (k + 1) s.size), .bool true]) ∧ Below w.heap.size w w' := by
  have HI : Hid (∀ w : World, _) := HI
  go_enter Tryz.func123, Tryz.ntmps123
  go_wp2_with (go_at_call 154; refine (HI.out _).mono ?_; rintro e w1 ⟨rfl, hw1⟩; rw [hw1]; clear hw1 HI)
  go_region
  all_goals go_wp2
  all_goals exact bodyPost_ret (v := .tuple #[.string (s.extract 0 k), .string (s.extract (k + 1) s.size), .bool true]) (by simp [results, Tryz.results123, go_sem, *]) rfl ⟨rfl, (Below.refl _ _).drew⟩

set_option maxRecDepth 100000 in
set_option maxHeartbeats 1000000 in
theorem cut10_no (s : ByteArray) (HI : ∀ w : World, Calls Tryz.prog 154 #[.string s, .string ⟨#[10]⟩] w fun e w' => e = .returned (.int .i64 (-1)) ∧ w' = w) (w : World) :
    Calls Tryz.prog 123 #[.string s, .string ⟨#[10]⟩] w fun e w' => e = .returned (.tuple #[.string s, .string ⟨#[]⟩, .bool false]) ∧ Below w.heap.size w w' := by
  have HI : Hid (∀ w : World, _) := HI
  go_enter Tryz.func123, Tryz.ntmps123
  go_wp2_with (go_at_call 154; refine (HI.out _).mono ?_; rintro e w1 ⟨rfl, hw1⟩; rw [hw1]; clear hw1 HI)
  exact bodyPost_ret (v := .tuple #[.string s, .string ⟨#[]⟩, .bool false]) (by simp [results, Tryz.results123, go_sem, *]) rfl ⟨rfl, Below.refl _ _⟩


def lnN (l : List UInt8) : Nat := spanN (fun x => !decide (x = 10)) l
theorem tw_free (l : List UInt8) : (10 : UInt8) ∉ l.takeWhile (fun x => !decide (x = 10)) := by
  induction l with
  | nil => simp
  | cons x l ih =>
    rw [List.takeWhile_cons]
    split
    · rename_i h
      intro m
      rcases List.mem_cons.1 m with e | m
      · rw [← e] at h; simp at h
      · exact ih m
    · simp
theorem ln_take (l : List UInt8) : l.take (lnN l) = l.takeWhile (fun x => !decide (x = 10)) := by
  have h := List.takeWhile_append_dropWhile (p := fun x : UInt8 => !decide (x = 10)) (l := l)
  have h1 : ∀ a b : List UInt8, a ++ b = l → l.take a.length = a := fun a b e => by rw [← e]; exact List.take_left' rfl
  exact h1 _ _ h
theorem cut_ten (l : List UInt8) : cutL 10 l = if lnN l < l.length then l.take (lnN l) :: cutL 10 (l.drop (lnN l + 1)) else [l] := by
  have hfree : (10 : UInt8) ∉ l.take (lnN l) := by rw [ln_take]; exact tw_free l
  by_cases hk : lnN l < l.length
  · rw [if_pos hk]
    have h1 : l.drop (lnN l) = l[lnN l] :: l.drop (lnN l + 1) := List.drop_eq_getElem_cons hk
    have h2 : l[lnN l] = 10 := by
      have := span_stop _ _ _ _ h1
      simpa using this
    have h3 : l = l.take (lnN l) ++ 10 :: l.drop (lnN l + 1) := by
      rw [← h2, ← h1, List.take_append_drop]
    conv => lhs; rw [h3]
    exact cutL_cut 10 _ _ hfree
  · rw [if_neg hk]
    rw [List.take_of_length_le (by omega)] at hfree
    exact cutL_free 10 l hfree

/-- strings.Cut at a line's end -/
theorem cut10_any (s : ByteArray) (hs : s.size ≤ maxLen) (w : World) : Calls Tryz.prog 123 #[.string s, .string ⟨#[10]⟩] w fun e w' => e = .returned (.tuple #[.string (if lnN s.data.toList < s.size then ⟨(s.data.toList.take (lnN s.data.toList)).toArray⟩ else s), .string (if lnN s.data.toList < s.size then ⟨(s.data.toList.drop (lnN s.data.toList + 1)).toArray⟩ else ⟨#[]⟩), .bool (decide (lnN s.data.toList < s.size))]) ∧ Below w.heap.size w w' := by
  have HI := slIndex_10 s
  rw [idx_span, bsize] at HI
  by_cases hk : lnN s.data.toList < s.size
  · have hk' : spanN (fun x => !decide (x = 10)) s.data.toList < s.size := hk
    rw [if_pos hk'] at HI
    rw [if_pos hk, if_pos hk, decide_eq_true hk]
    have e1 : (⟨(s.data.toList.take (lnN s.data.toList)).toArray⟩ : ByteArray) = s.extract 0 (lnN s.data.toList) := by apply bytes_ext; rw [ex_take]
    have e2 : (⟨(s.data.toList.drop (lnN s.data.toList + 1)).toArray⟩ : ByteArray) = s.extract (lnN s.data.toList + 1) s.size := by apply bytes_ext; rw [Lib.extract_to_end]
    rw [e1, e2]
    exact cut10_yes s _ (by unfold maxLen at hs; omega) hk HI w
  · have hk' : ¬ spanN (fun x => !decide (x = 10)) s.data.toList < s.size := hk
    rw [if_neg hk'] at HI
    rw [if_neg hk, if_neg hk, decide_eq_false hk]
    exact cut10_no s HI w

set_option maxRecDepth 100000 in
set_option maxHeartbeats 1000000 in
theorem lcut_any (s : ByteArray) (hs : s.size ≤ maxLen) (w : World) : Calls Tryz.prog 86 #[.string s, .string ⟨#[10]⟩] w fun e w' => e = .returned (.tuple #[.string (if lnN s.data.toList < s.size then ⟨(s.data.toList.take (lnN s.data.toList)).toArray⟩ else s), .string (if lnN s.data.toList < s.size then ⟨(s.data.toList.drop (lnN s.data.toList + 1)).toArray⟩ else ⟨#[]⟩), .bool (decide (lnN s.data.toList < s.size))]) ∧ Below w.heap.size w w' := by
  have HC : Hid (∀ w : World, _) := cut10_any s hs
  generalize (if lnN s.data.toList < s.size then (⟨(s.data.toList.take (lnN s.data.toList)).toArray⟩ : ByteArray) else s) = A at *
  generalize (if lnN s.data.toList < s.size then (⟨(s.data.toList.drop (lnN s.data.toList + 1)).toArray⟩ : ByteArray) else ⟨#[]⟩) = B at *
  generalize decide (lnN s.data.toList < s.size) = q at *
  go_enter Tryz.func86, Tryz.ntmps86
  go_wp2_with (go_at_call 123; refine (HC.out _).mono ?_; rintro e w1 ⟨rfl, hb1⟩)
  exact bodyPost_ret (v := .tuple #[.string A, .string B, .bool q]) (by simp [results, Tryz.results86, go_sem, *]) rfl ⟨rfl, hb1⟩
end Go.Proofs.YtfbhjfpkhofifaaGreatDoor
