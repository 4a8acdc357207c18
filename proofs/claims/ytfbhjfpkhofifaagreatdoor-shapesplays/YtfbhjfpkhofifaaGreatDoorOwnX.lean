/- Walks of package code: isOp, Operand, isWithin, fitsMethod, ownParts: each returns what the plain functions say; what was there before stays. -/
import Derived.Test.YtfbhjfpkhofifaaGreatDoorCodeL
namespace Go.Proofs.YtfbhjfpkhofifaaGreatDoor
open Go.RowKit

def opB (op : Int) : Bool := decide (0 < op) && decide (op < 41)
set_option maxRecDepth 100000 in
set_option maxHeartbeats 1000000 in
theorem isOp_any (op : Int) (r : Bool) (hr : opB op = r) (w : World) : Calls Tryz.prog 150 #[.int .i64 op] w fun e w' => e = .returned (.bool r) ∧ w' = w := by
  have HR : Hid (r = (decide (0 < op) && decide (op < 41))) := hr.symm
  clear hr
  go_enter Tryz.func150, Tryz.ntmps150
  go_wp2
  all_goals
    go_ret
    exact ⟨ret_bool (by rw [HR.out]; first | (simp [*]; done) | (simp [*]; omega)), rfl⟩

set_option maxRecDepth 100000 in
set_option maxHeartbeats 8000000 in
theorem operand_any (op : Int) (w : World) : Calls Tryz.prog 115 #[.int .i64 op] w fun e w' => e = .returned (.int .i64 (opdI op)) ∧ w' = w := by
  by_cases h : op < 1 ∨ 40 < op
  · have HO : Hid (opdI op = -1) := by rw [Hid, opdI, if_pos h]
    have HB : Hid (∀ w, _) := isOp_any op false (by unfold opB; rw [Bool.and_eq_false_iff]; rcases h with h | h; exact .inl (decide_eq_false (by omega)); exact .inr (decide_eq_false (by omega)))
    have hk : ∀ k : Int, 1 ≤ k → k ≤ 40 → (op == k) = false := fun k h1 h2 => by rw [beq_eq_false_iff_ne]; omega
    have e1 := hk 1 (by omega) (by omega); have e2 := hk 2 (by omega) (by omega); have e3 := hk 3 (by omega) (by omega); have e4 := hk 4 (by omega) (by omega); have e5 := hk 5 (by omega) (by omega); have e11 := hk 11 (by omega) (by omega); have e12 := hk 12 (by omega) (by omega); have e13 := hk 13 (by omega) (by omega); have e14 := hk 14 (by omega) (by omega); have e15 := hk 15 (by omega) (by omega); have e16 := hk 16 (by omega) (by omega); have e17 := hk 17 (by omega) (by omega); have e18 := hk 18 (by omega) (by omega); have e22 := hk 22 (by omega) (by omega); have e30 := hk 30 (by omega) (by omega); have e31 := hk 31 (by omega) (by omega); have e23 := hk 23 (by omega) (by omega); have e24 := hk 24 (by omega) (by omega); have e32 := hk 32 (by omega) (by omega); have e33 := hk 33 (by omega) (by omega); have e34 := hk 34 (by omega) (by omega); have e35 := hk 35 (by omega) (by omega)
    clear hk h
    go_enter Tryz.func115, Tryz.ntmps115
    go_wp2_with (go_at_call 150; refine ((HB.out) _).mono ?_; rintro e w1 ⟨rfl, hw1⟩; rw [hw1])
    go_ret
    exact ⟨ret_int HO.out.symm, rfl⟩
  · obtain ⟨k, rfl⟩ : ∃ k : Nat, op = k := ⟨op.toNat, by omega⟩
    have hk : k = 1 ∨ k = 2 ∨ k = 3 ∨ k = 4 ∨ k = 5 ∨ k = 6 ∨ k = 7 ∨ k = 8 ∨ k = 9 ∨ k = 10 ∨ k = 11 ∨ k = 12 ∨ k = 13 ∨ k = 14 ∨ k = 15 ∨ k = 16 ∨ k = 17 ∨ k = 18 ∨ k = 19 ∨ k = 20 ∨ k = 21 ∨ k = 22 ∨ k = 23 ∨ k = 24 ∨ k = 25 ∨ k = 26 ∨ k = 27 ∨ k = 28 ∨ k = 29 ∨ k = 30 ∨ k = 31 ∨ k = 32 ∨ k = 33 ∨ k = 34 ∨ k = 35 ∨ k = 36 ∨ k = 37 ∨ k = 38 ∨ k = 39 ∨ k = 40 := by omega
    clear h
    rcases hk with rfl | rfl | rfl | rfl | rfl | rfl | rfl | rfl | rfl | rfl | rfl | rfl | rfl | rfl | rfl | rfl | rfl | rfl | rfl | rfl | rfl | rfl | rfl | rfl | rfl | rfl | rfl | rfl | rfl | rfl | rfl | rfl | rfl | rfl | rfl | rfl | rfl | rfl | rfl | rfl
    all_goals
      go_enter Tryz.func115, Tryz.ntmps115
      go_wp2_with (go_at_call 150; refine (isOp_any _ true (by decide) _).mono ?_; rintro e w1 ⟨rfl, hw1⟩; rw [hw1])
      go_ret
      exact ⟨rfl, rfl⟩

def inB (n l h : Int) : Bool := decide (l ≤ n) && decide (n ≤ h)
set_option maxRecDepth 100000 in
set_option maxHeartbeats 1000000 in
theorem isWithin_any (n l h : Int) (w : World) : Calls Tryz.prog 171 #[.int .i64 n, .int .i64 l, .int .i64 h] w fun e w' => e = .returned (.bool (inB n l h)) ∧ w' = w := by
  have HR : Hid (inB n l h = (decide (l ≤ n) && decide (n ≤ h))) := rfl
  generalize inB n l h = r at *
  go_enter Tryz.func171, Tryz.ntmps171
  go_wp2
  all_goals
    go_ret
    exact ⟨ret_bool (by rw [HR.out]; first | (simp [*]; done) | (simp [*]; omega)), rfl⟩

/-- does an instruction fit a method of so many locals and instructions? -/
def fmB (k n locals size : Int) : Bool := if k = 2 then decide (n < locals) else if k = 3 then decide (n < size) else true
/-- the instruction with no more than its operand has -/
def ownI (i : Ins) : Ins :=
  if opdI i.op = 1 ∨ opdI i.op = 2 ∨ opdI i.op = 3 then ⟨i.op, i.n, ⟨#[]⟩, false, ⟨#[]⟩, ⟨#[]⟩, ⟨#[]⟩⟩
  else if opdI i.op = 4 ∨ opdI i.op = 5 ∨ opdI i.op = 6 then ⟨i.op, 0, i.t, false, ⟨#[]⟩, ⟨#[]⟩, ⟨#[]⟩⟩
  else if opdI i.op = 7 then ⟨i.op, i.n, i.t, false, ⟨#[]⟩, ⟨#[]⟩, ⟨#[]⟩⟩
  else if opdI i.op = 8 then ⟨i.op, 0, ⟨#[]⟩, i.b, i.c, i.m, i.d⟩
  else ⟨i.op, 0, ⟨#[]⟩, false, ⟨#[]⟩, ⟨#[]⟩, ⟨#[]⟩⟩


set_option maxRecDepth 100000 in
set_option maxHeartbeats 4000000 in
theorem ownParts_none (op n : Int) (hk : opdI op = -1) (t : ByteArray) (b : Bool) (c m d : ByteArray) (w : World) : Calls Tryz.prog 148 #[.agg #[.int .i64 op, .int .i64 n, .string t, .bool b, .string c, .string m, .string d]] w fun e w' => e = .returned (insV (ownI ⟨op, n, t, b, c, m, d⟩)) ∧ Below w.heap.size w w' := by
  have HO := operand_any op
  rw [hk] at HO
  have HO : Hid (∀ w, _) := HO
  have HR : insV (ownI ⟨op, n, t, b, c, m, d⟩) = .agg #[.int .i64 op, .int .i64 0, .string ⟨#[]⟩, .bool false, .string ⟨#[]⟩, .string ⟨#[]⟩, .string ⟨#[]⟩] := by unfold ownI; simp only [hk]; rfl
  rw [HR]
  clear hk HR
  go_enter Tryz.func148, Tryz.ntmps148
  go_wp2_with (go_at_call 115; refine ((HO.out) _).mono ?_; rintro e w0 ⟨rfl, hw0⟩; rw [hw0]; clear hw0 HO)
  refine bodyPost_ret (v := .agg #[.int .i64 op, .int .i64 0, .string ⟨#[]⟩, .bool false, .string ⟨#[]⟩, .string ⟨#[]⟩, .string ⟨#[]⟩]) (by simp [results, Tryz.results148, go_sem, *]) rfl ⟨rfl, ?_⟩
  exact ((Below.refl _ _).alloc (Nat.le_refl _) _).alloc (by simp) _

set_option maxRecDepth 100000 in
set_option maxHeartbeats 4000000 in
theorem fitsMethod_none (op n locals size : Int) (hk : opdI op = -1) (t : ByteArray) (b : Bool) (c m d : ByteArray) (w : World) : Calls Tryz.prog 164 #[.agg #[.int .i64 op, .int .i64 n, .string t, .bool b, .string c, .string m, .string d], .int .i64 locals, .int .i64 size] w fun e w' => e = .returned (.bool (fmB (opdI op) n locals size)) ∧ Below w.heap.size w w' := by
  have HO := operand_any op
  rw [hk] at HO
  have HO : Hid (∀ w, _) := HO
  have HR : fmB (opdI op) n locals size = true := by rw [hk]; rfl
  rw [HR]
  clear hk HR
  go_enter Tryz.func164, Tryz.ntmps164
  go_wp2_with (go_at_call 115; refine ((HO.out) _).mono ?_; rintro e w0 ⟨rfl, hw0⟩; rw [hw0]; clear hw0 HO)
  go_ret
  exact ⟨ret_bool rfl, (Below.refl _ _).alloc (Nat.le_refl _) _⟩

set_option maxRecDepth 100000 in
set_option maxHeartbeats 4000000 in
theorem ownParts_0 (op n : Int) (hk : opdI op = 0) (t : ByteArray) (b : Bool) (c m d : ByteArray) (w : World) : Calls Tryz.prog 148 #[.agg #[.int .i64 op, .int .i64 n, .string t, .bool b, .string c, .string m, .string d]] w fun e w' => e = .returned (insV (ownI ⟨op, n, t, b, c, m, d⟩)) ∧ Below w.heap.size w w' := by
  have HO := operand_any op
  rw [hk] at HO
  have HO : Hid (∀ w, _) := HO
  have HR : insV (ownI ⟨op, n, t, b, c, m, d⟩) = .agg #[.int .i64 op, .int .i64 0, .string ⟨#[]⟩, .bool false, .string ⟨#[]⟩, .string ⟨#[]⟩, .string ⟨#[]⟩] := by unfold ownI; simp only [hk]; rfl
  rw [HR]
  clear hk HR
  go_enter Tryz.func148, Tryz.ntmps148
  go_wp2_with (go_at_call 115; refine ((HO.out) _).mono ?_; rintro e w0 ⟨rfl, hw0⟩; rw [hw0]; clear hw0 HO)
  refine bodyPost_ret (v := .agg #[.int .i64 op, .int .i64 0, .string ⟨#[]⟩, .bool false, .string ⟨#[]⟩, .string ⟨#[]⟩, .string ⟨#[]⟩]) (by simp [results, Tryz.results148, go_sem, *]) rfl ⟨rfl, ?_⟩
  exact ((Below.refl _ _).alloc (Nat.le_refl _) _).alloc (by simp) _

set_option maxRecDepth 100000 in
set_option maxHeartbeats 4000000 in
theorem fitsMethod_0 (op n locals size : Int) (hk : opdI op = 0) (t : ByteArray) (b : Bool) (c m d : ByteArray) (w : World) : Calls Tryz.prog 164 #[.agg #[.int .i64 op, .int .i64 n, .string t, .bool b, .string c, .string m, .string d], .int .i64 locals, .int .i64 size] w fun e w' => e = .returned (.bool (fmB (opdI op) n locals size)) ∧ Below w.heap.size w w' := by
  have HO := operand_any op
  rw [hk] at HO
  have HO : Hid (∀ w, _) := HO
  have HR : fmB (opdI op) n locals size = true := by rw [hk]; rfl
  rw [HR]
  clear hk HR
  go_enter Tryz.func164, Tryz.ntmps164
  go_wp2_with (go_at_call 115; refine ((HO.out) _).mono ?_; rintro e w0 ⟨rfl, hw0⟩; rw [hw0]; clear hw0 HO)
  go_ret
  exact ⟨ret_bool rfl, (Below.refl _ _).alloc (Nat.le_refl _) _⟩

set_option maxRecDepth 100000 in
set_option maxHeartbeats 4000000 in
theorem ownParts_1 (op n : Int) (hk : opdI op = 1) (t : ByteArray) (b : Bool) (c m d : ByteArray) (w : World) : Calls Tryz.prog 148 #[.agg #[.int .i64 op, .int .i64 n, .string t, .bool b, .string c, .string m, .string d]] w fun e w' => e = .returned (insV (ownI ⟨op, n, t, b, c, m, d⟩)) ∧ Below w.heap.size w w' := by
  have HO := operand_any op
  rw [hk] at HO
  have HO : Hid (∀ w, _) := HO
  have HR : insV (ownI ⟨op, n, t, b, c, m, d⟩) = .agg #[.int .i64 op, .int .i64 n, .string ⟨#[]⟩, .bool false, .string ⟨#[]⟩, .string ⟨#[]⟩, .string ⟨#[]⟩] := by unfold ownI; simp only [hk]; rfl
  rw [HR]
  clear hk HR
  go_enter Tryz.func148, Tryz.ntmps148
  go_wp2_with (go_at_call 115; refine ((HO.out) _).mono ?_; rintro e w0 ⟨rfl, hw0⟩; rw [hw0]; clear hw0 HO)
  refine bodyPost_ret (v := .agg #[.int .i64 op, .int .i64 n, .string ⟨#[]⟩, .bool false, .string ⟨#[]⟩, .string ⟨#[]⟩, .string ⟨#[]⟩]) (by simp [results, Tryz.results148, go_sem, *]) rfl ⟨rfl, ?_⟩
  exact ((Below.refl _ _).alloc (Nat.le_refl _) _).alloc (by simp) _

set_option maxRecDepth 100000 in
set_option maxHeartbeats 4000000 in
theorem fitsMethod_1 (op n locals size : Int) (hk : opdI op = 1) (t : ByteArray) (b : Bool) (c m d : ByteArray) (w : World) : Calls Tryz.prog 164 #[.agg #[.int .i64 op, .int .i64 n, .string t, .bool b, .string c, .string m, .string d], .int .i64 locals, .int .i64 size] w fun e w' => e = .returned (.bool (fmB (opdI op) n locals size)) ∧ Below w.heap.size w w' := by
  have HO := operand_any op
  rw [hk] at HO
  have HO : Hid (∀ w, _) := HO
  have HR : fmB (opdI op) n locals size = true := by rw [hk]; rfl
  rw [HR]
  clear hk HR
  go_enter Tryz.func164, Tryz.ntmps164
  go_wp2_with (go_at_call 115; refine ((HO.out) _).mono ?_; rintro e w0 ⟨rfl, hw0⟩; rw [hw0]; clear hw0 HO)
  go_ret
  exact ⟨ret_bool rfl, (Below.refl _ _).alloc (Nat.le_refl _) _⟩

set_option maxRecDepth 100000 in
set_option maxHeartbeats 4000000 in
theorem ownParts_2 (op n : Int) (hk : opdI op = 2) (t : ByteArray) (b : Bool) (c m d : ByteArray) (w : World) : Calls Tryz.prog 148 #[.agg #[.int .i64 op, .int .i64 n, .string t, .bool b, .string c, .string m, .string d]] w fun e w' => e = .returned (insV (ownI ⟨op, n, t, b, c, m, d⟩)) ∧ Below w.heap.size w w' := by
  have HO := operand_any op
  rw [hk] at HO
  have HO : Hid (∀ w, _) := HO
  have HR : insV (ownI ⟨op, n, t, b, c, m, d⟩) = .agg #[.int .i64 op, .int .i64 n, .string ⟨#[]⟩, .bool false, .string ⟨#[]⟩, .string ⟨#[]⟩, .string ⟨#[]⟩] := by unfold ownI; simp only [hk]; rfl
  rw [HR]
  clear hk HR
  go_enter Tryz.func148, Tryz.ntmps148
  go_wp2_with (go_at_call 115; refine ((HO.out) _).mono ?_; rintro e w0 ⟨rfl, hw0⟩; rw [hw0]; clear hw0 HO)
  refine bodyPost_ret (v := .agg #[.int .i64 op, .int .i64 n, .string ⟨#[]⟩, .bool false, .string ⟨#[]⟩, .string ⟨#[]⟩, .string ⟨#[]⟩]) (by simp [results, Tryz.results148, go_sem, *]) rfl ⟨rfl, ?_⟩
  exact ((Below.refl _ _).alloc (Nat.le_refl _) _).alloc (by simp) _

set_option maxRecDepth 100000 in
set_option maxHeartbeats 4000000 in
theorem fitsMethod_2 (op n locals size : Int) (hk : opdI op = 2) (t : ByteArray) (b : Bool) (c m d : ByteArray) (w : World) : Calls Tryz.prog 164 #[.agg #[.int .i64 op, .int .i64 n, .string t, .bool b, .string c, .string m, .string d], .int .i64 locals, .int .i64 size] w fun e w' => e = .returned (.bool (fmB (opdI op) n locals size)) ∧ Below w.heap.size w w' := by
  have HO := operand_any op
  rw [hk] at HO
  have HO : Hid (∀ w, _) := HO
  have HR : fmB (opdI op) n locals size = decide (n < locals) := by rw [hk]; rfl
  rw [HR]
  clear hk HR
  go_enter Tryz.func164, Tryz.ntmps164
  go_wp2_with (go_at_call 115; refine ((HO.out) _).mono ?_; rintro e w0 ⟨rfl, hw0⟩; rw [hw0]; clear hw0 HO)
  go_ret
  exact ⟨ret_bool rfl, (Below.refl _ _).alloc (Nat.le_refl _) _⟩

set_option maxRecDepth 100000 in
set_option maxHeartbeats 4000000 in
theorem ownParts_3 (op n : Int) (hk : opdI op = 3) (t : ByteArray) (b : Bool) (c m d : ByteArray) (w : World) : Calls Tryz.prog 148 #[.agg #[.int .i64 op, .int .i64 n, .string t, .bool b, .string c, .string m, .string d]] w fun e w' => e = .returned (insV (ownI ⟨op, n, t, b, c, m, d⟩)) ∧ Below w.heap.size w w' := by
  have HO := operand_any op
  rw [hk] at HO
  have HO : Hid (∀ w, _) := HO
  have HR : insV (ownI ⟨op, n, t, b, c, m, d⟩) = .agg #[.int .i64 op, .int .i64 n, .string ⟨#[]⟩, .bool false, .string ⟨#[]⟩, .string ⟨#[]⟩, .string ⟨#[]⟩] := by unfold ownI; simp only [hk]; rfl
  rw [HR]
  clear hk HR
  go_enter Tryz.func148, Tryz.ntmps148
  go_wp2_with (go_at_call 115; refine ((HO.out) _).mono ?_; rintro e w0 ⟨rfl, hw0⟩; rw [hw0]; clear hw0 HO)
  refine bodyPost_ret (v := .agg #[.int .i64 op, .int .i64 n, .string ⟨#[]⟩, .bool false, .string ⟨#[]⟩, .string ⟨#[]⟩, .string ⟨#[]⟩]) (by simp [results, Tryz.results148, go_sem, *]) rfl ⟨rfl, ?_⟩
  exact ((Below.refl _ _).alloc (Nat.le_refl _) _).alloc (by simp) _

set_option maxRecDepth 100000 in
set_option maxHeartbeats 4000000 in
theorem fitsMethod_3 (op n locals size : Int) (hk : opdI op = 3) (t : ByteArray) (b : Bool) (c m d : ByteArray) (w : World) : Calls Tryz.prog 164 #[.agg #[.int .i64 op, .int .i64 n, .string t, .bool b, .string c, .string m, .string d], .int .i64 locals, .int .i64 size] w fun e w' => e = .returned (.bool (fmB (opdI op) n locals size)) ∧ Below w.heap.size w w' := by
  have HO := operand_any op
  rw [hk] at HO
  have HO : Hid (∀ w, _) := HO
  have HR : fmB (opdI op) n locals size = decide (n < size) := by rw [hk]; rfl
  rw [HR]
  clear hk HR
  go_enter Tryz.func164, Tryz.ntmps164
  go_wp2_with (go_at_call 115; refine ((HO.out) _).mono ?_; rintro e w0 ⟨rfl, hw0⟩; rw [hw0]; clear hw0 HO)
  go_ret
  exact ⟨ret_bool rfl, (Below.refl _ _).alloc (Nat.le_refl _) _⟩

set_option maxRecDepth 100000 in
set_option maxHeartbeats 4000000 in
theorem ownParts_4 (op n : Int) (hk : opdI op = 4) (t : ByteArray) (b : Bool) (c m d : ByteArray) (w : World) : Calls Tryz.prog 148 #[.agg #[.int .i64 op, .int .i64 n, .string t, .bool b, .string c, .string m, .string d]] w fun e w' => e = .returned (insV (ownI ⟨op, n, t, b, c, m, d⟩)) ∧ Below w.heap.size w w' := by
  have HO := operand_any op
  rw [hk] at HO
  have HO : Hid (∀ w, _) := HO
  have HR : insV (ownI ⟨op, n, t, b, c, m, d⟩) = .agg #[.int .i64 op, .int .i64 0, .string t, .bool false, .string ⟨#[]⟩, .string ⟨#[]⟩, .string ⟨#[]⟩] := by unfold ownI; simp only [hk]; rfl
  rw [HR]
  clear hk HR
  go_enter Tryz.func148, Tryz.ntmps148
  go_wp2_with (go_at_call 115; refine ((HO.out) _).mono ?_; rintro e w0 ⟨rfl, hw0⟩; rw [hw0]; clear hw0 HO)
  refine bodyPost_ret (v := .agg #[.int .i64 op, .int .i64 0, .string t, .bool false, .string ⟨#[]⟩, .string ⟨#[]⟩, .string ⟨#[]⟩]) (by simp [results, Tryz.results148, go_sem, *]) rfl ⟨rfl, ?_⟩
  exact ((Below.refl _ _).alloc (Nat.le_refl _) _).alloc (by simp) _

set_option maxRecDepth 100000 in
set_option maxHeartbeats 4000000 in
theorem fitsMethod_4 (op n locals size : Int) (hk : opdI op = 4) (t : ByteArray) (b : Bool) (c m d : ByteArray) (w : World) : Calls Tryz.prog 164 #[.agg #[.int .i64 op, .int .i64 n, .string t, .bool b, .string c, .string m, .string d], .int .i64 locals, .int .i64 size] w fun e w' => e = .returned (.bool (fmB (opdI op) n locals size)) ∧ Below w.heap.size w w' := by
  have HO := operand_any op
  rw [hk] at HO
  have HO : Hid (∀ w, _) := HO
  have HR : fmB (opdI op) n locals size = true := by rw [hk]; rfl
  rw [HR]
  clear hk HR
  go_enter Tryz.func164, Tryz.ntmps164
  go_wp2_with (go_at_call 115; refine ((HO.out) _).mono ?_; rintro e w0 ⟨rfl, hw0⟩; rw [hw0]; clear hw0 HO)
  go_ret
  exact ⟨ret_bool rfl, (Below.refl _ _).alloc (Nat.le_refl _) _⟩

set_option maxRecDepth 100000 in
set_option maxHeartbeats 4000000 in
theorem ownParts_5 (op n : Int) (hk : opdI op = 5) (t : ByteArray) (b : Bool) (c m d : ByteArray) (w : World) : Calls Tryz.prog 148 #[.agg #[.int .i64 op, .int .i64 n, .string t, .bool b, .string c, .string m, .string d]] w fun e w' => e = .returned (insV (ownI ⟨op, n, t, b, c, m, d⟩)) ∧ Below w.heap.size w w' := by
  have HO := operand_any op
  rw [hk] at HO
  have HO : Hid (∀ w, _) := HO
  have HR : insV (ownI ⟨op, n, t, b, c, m, d⟩) = .agg #[.int .i64 op, .int .i64 0, .string t, .bool false, .string ⟨#[]⟩, .string ⟨#[]⟩, .string ⟨#[]⟩] := by unfold ownI; simp only [hk]; rfl
  rw [HR]
  clear hk HR
  go_enter Tryz.func148, Tryz.ntmps148
  go_wp2_with (go_at_call 115; refine ((HO.out) _).mono ?_; rintro e w0 ⟨rfl, hw0⟩; rw [hw0]; clear hw0 HO)
  refine bodyPost_ret (v := .agg #[.int .i64 op, .int .i64 0, .string t, .bool false, .string ⟨#[]⟩, .string ⟨#[]⟩, .string ⟨#[]⟩]) (by simp [results, Tryz.results148, go_sem, *]) rfl ⟨rfl, ?_⟩
  exact ((Below.refl _ _).alloc (Nat.le_refl _) _).alloc (by simp) _

set_option maxRecDepth 100000 in
set_option maxHeartbeats 4000000 in
theorem fitsMethod_5 (op n locals size : Int) (hk : opdI op = 5) (t : ByteArray) (b : Bool) (c m d : ByteArray) (w : World) : Calls Tryz.prog 164 #[.agg #[.int .i64 op, .int .i64 n, .string t, .bool b, .string c, .string m, .string d], .int .i64 locals, .int .i64 size] w fun e w' => e = .returned (.bool (fmB (opdI op) n locals size)) ∧ Below w.heap.size w w' := by
  have HO := operand_any op
  rw [hk] at HO
  have HO : Hid (∀ w, _) := HO
  have HR : fmB (opdI op) n locals size = true := by rw [hk]; rfl
  rw [HR]
  clear hk HR
  go_enter Tryz.func164, Tryz.ntmps164
  go_wp2_with (go_at_call 115; refine ((HO.out) _).mono ?_; rintro e w0 ⟨rfl, hw0⟩; rw [hw0]; clear hw0 HO)
  go_ret
  exact ⟨ret_bool rfl, (Below.refl _ _).alloc (Nat.le_refl _) _⟩

set_option maxRecDepth 100000 in
set_option maxHeartbeats 4000000 in
theorem ownParts_6 (op n : Int) (hk : opdI op = 6) (t : ByteArray) (b : Bool) (c m d : ByteArray) (w : World) : Calls Tryz.prog 148 #[.agg #[.int .i64 op, .int .i64 n, .string t, .bool b, .string c, .string m, .string d]] w fun e w' => e = .returned (insV (ownI ⟨op, n, t, b, c, m, d⟩)) ∧ Below w.heap.size w w' := by
  have HO := operand_any op
  rw [hk] at HO
  have HO : Hid (∀ w, _) := HO
  have HR : insV (ownI ⟨op, n, t, b, c, m, d⟩) = .agg #[.int .i64 op, .int .i64 0, .string t, .bool false, .string ⟨#[]⟩, .string ⟨#[]⟩, .string ⟨#[]⟩] := by unfold ownI; simp only [hk]; rfl
  rw [HR]
  clear hk HR
  go_enter Tryz.func148, Tryz.ntmps148
  go_wp2_with (go_at_call 115; refine ((HO.out) _).mono ?_; rintro e w0 ⟨rfl, hw0⟩; rw [hw0]; clear hw0 HO)
  refine bodyPost_ret (v := .agg #[.int .i64 op, .int .i64 0, .string t, .bool false, .string ⟨#[]⟩, .string ⟨#[]⟩, .string ⟨#[]⟩]) (by simp [results, Tryz.results148, go_sem, *]) rfl ⟨rfl, ?_⟩
  exact ((Below.refl _ _).alloc (Nat.le_refl _) _).alloc (by simp) _

set_option maxRecDepth 100000 in
set_option maxHeartbeats 4000000 in
theorem fitsMethod_6 (op n locals size : Int) (hk : opdI op = 6) (t : ByteArray) (b : Bool) (c m d : ByteArray) (w : World) : Calls Tryz.prog 164 #[.agg #[.int .i64 op, .int .i64 n, .string t, .bool b, .string c, .string m, .string d], .int .i64 locals, .int .i64 size] w fun e w' => e = .returned (.bool (fmB (opdI op) n locals size)) ∧ Below w.heap.size w w' := by
  have HO := operand_any op
  rw [hk] at HO
  have HO : Hid (∀ w, _) := HO
  have HR : fmB (opdI op) n locals size = true := by rw [hk]; rfl
  rw [HR]
  clear hk HR
  go_enter Tryz.func164, Tryz.ntmps164
  go_wp2_with (go_at_call 115; refine ((HO.out) _).mono ?_; rintro e w0 ⟨rfl, hw0⟩; rw [hw0]; clear hw0 HO)
  go_ret
  exact ⟨ret_bool rfl, (Below.refl _ _).alloc (Nat.le_refl _) _⟩

set_option maxRecDepth 100000 in
set_option maxHeartbeats 4000000 in
theorem ownParts_7 (op n : Int) (hk : opdI op = 7) (t : ByteArray) (b : Bool) (c m d : ByteArray) (w : World) : Calls Tryz.prog 148 #[.agg #[.int .i64 op, .int .i64 n, .string t, .bool b, .string c, .string m, .string d]] w fun e w' => e = .returned (insV (ownI ⟨op, n, t, b, c, m, d⟩)) ∧ Below w.heap.size w w' := by
  have HO := operand_any op
  rw [hk] at HO
  have HO : Hid (∀ w, _) := HO
  have HR : insV (ownI ⟨op, n, t, b, c, m, d⟩) = .agg #[.int .i64 op, .int .i64 n, .string t, .bool false, .string ⟨#[]⟩, .string ⟨#[]⟩, .string ⟨#[]⟩] := by unfold ownI; simp only [hk]; rfl
  rw [HR]
  clear hk HR
  go_enter Tryz.func148, Tryz.ntmps148
  go_wp2_with (go_at_call 115; refine ((HO.out) _).mono ?_; rintro e w0 ⟨rfl, hw0⟩; rw [hw0]; clear hw0 HO)
  refine bodyPost_ret (v := .agg #[.int .i64 op, .int .i64 n, .string t, .bool false, .string ⟨#[]⟩, .string ⟨#[]⟩, .string ⟨#[]⟩]) (by simp [results, Tryz.results148, go_sem, *]) rfl ⟨rfl, ?_⟩
  exact ((Below.refl _ _).alloc (Nat.le_refl _) _).alloc (by simp) _

set_option maxRecDepth 100000 in
set_option maxHeartbeats 4000000 in
theorem fitsMethod_7 (op n locals size : Int) (hk : opdI op = 7) (t : ByteArray) (b : Bool) (c m d : ByteArray) (w : World) : Calls Tryz.prog 164 #[.agg #[.int .i64 op, .int .i64 n, .string t, .bool b, .string c, .string m, .string d], .int .i64 locals, .int .i64 size] w fun e w' => e = .returned (.bool (fmB (opdI op) n locals size)) ∧ Below w.heap.size w w' := by
  have HO := operand_any op
  rw [hk] at HO
  have HO : Hid (∀ w, _) := HO
  have HR : fmB (opdI op) n locals size = true := by rw [hk]; rfl
  rw [HR]
  clear hk HR
  go_enter Tryz.func164, Tryz.ntmps164
  go_wp2_with (go_at_call 115; refine ((HO.out) _).mono ?_; rintro e w0 ⟨rfl, hw0⟩; rw [hw0]; clear hw0 HO)
  go_ret
  exact ⟨ret_bool rfl, (Below.refl _ _).alloc (Nat.le_refl _) _⟩

set_option maxRecDepth 100000 in
set_option maxHeartbeats 4000000 in
theorem ownParts_8 (op n : Int) (hk : opdI op = 8) (t : ByteArray) (b : Bool) (c m d : ByteArray) (w : World) : Calls Tryz.prog 148 #[.agg #[.int .i64 op, .int .i64 n, .string t, .bool b, .string c, .string m, .string d]] w fun e w' => e = .returned (insV (ownI ⟨op, n, t, b, c, m, d⟩)) ∧ Below w.heap.size w w' := by
  have HO := operand_any op
  rw [hk] at HO
  have HO : Hid (∀ w, _) := HO
  have HR : insV (ownI ⟨op, n, t, b, c, m, d⟩) = .agg #[.int .i64 op, .int .i64 0, .string ⟨#[]⟩, .bool b, .string c, .string m, .string d] := by unfold ownI; simp only [hk]; rfl
  rw [HR]
  clear hk HR
  go_enter Tryz.func148, Tryz.ntmps148
  go_wp2_with (go_at_call 115; refine ((HO.out) _).mono ?_; rintro e w0 ⟨rfl, hw0⟩; rw [hw0]; clear hw0 HO)
  refine bodyPost_ret (v := .agg #[.int .i64 op, .int .i64 0, .string ⟨#[]⟩, .bool b, .string c, .string m, .string d]) (by simp [results, Tryz.results148, go_sem, *]) rfl ⟨rfl, ?_⟩
  exact ((Below.refl _ _).alloc (Nat.le_refl _) _).alloc (by simp) _

set_option maxRecDepth 100000 in
set_option maxHeartbeats 4000000 in
theorem fitsMethod_8 (op n locals size : Int) (hk : opdI op = 8) (t : ByteArray) (b : Bool) (c m d : ByteArray) (w : World) : Calls Tryz.prog 164 #[.agg #[.int .i64 op, .int .i64 n, .string t, .bool b, .string c, .string m, .string d], .int .i64 locals, .int .i64 size] w fun e w' => e = .returned (.bool (fmB (opdI op) n locals size)) ∧ Below w.heap.size w w' := by
  have HO := operand_any op
  rw [hk] at HO
  have HO : Hid (∀ w, _) := HO
  have HR : fmB (opdI op) n locals size = true := by rw [hk]; rfl
  rw [HR]
  clear hk HR
  go_enter Tryz.func164, Tryz.ntmps164
  go_wp2_with (go_at_call 115; refine ((HO.out) _).mono ?_; rintro e w0 ⟨rfl, hw0⟩; rw [hw0]; clear hw0 HO)
  go_ret
  exact ⟨ret_bool rfl, (Below.refl _ _).alloc (Nat.le_refl _) _⟩

end Go.Proofs.YtfbhjfpkhofifaaGreatDoor
