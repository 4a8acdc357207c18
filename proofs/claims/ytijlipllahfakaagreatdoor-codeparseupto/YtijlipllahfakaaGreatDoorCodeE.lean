/- The walk of the document's Check (arbiterref04): is an instruction sound? What was there before stays. -/
import Derived.Test.YtijlipllahfakaaGreatDoorCodeD
namespace Go.Proofs.YtijlipllahfakaaGreatDoor
open Go.RowKit

theorem opd_cases (op : Int) : opdI op = -1 ∨ opdI op = 0 ∨ opdI op = 1 ∨ opdI op = 2 ∨ opdI op = 3 ∨ opdI op = 4 ∨ opdI op = 5 ∨ opdI op = 6 ∨ opdI op = 7 ∨ opdI op = 8 := by
  by_cases h : op < 1 ∨ 40 < op
  · left; rw [opdI, if_pos h]
  · have hx : ∀ k : Fin 41, (opdTab.getD k.1 0 = -1 ∨ opdTab.getD k.1 0 = 0 ∨ opdTab.getD k.1 0 = 1 ∨ opdTab.getD k.1 0 = 2 ∨ opdTab.getD k.1 0 = 3 ∨ opdTab.getD k.1 0 = 4 ∨ opdTab.getD k.1 0 = 5 ∨ opdTab.getD k.1 0 = 6 ∨ opdTab.getD k.1 0 = 7 ∨ opdTab.getD k.1 0 = 8) := by decide
    have := hx ⟨op.toNat, by omega⟩
    rw [opdI, if_neg h]
    exact this

/-- is an instruction sound? k: the kind of its operand, z: is its reference the zero one? -/
def insB (k n : Int) (te : Bool) (t : List UInt8) (z r : Bool) : Bool :=
  if k = 0 then z && (n == 0) && te
  else if k = 1 then z && te && decide (-2147483648 ≤ n) && decide (n ≤ 2147483647)
  else if k = 2 then z && te && decide (0 ≤ n) && decide (n < 40)
  else if k = 3 then z && te && decide (0 ≤ n) && decide (n < 200)
  else if k = 4 then z && (n == 0) && validL t
  else if k = 5 then z && (n == 0) && (prfE t == 0)
  else if k = 6 then z && (n == 0) && (parE t == 0) && decide ((parT t).1 < 255)
  else if k = 7 then z && (prfE t == 0) && decide (1 ≤ n) && decide (n ≤ (prfT t).1)
  else if k = 8 then (n == 0) && te && r
  else false

def ickE (op n : Int) (t : ByteArray) (b : Bool) (c m d : ByteArray) : Int := if insB (opdI op) n t.toList.isEmpty t.data.toList (noRefB b c m d) (rckB c.data.toList m.data.toList d.data.toList) then 0 else 1

set_option maxRecDepth 100000 in
set_option maxHeartbeats 4000000 in
theorem rCheck_none (op n : Int) (hk : opdI op = -1) (t : ByteArray) (b : Bool) (c m d : ByteArray) (w : World) : Calls Tryz.prog 19 #[.agg #[.int .i64 op, .int .i64 n, .string t, .bool b, .string c, .string m, .string d]] w fun e w' => e = .returned (.int .i64 (ickE op n t b c m d)) ∧ Below w.heap.size w w' := by
  have HO := rOperand_any op
  have HN : Hid (∀ w, _) := rNoRef_any b c m d
  have HR : Hid (ickE op n t b c m d = if false then 0 else 1) := by rw [Hid, ickE, hk]; rfl
  rw [hk] at HO
  have HO : Hid (∀ w, _) := HO
  generalize ickE op n t b c m d = x at *
  generalize noRefB b c m d = z at *
  clear hk

  cases z
  all_goals go_enter Tryz.func19, Tryz.ntmps19
  all_goals go_wp2_with (first
    | (go_at_call 17; refine ((HO.out) _).mono ?_; rintro e w0 ⟨rfl, hw0⟩; rw [hw0]; clear hw0 HO)
    | (go_at_call 32; refine ((HN.out) _).mono ?_; rintro e w1 ⟨rfl, hb1⟩; clear HN; have hs1 : w.heap.size < w1.heap.size := (by have := hb1.size; simp at this; omega); have hc11 : w1.cell? ⟨w.heap.size, 1, none⟩ = some (.int .i64 n) := (hb1.cell (p := ⟨w.heap.size, 1, none⟩) (by simp [*])).trans (by simp [go_sem, *]); have hc12 : w1.cell? ⟨w.heap.size, 2, none⟩ = some (.string t) := (hb1.cell (p := ⟨w.heap.size, 2, none⟩) (by simp [*])).trans (by simp [go_sem, *]); have hB1 : Hid (Below w.heap.size w w1) := Below.step ((Below.refl _ _).alloc (Nat.le_refl _) _) hb1; clear hb1))
  all_goals
    go_ret
    refine ⟨ret_int (by rw [HR.out]; rfl), ?_⟩
    first
      | exact (Below.refl _ _).alloc (Nat.le_refl _) _
      | exact hB1.out

set_option maxRecDepth 100000 in
set_option maxHeartbeats 4000000 in
theorem rCheck_0 (op n : Int) (hk : opdI op = 0) (t : ByteArray) (b : Bool) (c m d : ByteArray) (w : World) : Calls Tryz.prog 19 #[.agg #[.int .i64 op, .int .i64 n, .string t, .bool b, .string c, .string m, .string d]] w fun e w' => e = .returned (.int .i64 (ickE op n t b c m d)) ∧ Below w.heap.size w w' := by
  have HO := rOperand_any op
  have HN : Hid (∀ w, _) := rNoRef_any b c m d
  have HR : Hid (ickE op n t b c m d = if noRefB b c m d && (n == 0) && t.toList.isEmpty then 0 else 1) := by rw [Hid, ickE, hk]; rfl
  rw [hk] at HO
  have HO : Hid (∀ w, _) := HO
  generalize ickE op n t b c m d = x at *
  generalize noRefB b c m d = z at *
  clear hk
  obtain ⟨nz, hnz⟩ : ∃ nz, (n == 0) = nz := ⟨_, rfl⟩
  have hnz2 : (n != 0) = !nz := by rw [bne, hnz]
  obtain ⟨te, hte⟩ : ∃ te, t.toList.isEmpty = te := ⟨_, rfl⟩
  rw [hnz, hte] at HR
  cases z <;> cases nz <;> cases te
  all_goals go_enter Tryz.func19, Tryz.ntmps19
  all_goals go_wp2_with (first
    | (go_at_call 17; refine ((HO.out) _).mono ?_; rintro e w0 ⟨rfl, hw0⟩; rw [hw0]; clear hw0 HO)
    | (go_at_call 32; refine ((HN.out) _).mono ?_; rintro e w1 ⟨rfl, hb1⟩; clear HN; have hs1 : w.heap.size < w1.heap.size := (by have := hb1.size; simp at this; omega); have hc11 : w1.cell? ⟨w.heap.size, 1, none⟩ = some (.int .i64 n) := (hb1.cell (p := ⟨w.heap.size, 1, none⟩) (by simp [*])).trans (by simp [go_sem, *]); have hc12 : w1.cell? ⟨w.heap.size, 2, none⟩ = some (.string t) := (hb1.cell (p := ⟨w.heap.size, 2, none⟩) (by simp [*])).trans (by simp [go_sem, *]); have hB1 : Hid (Below w.heap.size w w1) := Below.step ((Below.refl _ _).alloc (Nat.le_refl _) _) hb1; clear hb1))
  all_goals
    go_ret
    refine ⟨ret_int (by rw [HR.out]; rfl), ?_⟩
    first
      | exact (Below.refl _ _).alloc (Nat.le_refl _) _
      | exact hB1.out

set_option maxRecDepth 100000 in
set_option maxHeartbeats 4000000 in
theorem rCheck_1 (op n : Int) (hk : opdI op = 1) (t : ByteArray) (b : Bool) (c m d : ByteArray) (w : World) : Calls Tryz.prog 19 #[.agg #[.int .i64 op, .int .i64 n, .string t, .bool b, .string c, .string m, .string d]] w fun e w' => e = .returned (.int .i64 (ickE op n t b c m d)) ∧ Below w.heap.size w w' := by
  have HO := rOperand_any op
  have HN : Hid (∀ w, _) := rNoRef_any b c m d
  have HR : Hid (ickE op n t b c m d = if noRefB b c m d && t.toList.isEmpty && decide (-2147483648 ≤ n) && decide (n ≤ 2147483647) then 0 else 1) := by rw [Hid, ickE, hk]; rfl
  rw [hk] at HO
  have HO : Hid (∀ w, _) := HO
  generalize ickE op n t b c m d = x at *
  generalize noRefB b c m d = z at *
  clear hk
  obtain ⟨te, hte⟩ : ∃ te, t.toList.isEmpty = te := ⟨_, rfl⟩
  rw [hte] at HR
  cases z <;> cases te
  all_goals go_enter Tryz.func19, Tryz.ntmps19
  all_goals go_wp2_with (first
    | (go_at_call 17; refine ((HO.out) _).mono ?_; rintro e w0 ⟨rfl, hw0⟩; rw [hw0]; clear hw0 HO)
    | (go_at_call 32; refine ((HN.out) _).mono ?_; rintro e w1 ⟨rfl, hb1⟩; clear HN; have hs1 : w.heap.size < w1.heap.size := (by have := hb1.size; simp at this; omega); have hc11 : w1.cell? ⟨w.heap.size, 1, none⟩ = some (.int .i64 n) := (hb1.cell (p := ⟨w.heap.size, 1, none⟩) (by simp [*])).trans (by simp [go_sem, *]); have hc12 : w1.cell? ⟨w.heap.size, 2, none⟩ = some (.string t) := (hb1.cell (p := ⟨w.heap.size, 2, none⟩) (by simp [*])).trans (by simp [go_sem, *]); have hB1 : Hid (Below w.heap.size w w1) := Below.step ((Below.refl _ _).alloc (Nat.le_refl _) _) hb1; clear hb1))
  all_goals
    go_ret
    refine ⟨ret_int (by rw [HR.out]; first | rfl | (split <;> first | rfl | (exfalso; simp_all; done) | (exfalso; simp_all; omega))), ?_⟩
    first
      | exact (Below.refl _ _).alloc (Nat.le_refl _) _
      | exact hB1.out

set_option maxRecDepth 100000 in
set_option maxHeartbeats 4000000 in
theorem rCheck_2 (op n : Int) (hk : opdI op = 2) (t : ByteArray) (b : Bool) (c m d : ByteArray) (w : World) : Calls Tryz.prog 19 #[.agg #[.int .i64 op, .int .i64 n, .string t, .bool b, .string c, .string m, .string d]] w fun e w' => e = .returned (.int .i64 (ickE op n t b c m d)) ∧ Below w.heap.size w w' := by
  have HO := rOperand_any op
  have HN : Hid (∀ w, _) := rNoRef_any b c m d
  have HR : Hid (ickE op n t b c m d = if noRefB b c m d && t.toList.isEmpty && decide (0 ≤ n) && decide (n < 40) then 0 else 1) := by rw [Hid, ickE, hk]; rfl
  rw [hk] at HO
  have HO : Hid (∀ w, _) := HO
  generalize ickE op n t b c m d = x at *
  generalize noRefB b c m d = z at *
  clear hk
  obtain ⟨te, hte⟩ : ∃ te, t.toList.isEmpty = te := ⟨_, rfl⟩
  rw [hte] at HR
  cases z <;> cases te
  all_goals go_enter Tryz.func19, Tryz.ntmps19
  all_goals go_wp2_with (first
    | (go_at_call 17; refine ((HO.out) _).mono ?_; rintro e w0 ⟨rfl, hw0⟩; rw [hw0]; clear hw0 HO)
    | (go_at_call 32; refine ((HN.out) _).mono ?_; rintro e w1 ⟨rfl, hb1⟩; clear HN; have hs1 : w.heap.size < w1.heap.size := (by have := hb1.size; simp at this; omega); have hc11 : w1.cell? ⟨w.heap.size, 1, none⟩ = some (.int .i64 n) := (hb1.cell (p := ⟨w.heap.size, 1, none⟩) (by simp [*])).trans (by simp [go_sem, *]); have hc12 : w1.cell? ⟨w.heap.size, 2, none⟩ = some (.string t) := (hb1.cell (p := ⟨w.heap.size, 2, none⟩) (by simp [*])).trans (by simp [go_sem, *]); have hB1 : Hid (Below w.heap.size w w1) := Below.step ((Below.refl _ _).alloc (Nat.le_refl _) _) hb1; clear hb1))
  all_goals
    go_ret
    refine ⟨ret_int (by rw [HR.out]; first | rfl | (split <;> first | rfl | (exfalso; simp_all; done) | (exfalso; simp_all; omega))), ?_⟩
    first
      | exact (Below.refl _ _).alloc (Nat.le_refl _) _
      | exact hB1.out

set_option maxRecDepth 100000 in
set_option maxHeartbeats 4000000 in
theorem rCheck_3 (op n : Int) (hk : opdI op = 3) (t : ByteArray) (b : Bool) (c m d : ByteArray) (w : World) : Calls Tryz.prog 19 #[.agg #[.int .i64 op, .int .i64 n, .string t, .bool b, .string c, .string m, .string d]] w fun e w' => e = .returned (.int .i64 (ickE op n t b c m d)) ∧ Below w.heap.size w w' := by
  have HO := rOperand_any op
  have HN : Hid (∀ w, _) := rNoRef_any b c m d
  have HR : Hid (ickE op n t b c m d = if noRefB b c m d && t.toList.isEmpty && decide (0 ≤ n) && decide (n < 200) then 0 else 1) := by rw [Hid, ickE, hk]; rfl
  rw [hk] at HO
  have HO : Hid (∀ w, _) := HO
  generalize ickE op n t b c m d = x at *
  generalize noRefB b c m d = z at *
  clear hk
  obtain ⟨te, hte⟩ : ∃ te, t.toList.isEmpty = te := ⟨_, rfl⟩
  rw [hte] at HR
  cases z <;> cases te
  all_goals go_enter Tryz.func19, Tryz.ntmps19
  all_goals go_wp2_with (first
    | (go_at_call 17; refine ((HO.out) _).mono ?_; rintro e w0 ⟨rfl, hw0⟩; rw [hw0]; clear hw0 HO)
    | (go_at_call 32; refine ((HN.out) _).mono ?_; rintro e w1 ⟨rfl, hb1⟩; clear HN; have hs1 : w.heap.size < w1.heap.size := (by have := hb1.size; simp at this; omega); have hc11 : w1.cell? ⟨w.heap.size, 1, none⟩ = some (.int .i64 n) := (hb1.cell (p := ⟨w.heap.size, 1, none⟩) (by simp [*])).trans (by simp [go_sem, *]); have hc12 : w1.cell? ⟨w.heap.size, 2, none⟩ = some (.string t) := (hb1.cell (p := ⟨w.heap.size, 2, none⟩) (by simp [*])).trans (by simp [go_sem, *]); have hB1 : Hid (Below w.heap.size w w1) := Below.step ((Below.refl _ _).alloc (Nat.le_refl _) _) hb1; clear hb1))
  all_goals
    go_ret
    refine ⟨ret_int (by rw [HR.out]; first | rfl | (split <;> first | rfl | (exfalso; simp_all; done) | (exfalso; simp_all; omega))), ?_⟩
    first
      | exact (Below.refl _ _).alloc (Nat.le_refl _) _
      | exact hB1.out

set_option maxRecDepth 100000 in
set_option maxHeartbeats 4000000 in
theorem rCheck_4 (op n : Int) (hk : opdI op = 4) (t : ByteArray) (b : Bool) (c m d : ByteArray) (ht : t.size ≤ maxLen) (w : World) : Calls Tryz.prog 19 #[.agg #[.int .i64 op, .int .i64 n, .string t, .bool b, .string c, .string m, .string d]] w fun e w' => e = .returned (.int .i64 (ickE op n t b c m d)) ∧ Below w.heap.size w w' := by
  have HO := rOperand_any op
  have HN : Hid (∀ w, _) := rNoRef_any b c m d
  have HV : Hid (∀ w, _) := rValid_any t ht
  have HR : Hid (ickE op n t b c m d = if noRefB b c m d && (n == 0) && validL t.data.toList then 0 else 1) := by rw [Hid, ickE, hk]; rfl
  rw [hk] at HO
  have HO : Hid (∀ w, _) := HO
  generalize ickE op n t b c m d = x at *
  generalize noRefB b c m d = z at *
  generalize validL t.data.toList = y at *
  clear ht
  clear hk
  obtain ⟨nz, hnz⟩ : ∃ nz, (n == 0) = nz := ⟨_, rfl⟩
  have hnz2 : (n != 0) = !nz := by rw [bne, hnz]
  rw [hnz] at HR
  cases z <;> cases nz <;> cases y
  all_goals go_enter Tryz.func19, Tryz.ntmps19
  all_goals go_wp2_with (first
    | (go_at_call 17; refine ((HO.out) _).mono ?_; rintro e w0 ⟨rfl, hw0⟩; rw [hw0]; clear hw0 HO)
    | (go_at_call 32; refine ((HN.out) _).mono ?_; rintro e w1 ⟨rfl, hb1⟩; clear HN; have hs1 : w.heap.size < w1.heap.size := (by have := hb1.size; simp at this; omega); have hc11 : w1.cell? ⟨w.heap.size, 1, none⟩ = some (.int .i64 n) := (hb1.cell (p := ⟨w.heap.size, 1, none⟩) (by simp [*])).trans (by simp [go_sem, *]); have hc12 : w1.cell? ⟨w.heap.size, 2, none⟩ = some (.string t) := (hb1.cell (p := ⟨w.heap.size, 2, none⟩) (by simp [*])).trans (by simp [go_sem, *]); have hB1 : Hid (Below w.heap.size w w1) := Below.step ((Below.refl _ _).alloc (Nat.le_refl _) _) hb1; clear hb1)
    | (go_at_call 33; refine ((HV.out) _).mono ?_; rintro e w2 ⟨rfl, hb2⟩; clear HV; have hs2 : w.heap.size < w2.heap.size := (by have := hb2.size; first | omega | (simp at this; omega)); have hB2 : Hid (Below w.heap.size w _) := Below.step hB1.out hb2))
  all_goals
    go_ret
    refine ⟨ret_int (by rw [HR.out]; rfl), ?_⟩
    first
      | exact (Below.refl _ _).alloc (Nat.le_refl _) _
      | exact hB1.out
      | exact hB2.out
      | exact hB2.out.alloc hB2.out.size _

set_option maxRecDepth 100000 in
set_option maxHeartbeats 4000000 in
theorem rCheck_5 (op n : Int) (hk : opdI op = 5) (t : ByteArray) (b : Bool) (c m d : ByteArray) (ht : t.size ≤ maxLen) (w : World) : Calls Tryz.prog 19 #[.agg #[.int .i64 op, .int .i64 n, .string t, .bool b, .string c, .string m, .string d]] w fun e w' => e = .returned (.int .i64 (ickE op n t b c m d)) ∧ Below w.heap.size w w' := by
  have HO := rOperand_any op
  have HN : Hid (∀ w, _) := rNoRef_any b c m d
  have HV : Hid (∀ w, _) := rParseRef_any t ht
  have HR : Hid (ickE op n t b c m d = if noRefB b c m d && (n == 0) && (prfE t.data.toList == 0) then 0 else 1) := by rw [Hid, ickE, hk]; rfl
  rw [hk] at HO
  have HO : Hid (∀ w, _) := HO
  generalize ickE op n t b c m d = x at *
  generalize noRefB b c m d = z at *
  generalize prfE t.data.toList = y at *
  generalize prfT t.data.toList = yt at *
  clear ht
  clear hk
  obtain ⟨nz, hnz⟩ : ∃ nz, (n == 0) = nz := ⟨_, rfl⟩
  have hnz2 : (n != 0) = !nz := by rw [bne, hnz]
  rw [hnz] at HR
  cases z <;> cases nz
  all_goals go_enter Tryz.func19, Tryz.ntmps19
  all_goals go_wp2_with (first
    | (go_at_call 17; refine ((HO.out) _).mono ?_; rintro e w0 ⟨rfl, hw0⟩; rw [hw0]; clear hw0 HO)
    | (go_at_call 32; refine ((HN.out) _).mono ?_; rintro e w1 ⟨rfl, hb1⟩; clear HN; have hs1 : w.heap.size < w1.heap.size := (by have := hb1.size; simp at this; omega); have hc11 : w1.cell? ⟨w.heap.size, 1, none⟩ = some (.int .i64 n) := (hb1.cell (p := ⟨w.heap.size, 1, none⟩) (by simp [*])).trans (by simp [go_sem, *]); have hc12 : w1.cell? ⟨w.heap.size, 2, none⟩ = some (.string t) := (hb1.cell (p := ⟨w.heap.size, 2, none⟩) (by simp [*])).trans (by simp [go_sem, *]); have hB1 : Hid (Below w.heap.size w w1) := Below.step ((Below.refl _ _).alloc (Nat.le_refl _) _) hb1; clear hb1)
    | (go_at_call 34; refine ((HV.out) _).mono ?_; rintro e w2 ⟨rfl, hb2⟩; clear HV; have hs2 : w.heap.size < w2.heap.size := (by have := hb2.size; first | omega | (simp at this; omega)); have hB2 : Hid (Below w.heap.size w _) := Below.step hB1.out hb2))
  all_goals
    go_ret
    refine ⟨ret_int (by rw [HR.out]; first | rfl | (split <;> first | rfl | (exfalso; simp_all; done) | (exfalso; simp_all; omega))), ?_⟩
    first
      | exact (Below.refl _ _).alloc (Nat.le_refl _) _
      | exact hB1.out
      | exact hB2.out
      | exact hB2.out.alloc hB2.out.size _

set_option maxRecDepth 100000 in
set_option maxHeartbeats 4000000 in
theorem rCheck_6 (op n : Int) (hk : opdI op = 6) (t : ByteArray) (b : Bool) (c m d : ByteArray) (ht : t.size ≤ maxLen) (w : World) : Calls Tryz.prog 19 #[.agg #[.int .i64 op, .int .i64 n, .string t, .bool b, .string c, .string m, .string d]] w fun e w' => e = .returned (.int .i64 (ickE op n t b c m d)) ∧ Below w.heap.size w w' := by
  have HO := rOperand_any op
  have HN : Hid (∀ w, _) := rNoRef_any b c m d
  have HV : Hid (∀ w, _) := rParse_any t ht
  have HR : Hid (ickE op n t b c m d = if noRefB b c m d && (n == 0) && (parE t.data.toList == 0) && decide ((parT t.data.toList).1 < 255) then 0 else 1) := by rw [Hid, ickE, hk]; rfl
  rw [hk] at HO
  have HO : Hid (∀ w, _) := HO
  generalize ickE op n t b c m d = x at *
  generalize noRefB b c m d = z at *
  generalize parE t.data.toList = y at *
  generalize parT t.data.toList = yt at *
  clear ht
  clear hk
  obtain ⟨nz, hnz⟩ : ∃ nz, (n == 0) = nz := ⟨_, rfl⟩
  have hnz2 : (n != 0) = !nz := by rw [bne, hnz]
  rw [hnz] at HR
  cases z <;> cases nz
  all_goals go_enter Tryz.func19, Tryz.ntmps19
  all_goals go_wp2_with (first
    | (go_at_call 17; refine ((HO.out) _).mono ?_; rintro e w0 ⟨rfl, hw0⟩; rw [hw0]; clear hw0 HO)
    | (go_at_call 32; refine ((HN.out) _).mono ?_; rintro e w1 ⟨rfl, hb1⟩; clear HN; have hs1 : w.heap.size < w1.heap.size := (by have := hb1.size; simp at this; omega); have hc11 : w1.cell? ⟨w.heap.size, 1, none⟩ = some (.int .i64 n) := (hb1.cell (p := ⟨w.heap.size, 1, none⟩) (by simp [*])).trans (by simp [go_sem, *]); have hc12 : w1.cell? ⟨w.heap.size, 2, none⟩ = some (.string t) := (hb1.cell (p := ⟨w.heap.size, 2, none⟩) (by simp [*])).trans (by simp [go_sem, *]); have hB1 : Hid (Below w.heap.size w w1) := Below.step ((Below.refl _ _).alloc (Nat.le_refl _) _) hb1; clear hb1)
    | (go_at_call 35; refine ((HV.out) _).mono ?_; rintro e w2 ⟨rfl, hb2⟩; clear HV; have hs2 : w.heap.size < w2.heap.size := (by have := hb2.size; first | omega | (simp at this; omega)); have hB2 : Hid (Below w.heap.size w _) := Below.step hB1.out hb2))
  all_goals
    go_ret
    refine ⟨ret_int (by rw [HR.out]; first | rfl | (split <;> first | rfl | (exfalso; simp_all; done) | (exfalso; simp_all; omega))), ?_⟩
    first
      | exact (Below.refl _ _).alloc (Nat.le_refl _) _
      | exact hB1.out
      | exact hB2.out
      | exact hB2.out.alloc hB2.out.size _

set_option maxRecDepth 100000 in
set_option maxHeartbeats 4000000 in
theorem rCheck_7 (op n : Int) (hk : opdI op = 7) (t : ByteArray) (b : Bool) (c m d : ByteArray) (ht : t.size ≤ maxLen) (w : World) : Calls Tryz.prog 19 #[.agg #[.int .i64 op, .int .i64 n, .string t, .bool b, .string c, .string m, .string d]] w fun e w' => e = .returned (.int .i64 (ickE op n t b c m d)) ∧ Below w.heap.size w w' := by
  have HO := rOperand_any op
  have HN : Hid (∀ w, _) := rNoRef_any b c m d
  have HV : Hid (∀ w, _) := rParseRef_any t ht
  have HR : Hid (ickE op n t b c m d = if noRefB b c m d && (prfE t.data.toList == 0) && decide (1 ≤ n) && decide (n ≤ (prfT t.data.toList).1) then 0 else 1) := by rw [Hid, ickE, hk]; rfl
  rw [hk] at HO
  have HO : Hid (∀ w, _) := HO
  generalize ickE op n t b c m d = x at *
  generalize noRefB b c m d = z at *
  generalize prfE t.data.toList = y at *
  generalize prfT t.data.toList = yt at *
  clear ht
  clear hk

  cases z
  all_goals go_enter Tryz.func19, Tryz.ntmps19
  all_goals go_wp2_with (first
    | (go_at_call 17; refine ((HO.out) _).mono ?_; rintro e w0 ⟨rfl, hw0⟩; rw [hw0]; clear hw0 HO)
    | (go_at_call 32; refine ((HN.out) _).mono ?_; rintro e w1 ⟨rfl, hb1⟩; clear HN; have hs1 : w.heap.size < w1.heap.size := (by have := hb1.size; simp at this; omega); have hc11 : w1.cell? ⟨w.heap.size, 1, none⟩ = some (.int .i64 n) := (hb1.cell (p := ⟨w.heap.size, 1, none⟩) (by simp [*])).trans (by simp [go_sem, *]); have hc12 : w1.cell? ⟨w.heap.size, 2, none⟩ = some (.string t) := (hb1.cell (p := ⟨w.heap.size, 2, none⟩) (by simp [*])).trans (by simp [go_sem, *]); have hB1 : Hid (Below w.heap.size w w1) := Below.step ((Below.refl _ _).alloc (Nat.le_refl _) _) hb1; clear hb1)
    | (go_at_call 34; refine ((HV.out) _).mono ?_; rintro e w2 ⟨rfl, hb2⟩; clear HV; have hs2 : w.heap.size < w2.heap.size := (by have := hb2.size; first | omega | (simp at this; omega)); have hc21 : w2.cell? ⟨w.heap.size, 1, none⟩ = some (.int .i64 n) := (hb2.cell (p := ⟨w.heap.size, 1, none⟩) (by simp [*])).trans (by simp [go_sem, *]); have hB2 : Hid (Below w.heap.size w _) := Below.step hB1.out hb2))
  all_goals
    go_ret
    refine ⟨ret_int (by rw [HR.out]; first | rfl | (split <;> first | rfl | (exfalso; simp_all; done) | (exfalso; simp_all; omega))), ?_⟩
    first
      | exact (Below.refl _ _).alloc (Nat.le_refl _) _
      | exact hB1.out
      | exact hB2.out
      | exact hB2.out.alloc hB2.out.size _

set_option maxRecDepth 100000 in
set_option maxHeartbeats 4000000 in
theorem rCheck_8 (op n : Int) (hk : opdI op = 8) (t : ByteArray) (b : Bool) (c m d : ByteArray) (hc : c.size ≤ maxLen) (hm : m.size ≤ maxLen) (hd : d.size ≤ maxLen) (w : World) : Calls Tryz.prog 19 #[.agg #[.int .i64 op, .int .i64 n, .string t, .bool b, .string c, .string m, .string d]] w fun e w' => e = .returned (.int .i64 (ickE op n t b c m d)) ∧ Below w.heap.size w w' := by
  have HO := rOperand_any op
  have HN : Hid (∀ w, _) := rNoRef_any b c m d
  have HV := rRefCheck_any b c m d hc hm hd
  unfold rckE at HV
  have HV : Hid (∀ w, _) := HV
  have HR : Hid (ickE op n t b c m d = if (n == 0) && t.toList.isEmpty && rckB c.data.toList m.data.toList d.data.toList then 0 else 1) := by rw [Hid, ickE, hk]; rfl
  rw [hk] at HO
  have HO : Hid (∀ w, _) := HO
  generalize ickE op n t b c m d = x at *
  generalize noRefB b c m d = z at *
  generalize rckB c.data.toList m.data.toList d.data.toList = y at *
  clear hc hm hd
  clear hk
  obtain ⟨nz, hnz⟩ : ∃ nz, (n == 0) = nz := ⟨_, rfl⟩
  have hnz2 : (n != 0) = !nz := by rw [bne, hnz]
  obtain ⟨te, hte⟩ : ∃ te, t.toList.isEmpty = te := ⟨_, rfl⟩
  rw [hnz, hte] at HR
  cases nz <;> cases te <;> cases y
  all_goals go_enter Tryz.func19, Tryz.ntmps19
  all_goals go_wp2_with (first
    | (go_at_call 17; refine ((HO.out) _).mono ?_; rintro e w0 ⟨rfl, hw0⟩; rw [hw0]; clear hw0 HO)
    | (go_at_call 23; refine ((HV.out) _).mono ?_; rintro e w2 ⟨rfl, hb2⟩; clear HV; have hs2 : w.heap.size < w2.heap.size := (by have := hb2.size; first | omega | (simp at this; omega)); have hB2 : Hid (Below w.heap.size w _) := Below.step ((Below.refl _ _).alloc (Nat.le_refl _) _) hb2))
  all_goals
    go_ret
    refine ⟨ret_int (by rw [HR.out]; rfl), ?_⟩
    first
      | exact (Below.refl _ _).alloc (Nat.le_refl _) _
      | exact hB2.out
      | exact hB2.out.alloc hB2.out.size _

theorem rCheck_any (op n : Int) (t : ByteArray) (b : Bool) (c m d : ByteArray) (ht : t.size ≤ maxLen) (hc : c.size ≤ maxLen) (hm : m.size ≤ maxLen) (hd : d.size ≤ maxLen) (w : World) : Calls Tryz.prog 19 #[.agg #[.int .i64 op, .int .i64 n, .string t, .bool b, .string c, .string m, .string d]] w fun e w' => e = .returned (.int .i64 (ickE op n t b c m d)) ∧ Below w.heap.size w w' := by
  rcases opd_cases op with h | h | h | h | h | h | h | h | h | h
  · exact rCheck_none op n h t b c m d w
  · exact rCheck_0 op n h t b c m d w
  · exact rCheck_1 op n h t b c m d w
  · exact rCheck_2 op n h t b c m d w
  · exact rCheck_3 op n h t b c m d w
  · exact rCheck_4 op n h t b c m d ht w
  · exact rCheck_5 op n h t b c m d ht w
  · exact rCheck_6 op n h t b c m d ht w
  · exact rCheck_7 op n h t b c m d ht w
  · exact rCheck_8 op n h t b c m d hc hm hd w

end Go.Proofs.YtijlipllahfakaaGreatDoor
