/- Walks of package code: RefCheck, RefText, fitsOperand: each returns what the plain functions say; what was there before stays. -/
import Derived.Test.YtfbhjfpkhofifaaGreatDoorOwnX
import Derived.Test.YtfbhjfpkhofifaaGreatDoorOwnRefs
import Derived.Test.YtfbhjfpkhofifaaGreatDoorDescA
namespace Go.Proofs.YtfbhjfpkhofifaaGreatDoor
open Go.RowKit

set_option maxRecDepth 100000 in
set_option maxHeartbeats 2000000 in
theorem refCheck_any (b : Bool) (c n d : ByteArray) (hc : c.size ≤ maxLen) (hn : n.size ≤ maxLen) (hd : d.size ≤ maxLen) (w : World) : Calls Tryz.prog 174 #[.agg #[.bool b, .string c, .string n, .string d]] w fun e w' => e = .returned (.int .i64 (rckE c.data.toList n.data.toList d.data.toList)) ∧ Below w.heap.size w w' := by
  have HP : Hid (∀ w, _) := parseRef_any c hc
  have HM : Hid (∀ w, _) := member_any n hn
  have HD : Hid (∀ w, _) := parseDesc_any d hd
  have HR : Hid (rckE c.data.toList n.data.toList d.data.toList = if ((prfE c.data.toList == 0) && memberL n.data.toList && (pdE d.data.toList == 0)) then 0 else 1) := rfl
  clear hc hn hd
  unfold DOut at HD
  generalize rckE c.data.toList n.data.toList d.data.toList = z at *
  generalize prfE c.data.toList = pc at *
  generalize prfT c.data.toList = pt at *
  generalize memberL n.data.toList = mm at *
  generalize pdE d.data.toList = pd at *
  generalize pdD d.data.toList = dd at *
  obtain ⟨qc, hqc⟩ : ∃ q, (pc == 0) = q := ⟨_, rfl⟩
  obtain ⟨qd, hqd⟩ : ∃ q, (pd == 0) = q := ⟨_, rfl⟩
  have hqc2 : (pc != 0) = !qc := by rw [bne, hqc]
  have hqd2 : (pd != 0) = !qd := by rw [bne, hqd]
  rw [hqc, hqd] at HR
  cases qc <;> cases mm <;> cases qd
  all_goals go_enter Tryz.func174, Tryz.ntmps174
  all_goals go_wp2_with (first
    | (go_at_call 172; refine ((HP.out) _).mono ?_; rintro e w1 ⟨rfl, hb1⟩; have hs1 : w.heap.size < w1.heap.size := (by have := hb1.size; simp at this; omega); have hB1 : Hid (Below w.heap.size w w1) := Below.step ((Below.refl _ _).alloc (Nat.le_refl _) _) hb1; have hc12 : w1.cell? ⟨w.heap.size, 2, none⟩ = some (.string n) := (hb1.cell (p := ⟨w.heap.size, 2, none⟩) (by first | (simp [*]; done) | (simp; omega))).trans (by simp [go_sem, *]); have hc13 : w1.cell? ⟨w.heap.size, 3, none⟩ = some (.string d) := (hb1.cell (p := ⟨w.heap.size, 3, none⟩) (by first | (simp [*]; done) | (simp; omega))).trans (by simp [go_sem, *]); clear hb1 HP)
    | (go_at_call 32; refine ((HD.out) _).mono ?_; rintro e w2 ⟨v, rfl, ho2, hb2⟩; obtain ⟨v1, v2, rfl⟩ := own_slice ho2; clear ho2 HD; have hs2 : w.heap.size < w2.heap.size := (by have := hb2.size; simp at this; omega); have hB2 : Hid (Below w.heap.size w w2) := Below.step (hB1.out.alloc hB1.out.size _) hb2; have hc22 : w2.cell? ⟨w.heap.size, 2, none⟩ = some (.string n) := (hb2.cell (p := ⟨w.heap.size, 2, none⟩) (by first | (simp [*]; done) | (simp; omega))).trans (by simp [go_sem, *]); clear hb2)
    | (go_at_call 103; refine ((HM.out) _).mono ?_; rintro e w3 ⟨rfl, hw3⟩; rw [hw3]; clear hw3 HM))
  all_goals
    go_ret
    exact ⟨ret_int (by rw [HR.out]; rfl), hB2.out.alloc hB2.out.size _⟩

set_option maxRecDepth 100000 in
set_option maxHeartbeats 1000000 in
theorem refText_any (b : Bool) (c n d : ByteArray) (hc : c.size ≤ maxLen) (hn : n.size ≤ maxLen) (hd : d.size ≤ maxLen) (w : World) : Calls Tryz.prog 151 #[.agg #[.bool b, .string c, .string n, .string d]] w fun e w' => e = .returned (.tuple #[.string ⟨(rtxL b c.data.toList n.data.toList d.data.toList).toArray⟩, .int .i64 (rckE c.data.toList n.data.toList d.data.toList)]) ∧ Below w.heap.size w w' := by
  have HC : Hid (∀ w, _) := refCheck_any b c n d hc hn hd
  clear hc hn hd
  cases h : rckB c.data.toList n.data.toList d.data.toList with
  | true =>
    obtain ⟨h1, h2, h3⟩ := rck_len h
    have h1 : c.size ≤ 2000 := by simpa using h1
    have h2 : n.size ≤ 60 := by simpa using h2
    have h3 : d.size ≤ 2000 := by simpa using h3
    have HE : Hid (rckE c.data.toList n.data.toList d.data.toList = 0) := by rw [Hid, rckE, h]; rfl
    have HT : Hid (∀ x, rtxL x c.data.toList n.data.toList d.data.toList = c.data.toList ++ (if x then 58 else 46) :: (n.data.toList ++ d.data.toList)) := by intro x; rw [rtxL, h]; rfl
    clear h
    rw [HE.out] at HC ⊢
    cases b
    all_goals
      go_enter Tryz.func151, Tryz.ntmps151
      go_wp2_with (go_at_call 174; refine ((HC.out) _).mono ?_; rintro e w1 ⟨rfl, hb1⟩; have hc0 := (hb1.cell (p := ⟨w.heap.size, 0, none⟩) (by simp)).trans (by simp [go_sem, *]; rfl); have hc11 : w1.cell? ⟨w.heap.size, 1, none⟩ = some (.string c) := (hb1.cell (p := ⟨w.heap.size, 1, none⟩) (by first | (simp [*]; done) | (simp; omega))).trans (by simp [go_sem, *]); have hc12 : w1.cell? ⟨w.heap.size, 2, none⟩ = some (.string n) := (hb1.cell (p := ⟨w.heap.size, 2, none⟩) (by first | (simp [*]; done) | (simp; omega))).trans (by simp [go_sem, *]); have hc13 : w1.cell? ⟨w.heap.size, 3, none⟩ = some (.string d) := (hb1.cell (p := ⟨w.heap.size, 3, none⟩) (by first | (simp [*]; done) | (simp; omega))).trans (by simp [go_sem, *]))
    · refine bodyPost_ret (v := .tuple #[.string (c ++ ⟨#[46]⟩ ++ n ++ d), .int .i64 0]) (by simp [results, Tryz.results151, go_sem, *]) rfl ⟨?_, Below.step ((Below.refl _ _).alloc (Nat.le_refl _) _) hb1⟩
      rw [HT.out]
      congr 5
      apply bytes_ext
      simp [ByteArray.data_append]
    · refine bodyPost_ret (v := .tuple #[.string (c ++ ⟨#[58]⟩ ++ n ++ d), .int .i64 0]) (by simp [results, Tryz.results151, go_sem, *]) rfl ⟨?_, Below.step ((Below.refl _ _).alloc (Nat.le_refl _) _) hb1⟩
      rw [HT.out]
      congr 5
      apply bytes_ext
      simp [ByteArray.data_append]
  | false =>
    have HE : Hid (rckE c.data.toList n.data.toList d.data.toList = 1) := by rw [Hid, rckE, h]; rfl
    have HT : Hid (rtxL b c.data.toList n.data.toList d.data.toList = []) := by rw [Hid, rtxL, h]; rfl
    rw [HE.out] at HC ⊢
    rw [HT.out]
    clear h HT HE
    go_enter Tryz.func151, Tryz.ntmps151
    go_wp2_with (go_at_call 174; refine ((HC.out) _).mono ?_; rintro e w1 ⟨rfl, hb1⟩)
    exact bodyPost_ret (v := .tuple #[.string ⟨#[]⟩, .int .i64 1]) (by simp [results, Tryz.results151, go_sem, *]) rfl ⟨rfl, Below.step ((Below.refl _ _).alloc (Nat.le_refl _) _) hb1⟩

/-- are the instruction's own parts such as its operand asks for? k: the kind of its operand -/
def fitB (k n : Int) (t : List UInt8) (r : Bool) : Bool :=
  if k = 0 then true
  else if k = 1 then inB n (-2147483648) 2147483647
  else if k = 2 then inB n 0 39
  else if k = 3 then inB n 0 199
  else if k = 4 then validL t
  else if k = 5 then prfE t == 0
  else if k = 6 then (parE t == 0) && decide ((parT t).1 < 255)
  else if k = 7 then (prfE t == 0) && inB n 1 (prfT t).1
  else if k = 8 then r
  else false


set_option maxRecDepth 100000 in
set_option maxHeartbeats 4000000 in
theorem fitsOperand_none (op n : Int) (hk : opdI op = -1) (t : ByteArray) (b : Bool) (c m d : ByteArray) (w : World) : Calls Tryz.prog 149 #[.agg #[.int .i64 op, .int .i64 n, .string t, .bool b, .string c, .string m, .string d]] w fun e w' => e = .returned (.bool (fitB (opdI op) n t.data.toList (rckB c.data.toList m.data.toList d.data.toList))) ∧ Below w.heap.size w w' := by
  have HO := operand_any op
  rw [hk] at HO
  have HO : Hid (∀ w, _) := HO
  have HR : Hid (fitB (opdI op) n t.data.toList (rckB c.data.toList m.data.toList d.data.toList) = false) := by rw [Hid, hk]; rfl
  generalize fitB (opdI op) n t.data.toList (rckB c.data.toList m.data.toList d.data.toList) = r at *
  clear hk
  all_goals go_enter Tryz.func149, Tryz.ntmps149
  all_goals go_wp2_with (first
    | (go_at_call 115; refine ((HO.out) _).mono ?_; rintro e w0 ⟨rfl, hw0⟩; rw [hw0]; clear hw0 HO))
  all_goals
    go_ret
    exact ⟨ret_bool (by rw [HR.out]), (Below.refl _ _).alloc (Nat.le_refl _) _⟩

set_option maxRecDepth 100000 in
set_option maxHeartbeats 4000000 in
theorem fitsOperand_0 (op n : Int) (hk : opdI op = 0) (t : ByteArray) (b : Bool) (c m d : ByteArray) (w : World) : Calls Tryz.prog 149 #[.agg #[.int .i64 op, .int .i64 n, .string t, .bool b, .string c, .string m, .string d]] w fun e w' => e = .returned (.bool (fitB (opdI op) n t.data.toList (rckB c.data.toList m.data.toList d.data.toList))) ∧ Below w.heap.size w w' := by
  have HO := operand_any op
  rw [hk] at HO
  have HO : Hid (∀ w, _) := HO
  have HR : Hid (fitB (opdI op) n t.data.toList (rckB c.data.toList m.data.toList d.data.toList) = true) := by rw [Hid, hk]; rfl
  generalize fitB (opdI op) n t.data.toList (rckB c.data.toList m.data.toList d.data.toList) = r at *
  clear hk
  all_goals go_enter Tryz.func149, Tryz.ntmps149
  all_goals go_wp2_with (first
    | (go_at_call 115; refine ((HO.out) _).mono ?_; rintro e w0 ⟨rfl, hw0⟩; rw [hw0]; clear hw0 HO))
  all_goals
    go_ret
    exact ⟨ret_bool (by rw [HR.out]), (Below.refl _ _).alloc (Nat.le_refl _) _⟩

set_option maxRecDepth 100000 in
set_option maxHeartbeats 4000000 in
theorem fitsOperand_1 (op n : Int) (hk : opdI op = 1) (t : ByteArray) (b : Bool) (c m d : ByteArray) (w : World) : Calls Tryz.prog 149 #[.agg #[.int .i64 op, .int .i64 n, .string t, .bool b, .string c, .string m, .string d]] w fun e w' => e = .returned (.bool (fitB (opdI op) n t.data.toList (rckB c.data.toList m.data.toList d.data.toList))) ∧ Below w.heap.size w w' := by
  have HO := operand_any op
  rw [hk] at HO
  have HO : Hid (∀ w, _) := HO
  have HI : Hid (∀ l h w, _) := isWithin_any n
  have HR : Hid (fitB (opdI op) n t.data.toList (rckB c.data.toList m.data.toList d.data.toList) = inB n (-2147483648) 2147483647) := by rw [Hid, hk]; rfl
  generalize fitB (opdI op) n t.data.toList (rckB c.data.toList m.data.toList d.data.toList) = r at *
  clear hk
  all_goals go_enter Tryz.func149, Tryz.ntmps149
  all_goals go_wp2_with (first
    | (go_at_call 115; refine ((HO.out) _).mono ?_; rintro e w0 ⟨rfl, hw0⟩; rw [hw0]; clear hw0 HO)
    | (go_at_call 171; refine ((HI.out) _ _ _).mono ?_; rintro e w1 ⟨rfl, hw1⟩; rw [hw1]; clear hw1))
  all_goals
    go_ret
    exact ⟨ret_bool (by rw [HR.out]), (Below.refl _ _).alloc (Nat.le_refl _) _⟩

set_option maxRecDepth 100000 in
set_option maxHeartbeats 4000000 in
theorem fitsOperand_2 (op n : Int) (hk : opdI op = 2) (t : ByteArray) (b : Bool) (c m d : ByteArray) (w : World) : Calls Tryz.prog 149 #[.agg #[.int .i64 op, .int .i64 n, .string t, .bool b, .string c, .string m, .string d]] w fun e w' => e = .returned (.bool (fitB (opdI op) n t.data.toList (rckB c.data.toList m.data.toList d.data.toList))) ∧ Below w.heap.size w w' := by
  have HO := operand_any op
  rw [hk] at HO
  have HO : Hid (∀ w, _) := HO
  have HI : Hid (∀ l h w, _) := isWithin_any n
  have HR : Hid (fitB (opdI op) n t.data.toList (rckB c.data.toList m.data.toList d.data.toList) = inB n 0 39) := by rw [Hid, hk]; rfl
  generalize fitB (opdI op) n t.data.toList (rckB c.data.toList m.data.toList d.data.toList) = r at *
  clear hk
  all_goals go_enter Tryz.func149, Tryz.ntmps149
  all_goals go_wp2_with (first
    | (go_at_call 115; refine ((HO.out) _).mono ?_; rintro e w0 ⟨rfl, hw0⟩; rw [hw0]; clear hw0 HO)
    | (go_at_call 171; refine ((HI.out) _ _ _).mono ?_; rintro e w1 ⟨rfl, hw1⟩; rw [hw1]; clear hw1))
  all_goals
    go_ret
    exact ⟨ret_bool (by rw [HR.out]), (Below.refl _ _).alloc (Nat.le_refl _) _⟩

set_option maxRecDepth 100000 in
set_option maxHeartbeats 4000000 in
theorem fitsOperand_3 (op n : Int) (hk : opdI op = 3) (t : ByteArray) (b : Bool) (c m d : ByteArray) (w : World) : Calls Tryz.prog 149 #[.agg #[.int .i64 op, .int .i64 n, .string t, .bool b, .string c, .string m, .string d]] w fun e w' => e = .returned (.bool (fitB (opdI op) n t.data.toList (rckB c.data.toList m.data.toList d.data.toList))) ∧ Below w.heap.size w w' := by
  have HO := operand_any op
  rw [hk] at HO
  have HO : Hid (∀ w, _) := HO
  have HI : Hid (∀ l h w, _) := isWithin_any n
  have HR : Hid (fitB (opdI op) n t.data.toList (rckB c.data.toList m.data.toList d.data.toList) = inB n 0 199) := by rw [Hid, hk]; rfl
  generalize fitB (opdI op) n t.data.toList (rckB c.data.toList m.data.toList d.data.toList) = r at *
  clear hk
  all_goals go_enter Tryz.func149, Tryz.ntmps149
  all_goals go_wp2_with (first
    | (go_at_call 115; refine ((HO.out) _).mono ?_; rintro e w0 ⟨rfl, hw0⟩; rw [hw0]; clear hw0 HO)
    | (go_at_call 171; refine ((HI.out) _ _ _).mono ?_; rintro e w1 ⟨rfl, hw1⟩; rw [hw1]; clear hw1))
  all_goals
    go_ret
    exact ⟨ret_bool (by rw [HR.out]), (Below.refl _ _).alloc (Nat.le_refl _) _⟩

set_option maxRecDepth 100000 in
set_option maxHeartbeats 4000000 in
theorem fitsOperand_4 (op n : Int) (hk : opdI op = 4) (t : ByteArray) (b : Bool) (c m d : ByteArray) (ht : t.size ≤ maxLen) (w : World) : Calls Tryz.prog 149 #[.agg #[.int .i64 op, .int .i64 n, .string t, .bool b, .string c, .string m, .string d]] w fun e w' => e = .returned (.bool (fitB (opdI op) n t.data.toList (rckB c.data.toList m.data.toList d.data.toList))) ∧ Below w.heap.size w w' := by
  have HO := operand_any op
  rw [hk] at HO
  have HO : Hid (∀ w, _) := HO
  have HV : Hid (∀ w, _) := valid_any t ht
  have HR : Hid (fitB (opdI op) n t.data.toList (rckB c.data.toList m.data.toList d.data.toList) = validL t.data.toList) := by rw [Hid, hk]; rfl
  generalize fitB (opdI op) n t.data.toList (rckB c.data.toList m.data.toList d.data.toList) = r at *
  clear hk
  all_goals go_enter Tryz.func149, Tryz.ntmps149
  all_goals go_wp2_with (first
    | (go_at_call 115; refine ((HO.out) _).mono ?_; rintro e w0 ⟨rfl, hw0⟩; rw [hw0]; clear hw0 HO)
    | (go_at_call 53; refine ((HV.out) _).mono ?_; rintro e w1 ⟨rfl, hb1⟩))
  all_goals
    go_ret
    exact ⟨ret_bool (by rw [HR.out]), Below.step ((Below.refl _ _).alloc (Nat.le_refl _) _) hb1⟩

set_option maxRecDepth 100000 in
set_option maxHeartbeats 4000000 in
theorem fitsOperand_5 (op n : Int) (hk : opdI op = 5) (t : ByteArray) (b : Bool) (c m d : ByteArray) (ht : t.size ≤ maxLen) (w : World) : Calls Tryz.prog 149 #[.agg #[.int .i64 op, .int .i64 n, .string t, .bool b, .string c, .string m, .string d]] w fun e w' => e = .returned (.bool (fitB (opdI op) n t.data.toList (rckB c.data.toList m.data.toList d.data.toList))) ∧ Below w.heap.size w w' := by
  have HO := operand_any op
  rw [hk] at HO
  have HO : Hid (∀ w, _) := HO
  have HV : Hid (∀ w, _) := parseRef_any t ht
  have HR : Hid (fitB (opdI op) n t.data.toList (rckB c.data.toList m.data.toList d.data.toList) = (prfE t.data.toList == 0)) := by rw [Hid, hk]; rfl
  generalize fitB (opdI op) n t.data.toList (rckB c.data.toList m.data.toList d.data.toList) = r at *
  clear hk
  generalize prfE t.data.toList = pe at *
  generalize prfT t.data.toList = pt at *
  all_goals go_enter Tryz.func149, Tryz.ntmps149
  all_goals go_wp2_with (first
    | (go_at_call 115; refine ((HO.out) _).mono ?_; rintro e w0 ⟨rfl, hw0⟩; rw [hw0]; clear hw0 HO)
    | (go_at_call 172; refine ((HV.out) _).mono ?_; rintro e w1 ⟨rfl, hb1⟩; have hB1 : Hid (Below w.heap.size w w1) := Below.step ((Below.refl _ _).alloc (Nat.le_refl _) _) hb1; clear hb1))
  all_goals
    go_ret
    exact ⟨ret_bool (by rw [HR.out]), hB1.out.alloc hB1.out.size _⟩

set_option maxRecDepth 100000 in
set_option maxHeartbeats 4000000 in
theorem fitsOperand_6 (op n : Int) (hk : opdI op = 6) (t : ByteArray) (b : Bool) (c m d : ByteArray) (ht : t.size ≤ maxLen) (w : World) : Calls Tryz.prog 149 #[.agg #[.int .i64 op, .int .i64 n, .string t, .bool b, .string c, .string m, .string d]] w fun e w' => e = .returned (.bool (fitB (opdI op) n t.data.toList (rckB c.data.toList m.data.toList d.data.toList))) ∧ Below w.heap.size w w' := by
  have HO := operand_any op
  rw [hk] at HO
  have HO : Hid (∀ w, _) := HO
  have HV : Hid (∀ w, _) := parse_any t ht
  have HR : Hid (fitB (opdI op) n t.data.toList (rckB c.data.toList m.data.toList d.data.toList) = ((parE t.data.toList == 0) && decide ((parT t.data.toList).1 < 255))) := by rw [Hid, hk]; rfl
  generalize fitB (opdI op) n t.data.toList (rckB c.data.toList m.data.toList d.data.toList) = r at *
  clear hk
  generalize parE t.data.toList = pe at *
  generalize parT t.data.toList = pt at *
  obtain ⟨q, hq⟩ : ∃ q, (pe == 0) = q := ⟨_, rfl⟩
  rw [hq] at HR
  cases q
  all_goals go_enter Tryz.func149, Tryz.ntmps149
  all_goals go_wp2_with (first
    | (go_at_call 115; refine ((HO.out) _).mono ?_; rintro e w0 ⟨rfl, hw0⟩; rw [hw0]; clear hw0 HO)
    | (go_at_call 173; refine ((HV.out) _).mono ?_; rintro e w1 ⟨rfl, hb1⟩; have hB1 : Hid (Below w.heap.size w w1) := Below.step ((Below.refl _ _).alloc (Nat.le_refl _) _) hb1; clear hb1))
  all_goals
    go_ret
    exact ⟨ret_bool (by rw [HR.out]; first | (simp; done) | (simp; omega)), hB1.out.alloc hB1.out.size _⟩

set_option maxRecDepth 100000 in
set_option maxHeartbeats 4000000 in
theorem fitsOperand_7 (op n : Int) (hk : opdI op = 7) (t : ByteArray) (b : Bool) (c m d : ByteArray) (ht : t.size ≤ maxLen) (w : World) : Calls Tryz.prog 149 #[.agg #[.int .i64 op, .int .i64 n, .string t, .bool b, .string c, .string m, .string d]] w fun e w' => e = .returned (.bool (fitB (opdI op) n t.data.toList (rckB c.data.toList m.data.toList d.data.toList))) ∧ Below w.heap.size w w' := by
  have HO := operand_any op
  rw [hk] at HO
  have HO : Hid (∀ w, _) := HO
  have HV : Hid (∀ w, _) := parseRef_any t ht
  have HI : Hid (∀ l h w, _) := isWithin_any n
  have HR : Hid (fitB (opdI op) n t.data.toList (rckB c.data.toList m.data.toList d.data.toList) = ((prfE t.data.toList == 0) && inB n 1 (prfT t.data.toList).1)) := by rw [Hid, hk]; rfl
  generalize fitB (opdI op) n t.data.toList (rckB c.data.toList m.data.toList d.data.toList) = r at *
  clear hk
  generalize prfE t.data.toList = pe at *
  generalize prfT t.data.toList = pt at *
  obtain ⟨q, hq⟩ : ∃ q, (pe == 0) = q := ⟨_, rfl⟩
  rw [hq] at HR
  cases q
  all_goals go_enter Tryz.func149, Tryz.ntmps149
  all_goals go_wp2_with (first
    | (go_at_call 115; refine ((HO.out) _).mono ?_; rintro e w0 ⟨rfl, hw0⟩; rw [hw0]; clear hw0 HO)
    | (go_at_call 172; refine ((HV.out) _).mono ?_; rintro e w1 ⟨rfl, hb1⟩; have hs1 : w.heap.size < w1.heap.size := (by have := hb1.size; simp at this; omega); have hB1 : Hid (Below w.heap.size w w1) := Below.step ((Below.refl _ _).alloc (Nat.le_refl _) _) hb1; have hc11 : w1.cell? ⟨w.heap.size, 1, none⟩ = some (.int .i64 n) := (hb1.cell (p := ⟨w.heap.size, 1, none⟩) (by first | (simp [*]; done) | (simp; omega))).trans (by simp [go_sem, *]); clear hb1)
    | (go_at_call 171; refine ((HI.out) _ _ _).mono ?_; rintro e w2 ⟨rfl, hw2⟩; rw [hw2]; clear hw2))
  all_goals
    go_ret
    exact ⟨ret_bool (by rw [HR.out]; first | (simp; done) | (simp; omega)), hB1.out.alloc hB1.out.size _⟩

set_option maxRecDepth 100000 in
set_option maxHeartbeats 4000000 in
theorem fitsOperand_8 (op n : Int) (hk : opdI op = 8) (t : ByteArray) (b : Bool) (c m d : ByteArray) (hc : c.size ≤ maxLen) (hm : m.size ≤ maxLen) (hd : d.size ≤ maxLen) (w : World) : Calls Tryz.prog 149 #[.agg #[.int .i64 op, .int .i64 n, .string t, .bool b, .string c, .string m, .string d]] w fun e w' => e = .returned (.bool (fitB (opdI op) n t.data.toList (rckB c.data.toList m.data.toList d.data.toList))) ∧ Below w.heap.size w w' := by
  have HO := operand_any op
  rw [hk] at HO
  have HO : Hid (∀ w, _) := HO
  have HV : Hid (∀ w, _) := refCheck_any b c m d hc hm hd
  have HE : Hid (rckE c.data.toList m.data.toList d.data.toList = if rckB c.data.toList m.data.toList d.data.toList then 0 else 1) := rfl
  have HR : Hid (fitB (opdI op) n t.data.toList (rckB c.data.toList m.data.toList d.data.toList) = rckB c.data.toList m.data.toList d.data.toList) := by rw [Hid, hk]; rfl
  generalize fitB (opdI op) n t.data.toList (rckB c.data.toList m.data.toList d.data.toList) = r at *
  clear hk
  generalize rckE c.data.toList m.data.toList d.data.toList = re at *
  generalize rckB c.data.toList m.data.toList d.data.toList = rb at *
  cases rb
  all_goals (have he := HE.out; simp only [if_true, Bool.false_eq_true, if_false] at he; subst he)
  all_goals go_enter Tryz.func149, Tryz.ntmps149
  all_goals go_wp2_with (first
    | (go_at_call 115; refine ((HO.out) _).mono ?_; rintro e w0 ⟨rfl, hw0⟩; rw [hw0]; clear hw0 HO)
    | (go_at_call 174; refine ((HV.out) _).mono ?_; rintro e w1 ⟨rfl, hb1⟩; have hB1 : Hid (Below w.heap.size w w1) := Below.step ((Below.refl _ _).alloc (Nat.le_refl _) _) hb1; clear hb1))
  all_goals
    go_ret
    exact ⟨ret_bool (by rw [HR.out]), hB1.out⟩

theorem fitsOperand_any (op n : Int) (t : ByteArray) (b : Bool) (c m d : ByteArray) (ht : t.size ≤ maxLen) (hc : c.size ≤ maxLen) (hm : m.size ≤ maxLen) (hd : d.size ≤ maxLen) (w : World) : Calls Tryz.prog 149 #[.agg #[.int .i64 op, .int .i64 n, .string t, .bool b, .string c, .string m, .string d]] w fun e w' => e = .returned (.bool (fitB (opdI op) n t.data.toList (rckB c.data.toList m.data.toList d.data.toList))) ∧ Below w.heap.size w w' := by
  rcases opd_cases op with e | e | e | e | e | e | e | e | e | e
  · exact fitsOperand_none op n e t b c m d w
  · exact fitsOperand_0 op n e t b c m d w
  · exact fitsOperand_1 op n e t b c m d w
  · exact fitsOperand_2 op n e t b c m d w
  · exact fitsOperand_3 op n e t b c m d w
  · exact fitsOperand_4 op n e t b c m d ht w
  · exact fitsOperand_5 op n e t b c m d ht w
  · exact fitsOperand_6 op n e t b c m d ht w
  · exact fitsOperand_7 op n e t b c m d ht w
  · exact fitsOperand_8 op n e t b c m d hc hm hd w
theorem ownParts_any (op n : Int) (t : ByteArray) (b : Bool) (c m d : ByteArray) (w : World) : Calls Tryz.prog 148 #[.agg #[.int .i64 op, .int .i64 n, .string t, .bool b, .string c, .string m, .string d]] w fun e w' => e = .returned (insV (ownI ⟨op, n, t, b, c, m, d⟩)) ∧ Below w.heap.size w w' := by
  rcases opd_cases op with e | e | e | e | e | e | e | e | e | e
  · exact ownParts_none op n e t b c m d w
  · exact ownParts_0 op n e t b c m d w
  · exact ownParts_1 op n e t b c m d w
  · exact ownParts_2 op n e t b c m d w
  · exact ownParts_3 op n e t b c m d w
  · exact ownParts_4 op n e t b c m d w
  · exact ownParts_5 op n e t b c m d w
  · exact ownParts_6 op n e t b c m d w
  · exact ownParts_7 op n e t b c m d w
  · exact ownParts_8 op n e t b c m d w
theorem fitsMethod_any (op n locals size : Int) (t : ByteArray) (b : Bool) (c m d : ByteArray) (w : World) : Calls Tryz.prog 164 #[.agg #[.int .i64 op, .int .i64 n, .string t, .bool b, .string c, .string m, .string d], .int .i64 locals, .int .i64 size] w fun e w' => e = .returned (.bool (fmB (opdI op) n locals size)) ∧ Below w.heap.size w w' := by
  rcases opd_cases op with e | e | e | e | e | e | e | e | e | e
  · exact fitsMethod_none op n locals size e t b c m d w
  · exact fitsMethod_0 op n locals size e t b c m d w
  · exact fitsMethod_1 op n locals size e t b c m d w
  · exact fitsMethod_2 op n locals size e t b c m d w
  · exact fitsMethod_3 op n locals size e t b c m d w
  · exact fitsMethod_4 op n locals size e t b c m d w
  · exact fitsMethod_5 op n locals size e t b c m d w
  · exact fitsMethod_6 op n locals size e t b c m d w
  · exact fitsMethod_7 op n locals size e t b c m d w
  · exact fitsMethod_8 op n locals size e t b c m d w
end Go.Proofs.YtfbhjfpkhofifaaGreatDoor
