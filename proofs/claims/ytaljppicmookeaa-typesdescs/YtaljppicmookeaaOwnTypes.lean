/- Walks of package types' Check, write, Text, ArrayOf, Component and Element: each returns what the plain functions say; what was there before stays. -/
import Derived.Test.YtaljppicmookeaaCurC
import Derived.Test.YtaljppicmookeaaTypesRef2
import Derived.Test.YtaljppicmookeaaShelfR
namespace Go.Proofs.Ytaljppicmookeaa
open Go.RowKit

theorem repeat_rep (c : UInt8) (k : Nat) : Lib.repeatL [c] k = List.replicate k c := by
  induction k with
  | zero => rfl
  | succ k ih => rw [Lib.repeatL, ih, List.replicate_succ]; rfl

set_option maxHeartbeats 400000 in
theorem check_any (d : Int) (s : ByteArray) (hs : s.size ≤ maxLen) (w : World) :
    Calls Try.prog 21 #[.agg #[.int .i64 d, .string s]] w fun e w' => e = .returned (.int .i64 (chkI (sndB d s.data.toList))) ∧ Below w.heap.size w w' := by
  have HV : Hid (∀ w, _) := valid_any s hs
  have HD : Hid (∀ w, _) := isDeep_any d s
  have HB : Hid (sndB d s.data.toList = (decide (0 ≤ d) && decide (d ≤ 255) && (s.toList.isEmpty || validL s.data.toList))) := by rw [Hid, Lib.toList_data]; rfl
  generalize validL s.data.toList = b at *
  generalize sndB d s.data.toList = r at *
  by_cases h1 : 0 ≤ d
  · have h1' : ¬ d < 0 := by omega
    by_cases h2 : d ≤ 255
    · have h3 : decide (255 < d) = false := by simp; omega
      rw [h3] at HD
      clear h3
      cases he : s.toList.isEmpty with
      | true =>
        have HR : Hid (r = true) := by rw [Hid, HB.out, he]; simp [h1, h2]
        go_enter Try.func21, Try.ntmps21
        go_wp2_with (go_at_call 37; refine ((HD.out) _).mono ?_; rintro e w0 ⟨rfl, hb0⟩; have hc0 := hb0.cell (p := ⟨w.heap.size, 0, none⟩) (by simp); have hc1 := hb0.cell (p := ⟨w.heap.size, 1, none⟩) (by simp))
        go_ret
        exact ⟨ret_int (by rw [HR.out]; rfl), Below.step ((Below.refl _ _).alloc (Nat.le_refl _) _) (by assumption)⟩
      | false =>
        have HR : Hid (r = b) := by rw [Hid, HB.out, he]; simp [h1, h2]
        cases b
        all_goals
          go_enter Try.func21, Try.ntmps21
          go_wp2_with (first
            | (go_at_call 37; refine ((HD.out) _).mono ?_; rintro e w0 ⟨rfl, hb0⟩; have hc0 := hb0.cell (p := ⟨w.heap.size, 0, none⟩) (by simp); have hc1 := hb0.cell (p := ⟨w.heap.size, 1, none⟩) (by simp))
            | (go_at_call 40; refine ((HV.out) _).mono ?_; rintro e w1 ⟨rfl, hb1⟩))
          go_ret
          exact ⟨ret_int (by rw [HR.out]; rfl), Below.step (Below.step ((Below.refl _ _).alloc (Nat.le_refl _) _) hb0) hb1⟩
    · have HR : Hid (r = false) := by rw [Hid, HB.out]; simp [h2]
      have h3 : decide (255 < d) = true := by simp; omega
      rw [h3] at HD
      clear h3
      go_enter Try.func21, Try.ntmps21
      go_wp2_with (go_at_call 37; refine ((HD.out) _).mono ?_; rintro e w0 ⟨rfl, hb0⟩; have hc0 := hb0.cell (p := ⟨w.heap.size, 0, none⟩) (by simp); have hc1 := hb0.cell (p := ⟨w.heap.size, 1, none⟩) (by simp))
      go_ret
      exact ⟨ret_int (by rw [HR.out]; rfl), Below.step ((Below.refl _ _).alloc (Nat.le_refl _) _) (by assumption)⟩
  · have HR : Hid (r = false) := by rw [Hid, HB.out]; simp [h1]
    have h1' : d < 0 := by omega
    go_enter Try.func21, Try.ntmps21
    go_wp2
    go_ret
    exact ⟨ret_int (by rw [HR.out]; rfl), (Below.refl _ _).alloc (Nat.le_refl _) _⟩

set_option maxHeartbeats 1000000 in
theorem write_any (k : Nat) (hk : k ≤ 255) (s : ByteArray) (hs : s.size ≤ 1000000) (w : World) :
    Calls Try.prog 44 #[.agg #[.int .i64 k, .string s]] w fun e w' => e = .returned (.string ⟨(writeT (k, s.data.toList)).toArray⟩) ∧ Below w.heap.size w w' := by
  have HW : Hid (writeT (k, s.data.toList) = List.replicate k 91 ++ (if s.toList.isEmpty then [73] else 76 :: (s.data.toList ++ [59]))) := by
    rw [Hid, writeT, Lib.toList_data]
    cases s.data.toList <;> simp
  have HR : Hid (∀ w, Calls Try.prog 57 #[.string ⟨#[91]⟩, .int .i64 k] w fun e w' => e = .returned (.string ⟨(List.replicate k (91 : UInt8)).toArray⟩) ∧ Below w.heap.size w w') := fun w =>
    (Try.strings_Repeat ⟨#[91]⟩ k w (by omega) (by show 1 * k ≤ _; omega)).mono fun e w' ⟨he, hb⟩ => ⟨by rw [he, ← repeat_rep], hb⟩
  have hm : (⟨(List.replicate k (91 : UInt8)).toArray⟩ : ByteArray).size = k := by rw [mk_size]; simp
  generalize hrep : (List.replicate k (91 : UInt8)).toArray = ra at *
  have HREP : Hid _ := hrep
  clear hrep
  cases he : s.toList.isEmpty with
  | true =>
    go_enter Try.func44, Try.ntmps44
    go_wp2_with (go_at_call 57; refine ((HR.out) _).mono ?_; rintro e w0 ⟨rfl, hb0⟩; have hc0 := hb0.cell (p := ⟨w.heap.size, 0, none⟩) (by simp); have hc1 := hb0.cell (p := ⟨w.heap.size, 1, none⟩) (by simp))
    go_ret
    refine ⟨ret_str ?_, Below.step ((Below.refl _ _).alloc (Nat.le_refl _) _) (by assumption)⟩
    rw [HW.out, he]
    apply bytes_ext
    simp [ByteArray.data_append, ← HREP.out]
  | false =>
    go_enter Try.func44, Try.ntmps44
    go_wp2_with (go_at_call 57; refine ((HR.out) _).mono ?_; rintro e w0 ⟨rfl, hb0⟩; have hc0 := hb0.cell (p := ⟨w.heap.size, 0, none⟩) (by simp); have hc1 := hb0.cell (p := ⟨w.heap.size, 1, none⟩) (by simp))
    go_ret
    refine ⟨ret_str ?_, Below.step ((Below.refl _ _).alloc (Nat.le_refl _) _) (by assumption)⟩
    rw [HW.out, he]
    apply bytes_ext
    simp [ByteArray.data_append, ← HREP.out]

theorem text_any (d : Int) (s : ByteArray) (hs : s.size ≤ maxLen) (w : World) :
    Calls Try.prog 19 #[.agg #[.int .i64 d, .string s]] w fun e w' => e = .returned (.tuple #[.string ⟨(textS d s.data.toList).toArray⟩, .int .i64 (chkI (sndB d s.data.toList))]) ∧ Below w.heap.size w w' := by
  have HC : Hid (∀ w, _) := check_any d s hs
  cases hv : sndB d s.data.toList with
  | false =>
    rw [hv] at HC
    have HT : Hid (textS d s.data.toList = []) := by rw [Hid, textS, hv]; rfl
    have h1 : chkI false = 1 := rfl
    rw [h1] at HC ⊢
    clear hv h1
    go_enter Try.func19, Try.ntmps19
    go_wp2_with (go_at_call 21; refine ((HC.out) _).mono ?_; rintro e w1 ⟨rfl, hb1⟩)
    go_ret2
    exact ⟨by rw [HT.out]; rfl, Below.step ((Below.refl _ _).alloc (Nat.le_refl _) _) (by assumption)⟩
  | true =>
    obtain ⟨k, rfl, hk⟩ := snd_nat hv
    have hl := snd_len hv
    have hz : s.data.toList.length = s.size := by simp
    have HT : Hid (textS k s.data.toList = writeT (k, s.data.toList)) := by rw [Hid, textS, hv]; simp
    have HW : Hid (∀ w, _) := write_any k hk s (by omega)
    rw [hv] at HC
    have h1 : chkI true = 0 := rfl
    rw [h1] at HC ⊢
    clear hv h1 hl hz
    go_enter Try.func19, Try.ntmps19
    go_wp2_with (first
      | (go_at_call 21; refine ((HC.out) _).mono ?_; rintro e w1 ⟨rfl, hb1⟩; have hc0 := hb1.cell (p := ⟨w.heap.size, 0, none⟩) (by simp); have hc1 := hb1.cell (p := ⟨w.heap.size, 1, none⟩) (by simp))
      | (go_at_call 44; refine ((HW.out) _).mono ?_; rintro e w2 ⟨rfl, hb2⟩))
    go_ret2
    have hb9 : Below w.heap.size w w1 := Below.step ((Below.refl _ _).alloc (Nat.le_refl _) _) hb1
    exact ⟨by rw [HT.out]; rfl, Below.step hb9 (by assumption)⟩

theorem element_any (d : Int) (s : ByteArray) (hs : s.size ≤ maxLen) (w : World) :
    Calls Try.prog 29 #[.agg #[.int .i64 d, .string s]] w fun e w' => e = .returned (.tuple #[.agg #[.int .i64 (outD (chkE d s.data.toList) 0), .string (outS (chkE d s.data.toList) s)], .int .i64 (chkE d s.data.toList)]) ∧ Below w.heap.size w w' := by
  have HC : Hid (∀ w, _) := check_any d s hs
  have HQ : Hid (chkE d s.data.toList = chkI (sndB d s.data.toList)) := rfl
  generalize chkE d s.data.toList = x at *
  cases hv : sndB d s.data.toList with
  | false =>
    rw [hv] at HC HQ
    have h1 : chkI false = 1 := rfl
    rw [h1] at HC HQ
    have HR : Hid (x = 1) := HQ
    clear hv h1 HQ
    go_enter Try.func29, Try.ntmps29
    go_wp2_with (first
      | (go_at_call 21; refine ((HC.out) _).mono ?_; rintro e w1 ⟨rfl, hb1⟩; have hc0 := hb1.cell (p := ⟨w.heap.size, 0, none⟩) (by first | (simp; done) | (simp; omega)); have hc1 := hb1.cell (p := ⟨w.heap.size, 1, none⟩) (by first | (simp; done) | (simp; omega)); have hr0 := hb1.cell (p := ⟨w.heap.size + 1, 0, none⟩) (by first | (simp; done) | (simp; omega)); have hr1 := hb1.cell (p := ⟨w.heap.size + 1, 1, none⟩) (by first | (simp; done) | (simp; omega)); have hf0 := hb1.frozen (p := ⟨w.heap.size + 1, 0, none⟩) (by first | (simp; done) | (simp; omega)); have hf1 := hb1.frozen (p := ⟨w.heap.size + 1, 1, none⟩) (by first | (simp; done) | (simp; omega)); have hz1 := hb1.size))
    refine bodyPost_ret (v := .tuple #[.agg #[.int .i64 0, .string ⟨#[]⟩], .int .i64 1]) (by simp [results, Try.results29, go_sem, *]) rfl ⟨?_, ?_⟩
    · rw [HR.out]; rfl
    · have hb9 : Below w.heap.size w w1 := Below.step (((Below.refl _ _).alloc (Nat.le_refl _) _).alloc (by simp) _) hb1
      exact (hb9.setCell (by show w.heap.size ≤ w.heap.size + 1; omega) _).setCell (by show w.heap.size ≤ w.heap.size + 1; omega) _
  | true =>
    rw [hv] at HC HQ
    have h1 : chkI true = 0 := rfl
    rw [h1] at HC HQ
    have HR : Hid (x = 0) := HQ
    clear hv h1 HQ
    go_enter Try.func29, Try.ntmps29
    go_wp2_with (first
      | (go_at_call 21; refine ((HC.out) _).mono ?_; rintro e w1 ⟨rfl, hb1⟩; have hc0 := hb1.cell (p := ⟨w.heap.size, 0, none⟩) (by first | (simp; done) | (simp; omega)); have hc1 := hb1.cell (p := ⟨w.heap.size, 1, none⟩) (by first | (simp; done) | (simp; omega)); have hr0 := hb1.cell (p := ⟨w.heap.size + 1, 0, none⟩) (by first | (simp; done) | (simp; omega)); have hr1 := hb1.cell (p := ⟨w.heap.size + 1, 1, none⟩) (by first | (simp; done) | (simp; omega)); have hf0 := hb1.frozen (p := ⟨w.heap.size + 1, 0, none⟩) (by first | (simp; done) | (simp; omega)); have hf1 := hb1.frozen (p := ⟨w.heap.size + 1, 1, none⟩) (by first | (simp; done) | (simp; omega)); have hz1 := hb1.size))
    refine bodyPost_ret (v := .tuple #[.agg #[.int .i64 0, .string s], .int .i64 0]) (by simp [results, Try.results29, go_sem, *]) rfl ⟨?_, ?_⟩
    · rw [HR.out]; rfl
    · have hb9 : Below w.heap.size w w1 := Below.step (((Below.refl _ _).alloc (Nat.le_refl _) _).alloc (by simp) _) hb1
      exact (hb9.setCell (by show w.heap.size ≤ w.heap.size + 1; omega) _).setCell (by show w.heap.size ≤ w.heap.size + 1; omega) _

theorem arrayOf_any (d : Int) (s : ByteArray) (hs : s.size ≤ maxLen) (w : World) :
    Calls Try.prog 25 #[.agg #[.int .i64 d, .string s]] w fun e w' => e = .returned (.tuple #[.agg #[.int .i64 (outD (arrE d s.data.toList) (d + 1)), .string (outS (arrE d s.data.toList) s)], .int .i64 (arrE d s.data.toList)]) ∧ Below w.heap.size w w' := by
  have HC : Hid (∀ w, _) := check_any d s hs
  have HQ : Hid (arrE d s.data.toList = if sndB d s.data.toList then (if d = 255 then 5 else 0) else 1) := rfl
  generalize arrE d s.data.toList = x at *
  cases hv : sndB d s.data.toList with
  | false =>
    rw [hv] at HC HQ
    have h1 : chkI false = 1 := rfl
    rw [h1] at HC
    have HR : Hid (x = 1) := HQ
    clear hv h1 HQ
    go_enter Try.func25, Try.ntmps25
    go_wp2_with (first
      | (go_at_call 21; refine ((HC.out) _).mono ?_; rintro e w1 ⟨rfl, hb1⟩; have hc0 := hb1.cell (p := ⟨w.heap.size, 0, none⟩) (by first | (simp; done) | (simp; omega)); have hc1 := hb1.cell (p := ⟨w.heap.size, 1, none⟩) (by first | (simp; done) | (simp; omega)); have hr0 := hb1.cell (p := ⟨w.heap.size + 1, 0, none⟩) (by first | (simp; done) | (simp; omega)); have hr1 := hb1.cell (p := ⟨w.heap.size + 1, 1, none⟩) (by first | (simp; done) | (simp; omega)); have hf0 := hb1.frozen (p := ⟨w.heap.size + 1, 0, none⟩) (by first | (simp; done) | (simp; omega)); have hf1 := hb1.frozen (p := ⟨w.heap.size + 1, 1, none⟩) (by first | (simp; done) | (simp; omega)); have hz1 := hb1.size))
    refine bodyPost_ret (v := .tuple #[.agg #[.int .i64 0, .string ⟨#[]⟩], .int .i64 1]) (by simp [results, Try.results25, go_sem, *]) rfl ⟨?_, ?_⟩
    · rw [HR.out]; rfl
    · have hb9 : Below w.heap.size w w1 := Below.step (((Below.refl _ _).alloc (Nat.le_refl _) _).alloc (by simp) _) hb1
      exact (hb9.setCell (by show w.heap.size ≤ w.heap.size + 1; omega) _).setCell (by show w.heap.size ≤ w.heap.size + 1; omega) _
  | true =>
    obtain ⟨k, rfl, hk⟩ := snd_nat hv
    rw [hv] at HC HQ
    have h1 : chkI true = 0 := rfl
    rw [h1] at HC
    clear hv h1
    by_cases h2 : (k : Int) = 255
    · have HR : Hid (x = 5) := by rw [Hid, HQ.out, if_pos rfl, if_pos h2]
      have h3 : ((k : Int) == 255) = true := by simpa using h2
      clear HQ h2
      go_enter Try.func25, Try.ntmps25
      go_wp2_with (first
        | (go_at_call 21; refine ((HC.out) _).mono ?_; rintro e w1 ⟨rfl, hb1⟩; have hc0 := hb1.cell (p := ⟨w.heap.size, 0, none⟩) (by first | (simp; done) | (simp; omega)); have hc1 := hb1.cell (p := ⟨w.heap.size, 1, none⟩) (by first | (simp; done) | (simp; omega)); have hr0 := hb1.cell (p := ⟨w.heap.size + 1, 0, none⟩) (by first | (simp; done) | (simp; omega)); have hr1 := hb1.cell (p := ⟨w.heap.size + 1, 1, none⟩) (by first | (simp; done) | (simp; omega)); have hf0 := hb1.frozen (p := ⟨w.heap.size + 1, 0, none⟩) (by first | (simp; done) | (simp; omega)); have hf1 := hb1.frozen (p := ⟨w.heap.size + 1, 1, none⟩) (by first | (simp; done) | (simp; omega)); have hz1 := hb1.size))
      refine bodyPost_ret (v := .tuple #[.agg #[.int .i64 0, .string ⟨#[]⟩], .int .i64 5]) (by simp [results, Try.results25, go_sem, *]) rfl ⟨?_, ?_⟩
      · rw [HR.out]; rfl
      · have hb9 : Below w.heap.size w w1 := Below.step (((Below.refl _ _).alloc (Nat.le_refl _) _).alloc (by simp) _) hb1
        exact (hb9.setCell (by show w.heap.size ≤ w.heap.size + 1; omega) _).setCell (by show w.heap.size ≤ w.heap.size + 1; omega) _
    · have HR : Hid (x = 0) := by rw [Hid, HQ.out, if_pos rfl, if_neg h2]
      have h3 : ((k : Int) == 255) = false := by simpa using h2
      have h4 : (k : Int) ≠ 255 := h2
      clear HQ h2
      go_enter Try.func25, Try.ntmps25
      go_wp2_with (first
        | (go_at_call 21; refine ((HC.out) _).mono ?_; rintro e w1 ⟨rfl, hb1⟩; have hc0 := hb1.cell (p := ⟨w.heap.size, 0, none⟩) (by first | (simp; done) | (simp; omega)); have hc1 := hb1.cell (p := ⟨w.heap.size, 1, none⟩) (by first | (simp; done) | (simp; omega)); have hr0 := hb1.cell (p := ⟨w.heap.size + 1, 0, none⟩) (by first | (simp; done) | (simp; omega)); have hr1 := hb1.cell (p := ⟨w.heap.size + 1, 1, none⟩) (by first | (simp; done) | (simp; omega)); have hf0 := hb1.frozen (p := ⟨w.heap.size + 1, 0, none⟩) (by first | (simp; done) | (simp; omega)); have hf1 := hb1.frozen (p := ⟨w.heap.size + 1, 1, none⟩) (by first | (simp; done) | (simp; omega)); have hz1 := hb1.size))
      refine bodyPost_ret (v := .tuple #[.agg #[.int .i64 ((k : Int) + 1), .string s], .int .i64 0]) (by simp [results, Try.results25, go_sem, *]) rfl ⟨?_, ?_⟩
      · rw [HR.out]; rfl
      · have hb9 : Below w.heap.size w w1 := Below.step (((Below.refl _ _).alloc (Nat.le_refl _) _).alloc (by simp) _) hb1
        exact (hb9.setCell (by show w.heap.size ≤ w.heap.size + 1; omega) _).setCell (by show w.heap.size ≤ w.heap.size + 1; omega) _

theorem component_any (d : Int) (s : ByteArray) (hs : s.size ≤ maxLen) (w : World) :
    Calls Try.prog 27 #[.agg #[.int .i64 d, .string s]] w fun e w' => e = .returned (.tuple #[.agg #[.int .i64 (outD (cmpE d s.data.toList) (d - 1)), .string (outS (cmpE d s.data.toList) s)], .int .i64 (cmpE d s.data.toList)]) ∧ Below w.heap.size w w' := by
  have HC : Hid (∀ w, _) := check_any d s hs
  have HQ : Hid (cmpE d s.data.toList = if sndB d s.data.toList then (if d = 0 then 6 else 0) else 1) := rfl
  generalize cmpE d s.data.toList = x at *
  cases hv : sndB d s.data.toList with
  | false =>
    rw [hv] at HC HQ
    have h1 : chkI false = 1 := rfl
    rw [h1] at HC
    have HR : Hid (x = 1) := HQ
    clear hv h1 HQ
    go_enter Try.func27, Try.ntmps27
    go_wp2_with (first
      | (go_at_call 21; refine ((HC.out) _).mono ?_; rintro e w1 ⟨rfl, hb1⟩; have hc0 := hb1.cell (p := ⟨w.heap.size, 0, none⟩) (by first | (simp; done) | (simp; omega)); have hc1 := hb1.cell (p := ⟨w.heap.size, 1, none⟩) (by first | (simp; done) | (simp; omega)); have hr0 := hb1.cell (p := ⟨w.heap.size + 1, 0, none⟩) (by first | (simp; done) | (simp; omega)); have hr1 := hb1.cell (p := ⟨w.heap.size + 1, 1, none⟩) (by first | (simp; done) | (simp; omega)); have hf0 := hb1.frozen (p := ⟨w.heap.size + 1, 0, none⟩) (by first | (simp; done) | (simp; omega)); have hf1 := hb1.frozen (p := ⟨w.heap.size + 1, 1, none⟩) (by first | (simp; done) | (simp; omega)); have hz1 := hb1.size))
    refine bodyPost_ret (v := .tuple #[.agg #[.int .i64 0, .string ⟨#[]⟩], .int .i64 1]) (by simp [results, Try.results27, go_sem, *]) rfl ⟨?_, ?_⟩
    · rw [HR.out]; rfl
    · have hb9 : Below w.heap.size w w1 := Below.step (((Below.refl _ _).alloc (Nat.le_refl _) _).alloc (by simp) _) hb1
      exact (hb9.setCell (by show w.heap.size ≤ w.heap.size + 1; omega) _).setCell (by show w.heap.size ≤ w.heap.size + 1; omega) _
  | true =>
    obtain ⟨k, rfl, hk⟩ := snd_nat hv
    rw [hv] at HC HQ
    have h1 : chkI true = 0 := rfl
    rw [h1] at HC
    clear hv h1
    by_cases h2 : (k : Int) = 0
    · have HR : Hid (x = 6) := by rw [Hid, HQ.out, if_pos rfl, if_pos h2]
      have h3 : ((k : Int) == 0) = true := by simpa using h2
      clear HQ h2
      go_enter Try.func27, Try.ntmps27
      go_wp2_with (first
        | (go_at_call 21; refine ((HC.out) _).mono ?_; rintro e w1 ⟨rfl, hb1⟩; have hc0 := hb1.cell (p := ⟨w.heap.size, 0, none⟩) (by first | (simp; done) | (simp; omega)); have hc1 := hb1.cell (p := ⟨w.heap.size, 1, none⟩) (by first | (simp; done) | (simp; omega)); have hr0 := hb1.cell (p := ⟨w.heap.size + 1, 0, none⟩) (by first | (simp; done) | (simp; omega)); have hr1 := hb1.cell (p := ⟨w.heap.size + 1, 1, none⟩) (by first | (simp; done) | (simp; omega)); have hf0 := hb1.frozen (p := ⟨w.heap.size + 1, 0, none⟩) (by first | (simp; done) | (simp; omega)); have hf1 := hb1.frozen (p := ⟨w.heap.size + 1, 1, none⟩) (by first | (simp; done) | (simp; omega)); have hz1 := hb1.size))
      refine bodyPost_ret (v := .tuple #[.agg #[.int .i64 0, .string ⟨#[]⟩], .int .i64 6]) (by simp [results, Try.results27, go_sem, *]) rfl ⟨?_, ?_⟩
      · rw [HR.out]; rfl
      · have hb9 : Below w.heap.size w w1 := Below.step (((Below.refl _ _).alloc (Nat.le_refl _) _).alloc (by simp) _) hb1
        exact (hb9.setCell (by show w.heap.size ≤ w.heap.size + 1; omega) _).setCell (by show w.heap.size ≤ w.heap.size + 1; omega) _
    · have HR : Hid (x = 0) := by rw [Hid, HQ.out, if_pos rfl, if_neg h2]
      have h3 : ((k : Int) == 0) = false := by simpa using h2
      have h4 : (k : Int) ≠ 0 := h2
      clear HQ h2
      go_enter Try.func27, Try.ntmps27
      go_wp2_with (first
        | (go_at_call 21; refine ((HC.out) _).mono ?_; rintro e w1 ⟨rfl, hb1⟩; have hc0 := hb1.cell (p := ⟨w.heap.size, 0, none⟩) (by first | (simp; done) | (simp; omega)); have hc1 := hb1.cell (p := ⟨w.heap.size, 1, none⟩) (by first | (simp; done) | (simp; omega)); have hr0 := hb1.cell (p := ⟨w.heap.size + 1, 0, none⟩) (by first | (simp; done) | (simp; omega)); have hr1 := hb1.cell (p := ⟨w.heap.size + 1, 1, none⟩) (by first | (simp; done) | (simp; omega)); have hf0 := hb1.frozen (p := ⟨w.heap.size + 1, 0, none⟩) (by first | (simp; done) | (simp; omega)); have hf1 := hb1.frozen (p := ⟨w.heap.size + 1, 1, none⟩) (by first | (simp; done) | (simp; omega)); have hz1 := hb1.size))
      refine bodyPost_ret (v := .tuple #[.agg #[.int .i64 ((k : Int) - 1), .string s], .int .i64 0]) (by simp [results, Try.results27, go_sem, *]) rfl ⟨?_, ?_⟩
      · rw [HR.out]; rfl
      · have hb9 : Below w.heap.size w w1 := Below.step (((Below.refl _ _).alloc (Nat.le_refl _) _).alloc (by simp) _) hb1
        exact (hb9.setCell (by show w.heap.size ≤ w.heap.size + 1; omega) _).setCell (by show w.heap.size ≤ w.heap.size + 1; omega) _


end Go.Proofs.Ytaljppicmookeaa
