/-
  For every type (any dimensions, any name), the Go function arbiterlaw02.TypesBack returns true: a sound type's text and its reference's text are parsed to it again; the array over it has it for component; its element has no dimensions; of another type the text is refused.
  The statement is 'Rows.TypesBackSaid', for every input (no bound of our own).
-/
import Derived.Test.YtaljppicmookeaaAwake
namespace Go.Proofs.Ytaljppicmookeaa
open Go.ChangeShapes Go.WideShapes Go.ChangeAt Go.RowKit Go.Joins

theorem snd_named {k : Nat} {l : List UInt8} (h : sndB (k : Int) l = true) : namedT (k, l) = true := by
  unfold sndB at h
  simp only [Bool.and_eq_true] at h
  have h2 := h.2
  cases l with
  | nil => rfl
  | cons c r => simpa [namedT] using h2

theorem par_write {k : Nat} {l : List UInt8} (hk : k ≤ 255) (h : sndB (k : Int) l = true) : parE (writeT (k, l)) = 0 ∧ parT (writeT (k, l)) = (k, l) := by
  have hr := read_write (k, l) [] (snd_named h)
  rw [List.append_nil] at hr
  have hl := snd_len h
  have hw := writeT_length (k, l)
  have he : parE (writeT (k, l)) = 0 := by
    rw [parE, if_neg (by rw [hw]; simp only; split <;> omega), hr]
    simp only
    rw [if_neg (by omega)]
  exact ⟨he, by rw [parT, if_pos he, hr]⟩

theorem valid_head {l : List UInt8} (h : validL l = true) : l.head? ≠ some 91 := by
  intro e
  cases l with
  | nil => simp at e
  | cons c r =>
    simp at e
    rcases valid_bytes h c (by simp) with q | q
    · rw [e] at q; revert q; decide
    · rw [e] at q; revert q; decide

theorem prf_ref {k : Nat} {l : List UInt8} (hk : k ≤ 255) (h : sndB (k : Int) l = true) (hn : ¬ (k = 0 ∧ l = [])) : refE (k : Int) l = 0 ∧ prfE (refS (k : Int) l) = 0 ∧ prfT (refS (k : Int) l) = (k, l) := by
  have hre : refE (k : Int) l = 0 := by rw [refE, if_pos h, if_neg (fun z => hn ⟨by have := z.1; omega, z.2⟩)]
  have hl := snd_len h
  refine ⟨hre, ?_⟩
  by_cases h0 : k = 0
  · subst h0
    have hne : l ≠ [] := fun e => hn ⟨rfl, e⟩
    have hv : validL l = true := by
      unfold sndB at h
      simp only [Bool.and_eq_true, Bool.or_eq_true] at h
      rcases h.2 with q | q
      · exact absurd (List.isEmpty_iff.1 q) hne
      · exact q
    have hs : refS ((0 : Nat) : Int) l = l := by rw [refS, if_pos hre]; rfl
    rw [hs]
    have hh := valid_head hv
    constructor
    · rw [prfE, if_neg (by omega), if_neg hh, if_pos hv]
    · rw [prfT, if_neg (by omega), if_neg hh, if_pos hv]
  · have hs : refS (k : Int) l = writeT (k, l) := by rw [refS, if_pos hre, if_neg (by omega)]; rfl
    rw [hs]
    obtain ⟨p1, p2⟩ := par_write hk h
    have hw := writeT_length (k, l)
    have hlen : ¬ 2000 < (writeT (k, l)).length := by rw [hw]; simp only; split <;> omega
    have hh : (writeT (k, l)).head? = some 91 := by
      cases k with
      | zero => exact absurd rfl h0
      | succ j => simp [writeT, List.replicate_succ]
    exact ⟨by rw [prfE, if_neg hlen, if_pos hh, p1], by rw [prfT, if_neg hlen, if_pos hh, p2]⟩

theorem snd_next {k : Nat} {l : List UInt8} (h : sndB (k : Int) l = true) (hk : k < 255) : sndB ((k : Int) + 1) l = true := by
  unfold sndB at *
  simp only [Bool.and_eq_true, decide_eq_true_eq] at *
  exact ⟨⟨by omega, by omega⟩, h.2⟩

set_option maxHeartbeats 4000000 in
theorem typesBack_walk (d : Int) (s : ByteArray) (hs : s.size ≤ maxLen) (w : World) :
    Calls Try.prog 6 #[.agg #[.int .i64 d, .string s]] w fun e w' => e = .returned (.bool true) ∧ Below w.heap.size w w' := by
  have HA : Hid (∀ w, _) := awake_any
  have HT : Hid (∀ w, _) := text_any d s hs
  have HK : Hid (∀ w, _) := check_any d s hs
  cases hv : sndB d s.data.toList with
  | false =>
    have ht : textS d s.data.toList = [] := by rw [textS, hv]; rfl
    have h1 : chkI false = 1 := rfl
    rw [hv, h1] at HT HK
    rw [ht] at HT
    clear hv ht h1 hs
    go_enter Try.func6, Try.ntmps6
    go_wp2_with (first
      | (go_at_call 8; (refine ((HA.out) _).mono ?_; rintro e w8 ⟨rfl, hb⟩; have bw8 : Hid (Below w.heap.size w w8) := Below.step ((Below.refl _ _).alloc (Nat.le_refl _) _) hb; have zw8_0 : w.heap.size < w8.heap.size := (by have := hb.size; (try simp at this); omega); have cw8_00 : w8.cell? ⟨w.heap.size, 0, none⟩ = some (.int .i64 d) := (hb.cell (p := ⟨w.heap.size, 0, none⟩) (by first | assumption | (simp; done) | (simp; omega) | omega)).trans (by simp [go_sem, *]); have cw8_01 : w8.cell? ⟨w.heap.size, 1, none⟩ = some (.string s) := (hb.cell (p := ⟨w.heap.size, 1, none⟩) (by first | assumption | (simp; done) | (simp; omega) | omega)).trans (by simp [go_sem, *]); clear hb))
      | (go_at_call 19; (refine ((HT.out) _).mono ?_; rintro e w19 ⟨rfl, hb⟩; have bw19 : Hid (Below w.heap.size w w19) := Below.step (bw8.out) hb; have zw19_0 : w.heap.size < w19.heap.size := (by have := hb.size; (try simp at this); omega); have cw19_00 : w19.cell? ⟨w.heap.size, 0, none⟩ = some (.int .i64 d) := (hb.cell (p := ⟨w.heap.size, 0, none⟩) (by first | assumption | (simp; done) | (simp; omega) | omega)).trans (by simp [go_sem, *]); have cw19_01 : w19.cell? ⟨w.heap.size, 1, none⟩ = some (.string s) := (hb.cell (p := ⟨w.heap.size, 1, none⟩) (by first | assumption | (simp; done) | (simp; omega) | omega)).trans (by simp [go_sem, *]); clear hb))
      | (go_at_call 21; (refine ((HK.out) _).mono ?_; rintro e w21 ⟨rfl, hb⟩; have bw21 : Hid (Below w.heap.size w w21) := Below.step (bw19.out) hb; have zw21_0 : w.heap.size < w21.heap.size := (by have := hb.size; (try simp at this); omega); have cw21_00 : w21.cell? ⟨w.heap.size, 0, none⟩ = some (.int .i64 d) := (hb.cell (p := ⟨w.heap.size, 0, none⟩) (by first | assumption | (simp; done) | (simp; omega) | omega)).trans (by simp [go_sem, *]); have cw21_01 : w21.cell? ⟨w.heap.size, 1, none⟩ = some (.string s) := (hb.cell (p := ⟨w.heap.size, 1, none⟩) (by first | assumption | (simp; done) | (simp; omega) | omega)).trans (by simp [go_sem, *]); clear hb)))
    go_ret
    exact ⟨rfl, bw21.out⟩
  | true =>
    obtain ⟨k, rfl, hk⟩ := snd_nat hv
    have hl := snd_len hv
    have hlen : s.data.toList.length = s.size := by simp
    have ht : textS (k : Int) s.data.toList = writeT (k, s.data.toList) := by rw [textS, if_pos hv]; rfl
    have h1 : chkI true = 0 := rfl
    rw [hv, h1] at HT HK
    rw [ht] at HT
    obtain ⟨p1, p2⟩ := par_write hk hv
    have hwl := writeT_length (k, s.data.toList)
    have hw1 : (writeT (k, s.data.toList)).length ≤ 400 := by rw [hwl]; simp only; split <;> omega
    have hw2 : k + 1 ≤ (writeT (k, s.data.toList)).length := by rw [hwl]; simp only; split <;> omega
    have HP : Hid (∀ w, Calls Try.prog 9 #[.string ⟨(writeT (k, s.data.toList)).toArray⟩] w fun e w' => e = .returned (.tuple #[.agg #[.int .i64 k, .string s], .int .i64 0]) ∧ Below w.heap.size w w') := fun w => by
      have h := parse_any ⟨(writeT (k, s.data.toList)).toArray⟩ (by rw [mk_size]; unfold maxLen; omega) w
      have e1 : (⟨(writeT (k, s.data.toList)).toArray⟩ : ByteArray).data.toList = writeT (k, s.data.toList) := by simp
      rw [e1, p1, p2] at h
      exact h
    have hsz : (⟨(writeT (k, s.data.toList)).toArray⟩ : ByteArray).size = (writeT (k, s.data.toList)).length := mk_size _
    have HS : ∀ (x : Int) (y : ByteArray) (w : World), Calls Try.prog 11 #[.agg #[.int .i64 x, .string y], .agg #[.int .i64 x, .string y]] w fun e w' => e = .returned (.bool true) ∧ Below w.heap.size w w' := fun x y w => by
      have h := rSame_any x x y y w
      simp only [decide_true, Bool.and_true] at h
      exact h
    have HS1 : Hid (∀ w, _) := HS k s
    have HS2 : Hid (∀ w, _) := HS k s
    have HS3 : Hid (∀ w, _) := HS k s
    have HS4 : Hid (∀ w, _) := HS 0 s
    have HF : Hid (∀ w, _) := refText_any k s hs
    have HY : Hid (∀ w, _) := arrayOf_any k s hs
    have HE2 : Hid (∀ w, Calls Try.prog 29 #[.agg #[.int .i64 k, .string s]] w fun e w' => e = .returned (.tuple #[.agg #[.int .i64 0, .string s], .int .i64 0]) ∧ Below w.heap.size w w') := fun w => by
      have h := element_any k s hs w
      have e1 : chkE (k : Int) s.data.toList = 0 := by rw [chkE, hv]; rfl
      rw [e1] at h
      exact h
    have hsize : (k : Int) + 1 ≤ ((⟨(writeT (k, s.data.toList)).toArray⟩ : ByteArray).size : Int) := by rw [hsz]; omega
    have hnlt : ¬ ((⟨(writeT (k, s.data.toList)).toArray⟩ : ByteArray).size : Int) < (k : Int) + 1 := by omega
    generalize (⟨(writeT (k, s.data.toList)).toArray⟩ : ByteArray) = tx at *
    by_cases hmax : k = 255
    · have hn : ¬ (k = 0 ∧ s.data.toList = []) := by omega
      obtain ⟨r1, r2, r3⟩ := prf_ref hk hv hn
      have hrl : (refS (k : Int) s.data.toList).length ≤ 2000 := by
        by_cases q : 2000 < (refS (k : Int) s.data.toList).length
        · rw [prfE, if_pos q] at r2; simp at r2
        · omega
      have HR : Hid (∀ w, Calls Try.prog 12 #[.string ⟨(refS (k : Int) s.data.toList).toArray⟩] w fun e w' => e = .returned (.tuple #[.agg #[.int .i64 k, .string s], .int .i64 0]) ∧ Below w.heap.size w w') := fun w => by
        have h := parseRef_any ⟨(refS (k : Int) s.data.toList).toArray⟩ (by rw [mk_size]; unfold maxLen; omega) w
        have e1 : (⟨(refS (k : Int) s.data.toList).toArray⟩ : ByteArray).data.toList = refS (k : Int) s.data.toList := by simp
        rw [e1, r2, r3] at h
        exact h
      rw [r1] at HF
      generalize (⟨(refS (k : Int) s.data.toList).toArray⟩ : ByteArray) = rx at *
      have ha : arrE (k : Int) s.data.toList = 5 := by rw [arrE, if_pos hv, if_pos (by omega)]
      rw [ha] at HY
      clear r1 r2 r3 hrl hv hl hlen ht hwl hw1 hw2 p1 p2 hsz HS hs h1
      generalize outD 5 ((k : Int) + 1) = a1 at *
      have hd0 : ((k : Int) == 0) = false := by rw [beq_eq_false_iff_ne]; omega
      have hd1 : ((k : Int) == 255) = true := by rw [beq_iff_eq]; omega
      clear ha hmax hn HE2 HS3 HS4
      go_enter Try.func6, Try.ntmps6
      go_wp2_with (first
        | (go_at_call 8; (refine ((HA.out) _).mono ?_; rintro e w8 ⟨rfl, hb⟩; have bw8 : Hid (Below w.heap.size w w8) := Below.step ((Below.refl _ _).alloc (Nat.le_refl _) _) hb; have zw8_0 : w.heap.size < w8.heap.size := (by have := hb.size; (try simp at this); omega); have cw8_00 : w8.cell? ⟨w.heap.size, 0, none⟩ = some (.int .i64 k) := (hb.cell (p := ⟨w.heap.size, 0, none⟩) (by first | assumption | (simp; done) | (simp; omega) | omega)).trans (by simp [go_sem, *]); have cw8_01 : w8.cell? ⟨w.heap.size, 1, none⟩ = some (.string s) := (hb.cell (p := ⟨w.heap.size, 1, none⟩) (by first | assumption | (simp; done) | (simp; omega) | omega)).trans (by simp [go_sem, *]); clear hb))
        | (go_at_call 19; (refine ((HT.out) _).mono ?_; rintro e w19 ⟨rfl, hb⟩; have bw19 : Hid (Below w.heap.size w w19) := Below.step (bw8.out) hb; have zw19_0 : w.heap.size < w19.heap.size := (by have := hb.size; (try simp at this); omega); have cw19_00 : w19.cell? ⟨w.heap.size, 0, none⟩ = some (.int .i64 k) := (hb.cell (p := ⟨w.heap.size, 0, none⟩) (by first | assumption | (simp; done) | (simp; omega) | omega)).trans (by simp [go_sem, *]); have cw19_01 : w19.cell? ⟨w.heap.size, 1, none⟩ = some (.string s) := (hb.cell (p := ⟨w.heap.size, 1, none⟩) (by first | assumption | (simp; done) | (simp; omega) | omega)).trans (by simp [go_sem, *]); clear hb))
        | (go_at_call 21; (refine ((HK.out) _).mono ?_; rintro e w21 ⟨rfl, hb⟩; have bw21 : Hid (Below w.heap.size w w21) := Below.step (bw19.out) hb; have zw21_0 : w.heap.size < w21.heap.size := (by have := hb.size; (try simp at this); omega); have cw21_00 : w21.cell? ⟨w.heap.size, 0, none⟩ = some (.int .i64 k) := (hb.cell (p := ⟨w.heap.size, 0, none⟩) (by first | assumption | (simp; done) | (simp; omega) | omega)).trans (by simp [go_sem, *]); have cw21_01 : w21.cell? ⟨w.heap.size, 1, none⟩ = some (.string s) := (hb.cell (p := ⟨w.heap.size, 1, none⟩) (by first | assumption | (simp; done) | (simp; omega) | omega)).trans (by simp [go_sem, *]); clear hb))
        | (go_at_call 9; (refine ((HP.out) _).mono ?_; rintro e w9 ⟨rfl, hb⟩; have bw9 : Hid (Below w.heap.size w w9) := Below.step (bw21.out) hb; have zw9_0 : w.heap.size < w9.heap.size := (by have := hb.size; (try simp at this); omega); have cw9_00 : w9.cell? ⟨w.heap.size, 0, none⟩ = some (.int .i64 k) := (hb.cell (p := ⟨w.heap.size, 0, none⟩) (by first | assumption | (simp; done) | (simp; omega) | omega)).trans (by simp [go_sem, *]); have cw9_01 : w9.cell? ⟨w.heap.size, 1, none⟩ = some (.string s) := (hb.cell (p := ⟨w.heap.size, 1, none⟩) (by first | assumption | (simp; done) | (simp; omega) | omega)).trans (by simp [go_sem, *]); clear hb))
        | (go_at_call 11; (refine ((HS1.out) _).mono ?_; rintro e x1 ⟨rfl, hb⟩; have bx1 : Hid (Below w.heap.size w x1) := Below.step (bw9.out.alloc bw9.out.size _) hb; have zx1_0 : w.heap.size < x1.heap.size := (by have := hb.size; (try simp at this); omega); have cx1_00 : x1.cell? ⟨w.heap.size, 0, none⟩ = some (.int .i64 k) := (hb.cell (p := ⟨w.heap.size, 0, none⟩) (by first | assumption | (simp; done) | (simp; omega) | omega)).trans (by simp [go_sem, *]); have cx1_01 : x1.cell? ⟨w.heap.size, 1, none⟩ = some (.string s) := (hb.cell (p := ⟨w.heap.size, 1, none⟩) (by first | assumption | (simp; done) | (simp; omega) | omega)).trans (by simp [go_sem, *]); clear hb; clear HS1))
        | (go_at_call 23; (refine ((HF.out) _).mono ?_; rintro e w23 ⟨rfl, hb⟩; have bw23 : Hid (Below w.heap.size w w23) := Below.step (bx1.out) hb; have zw23_0 : w.heap.size < w23.heap.size := (by have := hb.size; (try simp at this); omega); have cw23_00 : w23.cell? ⟨w.heap.size, 0, none⟩ = some (.int .i64 k) := (hb.cell (p := ⟨w.heap.size, 0, none⟩) (by first | assumption | (simp; done) | (simp; omega) | omega)).trans (by simp [go_sem, *]); have cw23_01 : w23.cell? ⟨w.heap.size, 1, none⟩ = some (.string s) := (hb.cell (p := ⟨w.heap.size, 1, none⟩) (by first | assumption | (simp; done) | (simp; omega) | omega)).trans (by simp [go_sem, *]); clear hb))
        | (go_at_call 12; (refine ((HR.out) _).mono ?_; rintro e w12 ⟨rfl, hb⟩; have bw12 : Hid (Below w.heap.size w w12) := Below.step (bw23.out) hb; have zw12_0 : w.heap.size < w12.heap.size := (by have := hb.size; (try simp at this); omega); have cw12_00 : w12.cell? ⟨w.heap.size, 0, none⟩ = some (.int .i64 k) := (hb.cell (p := ⟨w.heap.size, 0, none⟩) (by first | assumption | (simp; done) | (simp; omega) | omega)).trans (by simp [go_sem, *]); have cw12_01 : w12.cell? ⟨w.heap.size, 1, none⟩ = some (.string s) := (hb.cell (p := ⟨w.heap.size, 1, none⟩) (by first | assumption | (simp; done) | (simp; omega) | omega)).trans (by simp [go_sem, *]); clear hb))
        | (go_at_call 11; (refine ((HS2.out) _).mono ?_; rintro e x2 ⟨rfl, hb⟩; have bx2 : Hid (Below w.heap.size w x2) := Below.step (bw12.out.alloc bw12.out.size _) hb; have zx2_0 : w.heap.size < x2.heap.size := (by have := hb.size; (try simp at this); omega); have cx2_00 : x2.cell? ⟨w.heap.size, 0, none⟩ = some (.int .i64 k) := (hb.cell (p := ⟨w.heap.size, 0, none⟩) (by first | assumption | (simp; done) | (simp; omega) | omega)).trans (by simp [go_sem, *]); have cx2_01 : x2.cell? ⟨w.heap.size, 1, none⟩ = some (.string s) := (hb.cell (p := ⟨w.heap.size, 1, none⟩) (by first | assumption | (simp; done) | (simp; omega) | omega)).trans (by simp [go_sem, *]); clear hb; clear HS2))
        | (go_at_call 25; (refine ((HY.out) _).mono ?_; rintro e w25 ⟨rfl, hb⟩; have bw25 : Hid (Below w.heap.size w w25) := Below.step (bx2.out) hb; have zw25_0 : w.heap.size < w25.heap.size := (by have := hb.size; (try simp at this); omega); have cw25_00 : w25.cell? ⟨w.heap.size, 0, none⟩ = some (.int .i64 k) := (hb.cell (p := ⟨w.heap.size, 0, none⟩) (by first | assumption | (simp; done) | (simp; omega) | omega)).trans (by simp [go_sem, *]); have cw25_01 : w25.cell? ⟨w.heap.size, 1, none⟩ = some (.string s) := (hb.cell (p := ⟨w.heap.size, 1, none⟩) (by first | assumption | (simp; done) | (simp; omega) | omega)).trans (by simp [go_sem, *]); clear hb)))
      go_ret
      exact ⟨rfl, bw25.out.alloc bw25.out.size _⟩
    · have hk' : k < 255 := by omega
      have ha : arrE (k : Int) s.data.toList = 0 := by rw [arrE, if_pos hv, if_neg (by omega)]
      have hd1 : ((k : Int) == 255) = false := by rw [beq_eq_false_iff_ne]; omega
      have HY' : Hid (∀ w, Calls Try.prog 25 #[.agg #[.int .i64 k, .string s]] w fun e w' => e = .returned (.tuple #[.agg #[.int .i64 ((k : Int) + 1), .string s], .int .i64 0]) ∧ Below w.heap.size w w') := fun w => by
        have h := HY.out w
        rw [ha] at h
        exact h
      clear HY ha
      have HY : Hid (∀ w, _) := HY'.out
      clear HY'
      have hv1 := snd_next hv hk'
      have HC : Hid (∀ w, Calls Try.prog 27 #[.agg #[.int .i64 ((k : Int) + 1), .string s]] w fun e w' => e = .returned (.tuple #[.agg #[.int .i64 k, .string s], .int .i64 0]) ∧ Below w.heap.size w w') := fun w => by
        have h := component_any ((k : Int) + 1) s hs w
        have e1 : cmpE ((k : Int) + 1) s.data.toList = 0 := by rw [cmpE, if_pos hv1, if_neg (by omega)]
        have e2 : outD 0 ((k : Int) + 1 - 1) = (k : Int) := by show (k : Int) + 1 - 1 = k; omega
        rw [e1, e2] at h
        exact h
      have HE1 : Hid (∀ w, Calls Try.prog 29 #[.agg #[.int .i64 ((k : Int) + 1), .string s]] w fun e w' => e = .returned (.tuple #[.agg #[.int .i64 0, .string s], .int .i64 0]) ∧ Below w.heap.size w w') := fun w => by
        have h := element_any ((k : Int) + 1) s hs w
        have e1 : chkE ((k : Int) + 1) s.data.toList = 0 := by rw [chkE, hv1]; rfl
        rw [e1] at h
        exact h
      by_cases hn : k = 0 ∧ s.data.toList = []
      · have r1 : refE (k : Int) s.data.toList = 2 := by rw [refE, if_pos hv, if_pos ⟨by have := hn.1; omega, hn.2⟩]
        have he : s.toList.isEmpty = true := by rw [Lib.toList_data, hn.2]; rfl
        have hd0 : ((k : Int) == 0) = true := by rw [beq_iff_eq]; omega
        rw [r1] at HF
        generalize (⟨(refS (k : Int) s.data.toList).toArray⟩ : ByteArray) = rx at *
        clear hn r1 hv hl hlen ht hwl hw1 hw2 p1 p2 hsz hv1 HS hs hmax hk' h1
        clear HS2
        go_enter Try.func6, Try.ntmps6
        go_wp2_with (first
          | (go_at_call 8; (refine ((HA.out) _).mono ?_; rintro e w8 ⟨rfl, hb⟩; have bw8 : Hid (Below w.heap.size w w8) := Below.step ((Below.refl _ _).alloc (Nat.le_refl _) _) hb; have zw8_0 : w.heap.size < w8.heap.size := (by have := hb.size; (try simp at this); omega); have cw8_00 : w8.cell? ⟨w.heap.size, 0, none⟩ = some (.int .i64 k) := (hb.cell (p := ⟨w.heap.size, 0, none⟩) (by first | assumption | (simp; done) | (simp; omega) | omega)).trans (by simp [go_sem, *]); have cw8_01 : w8.cell? ⟨w.heap.size, 1, none⟩ = some (.string s) := (hb.cell (p := ⟨w.heap.size, 1, none⟩) (by first | assumption | (simp; done) | (simp; omega) | omega)).trans (by simp [go_sem, *]); clear hb))
          | (go_at_call 19; (refine ((HT.out) _).mono ?_; rintro e w19 ⟨rfl, hb⟩; have bw19 : Hid (Below w.heap.size w w19) := Below.step (bw8.out) hb; have zw19_0 : w.heap.size < w19.heap.size := (by have := hb.size; (try simp at this); omega); have cw19_00 : w19.cell? ⟨w.heap.size, 0, none⟩ = some (.int .i64 k) := (hb.cell (p := ⟨w.heap.size, 0, none⟩) (by first | assumption | (simp; done) | (simp; omega) | omega)).trans (by simp [go_sem, *]); have cw19_01 : w19.cell? ⟨w.heap.size, 1, none⟩ = some (.string s) := (hb.cell (p := ⟨w.heap.size, 1, none⟩) (by first | assumption | (simp; done) | (simp; omega) | omega)).trans (by simp [go_sem, *]); clear hb))
          | (go_at_call 21; (refine ((HK.out) _).mono ?_; rintro e w21 ⟨rfl, hb⟩; have bw21 : Hid (Below w.heap.size w w21) := Below.step (bw19.out) hb; have zw21_0 : w.heap.size < w21.heap.size := (by have := hb.size; (try simp at this); omega); have cw21_00 : w21.cell? ⟨w.heap.size, 0, none⟩ = some (.int .i64 k) := (hb.cell (p := ⟨w.heap.size, 0, none⟩) (by first | assumption | (simp; done) | (simp; omega) | omega)).trans (by simp [go_sem, *]); have cw21_01 : w21.cell? ⟨w.heap.size, 1, none⟩ = some (.string s) := (hb.cell (p := ⟨w.heap.size, 1, none⟩) (by first | assumption | (simp; done) | (simp; omega) | omega)).trans (by simp [go_sem, *]); clear hb))
          | (go_at_call 9; (refine ((HP.out) _).mono ?_; rintro e w9 ⟨rfl, hb⟩; have bw9 : Hid (Below w.heap.size w w9) := Below.step (bw21.out) hb; have zw9_0 : w.heap.size < w9.heap.size := (by have := hb.size; (try simp at this); omega); have cw9_00 : w9.cell? ⟨w.heap.size, 0, none⟩ = some (.int .i64 k) := (hb.cell (p := ⟨w.heap.size, 0, none⟩) (by first | assumption | (simp; done) | (simp; omega) | omega)).trans (by simp [go_sem, *]); have cw9_01 : w9.cell? ⟨w.heap.size, 1, none⟩ = some (.string s) := (hb.cell (p := ⟨w.heap.size, 1, none⟩) (by first | assumption | (simp; done) | (simp; omega) | omega)).trans (by simp [go_sem, *]); clear hb))
          | (go_at_call 11; (refine ((HS1.out) _).mono ?_; rintro e x1 ⟨rfl, hb⟩; have bx1 : Hid (Below w.heap.size w x1) := Below.step (bw9.out.alloc bw9.out.size _) hb; have zx1_0 : w.heap.size < x1.heap.size := (by have := hb.size; (try simp at this); omega); have cx1_00 : x1.cell? ⟨w.heap.size, 0, none⟩ = some (.int .i64 k) := (hb.cell (p := ⟨w.heap.size, 0, none⟩) (by first | assumption | (simp; done) | (simp; omega) | omega)).trans (by simp [go_sem, *]); have cx1_01 : x1.cell? ⟨w.heap.size, 1, none⟩ = some (.string s) := (hb.cell (p := ⟨w.heap.size, 1, none⟩) (by first | assumption | (simp; done) | (simp; omega) | omega)).trans (by simp [go_sem, *]); clear hb; clear HS1))
          | (go_at_call 23; (refine ((HF.out) _).mono ?_; rintro e w23 ⟨rfl, hb⟩; have bw23 : Hid (Below w.heap.size w w23) := Below.step (bx1.out) hb; have zw23_0 : w.heap.size < w23.heap.size := (by have := hb.size; (try simp at this); omega); have cw23_00 : w23.cell? ⟨w.heap.size, 0, none⟩ = some (.int .i64 k) := (hb.cell (p := ⟨w.heap.size, 0, none⟩) (by first | assumption | (simp; done) | (simp; omega) | omega)).trans (by simp [go_sem, *]); have cw23_01 : w23.cell? ⟨w.heap.size, 1, none⟩ = some (.string s) := (hb.cell (p := ⟨w.heap.size, 1, none⟩) (by first | assumption | (simp; done) | (simp; omega) | omega)).trans (by simp [go_sem, *]); clear hb))
          | (go_at_call 25; (refine ((HY.out) _).mono ?_; rintro e w25 ⟨rfl, hb⟩; have bw25 : Hid (Below w.heap.size w w25) := Below.step (bw23.out) hb; have zw25_0 : w.heap.size < w25.heap.size := (by have := hb.size; (try simp at this); omega); have cw25_00 : w25.cell? ⟨w.heap.size, 0, none⟩ = some (.int .i64 k) := (hb.cell (p := ⟨w.heap.size, 0, none⟩) (by first | assumption | (simp; done) | (simp; omega) | omega)).trans (by simp [go_sem, *]); have cw25_01 : w25.cell? ⟨w.heap.size, 1, none⟩ = some (.string s) := (hb.cell (p := ⟨w.heap.size, 1, none⟩) (by first | assumption | (simp; done) | (simp; omega) | omega)).trans (by simp [go_sem, *]); clear hb))
          | (go_at_call 27; (refine ((HC.out) _).mono ?_; rintro e w27 ⟨rfl, hb⟩; have bw27 : Hid (Below w.heap.size w w27) := Below.step (bw25.out.alloc bw25.out.size _) hb; have zw27_0 : w.heap.size < w27.heap.size := (by have := hb.size; (try simp at this); omega); have cw27_00 : w27.cell? ⟨w.heap.size, 0, none⟩ = some (.int .i64 k) := (hb.cell (p := ⟨w.heap.size, 0, none⟩) (by first | assumption | (simp; done) | (simp; omega) | omega)).trans (by simp [go_sem, *]); have cw27_01 : w27.cell? ⟨w.heap.size, 1, none⟩ = some (.string s) := (hb.cell (p := ⟨w.heap.size, 1, none⟩) (by first | assumption | (simp; done) | (simp; omega) | omega)).trans (by simp [go_sem, *]); have zw27_1 : w25.heap.size < w27.heap.size := (by have := hb.size; (try simp at this); omega); have cw27_10 : w27.cell? ⟨w25.heap.size, 0, none⟩ = some (.int .i64 (k + 1)) := (hb.cell (p := ⟨w25.heap.size, 0, none⟩) (by first | assumption | (simp; done) | (simp; omega) | omega)).trans (by simp [go_sem, *]); have cw27_11 : w27.cell? ⟨w25.heap.size, 1, none⟩ = some (.string s) := (hb.cell (p := ⟨w25.heap.size, 1, none⟩) (by first | assumption | (simp; done) | (simp; omega) | omega)).trans (by simp [go_sem, *]); clear hb))
          | (go_at_call 29; (refine ((HE1.out) _).mono ?_; rintro e wx ⟨rfl, hb⟩; have bwx : Hid (Below w.heap.size w wx) := Below.step (bw27.out.alloc bw27.out.size _) hb; have zwx_0 : w.heap.size < wx.heap.size := (by have := hb.size; (try simp at this); omega); have cwx_00 : wx.cell? ⟨w.heap.size, 0, none⟩ = some (.int .i64 k) := (hb.cell (p := ⟨w.heap.size, 0, none⟩) (by first | assumption | (simp; done) | (simp; omega) | omega)).trans (by simp [go_sem, *]); have cwx_01 : wx.cell? ⟨w.heap.size, 1, none⟩ = some (.string s) := (hb.cell (p := ⟨w.heap.size, 1, none⟩) (by first | assumption | (simp; done) | (simp; omega) | omega)).trans (by simp [go_sem, *]); have zwx_1 : w27.heap.size < wx.heap.size := (by have := hb.size; (try simp at this); omega); have cwx_10 : wx.cell? ⟨w27.heap.size, 0, none⟩ = some (.int .i64 k) := (hb.cell (p := ⟨w27.heap.size, 0, none⟩) (by first | assumption | (simp; done) | (simp; omega) | omega)).trans (by simp [go_sem, *]); have cwx_11 : wx.cell? ⟨w27.heap.size, 1, none⟩ = some (.string s) := (hb.cell (p := ⟨w27.heap.size, 1, none⟩) (by first | assumption | (simp; done) | (simp; omega) | omega)).trans (by simp [go_sem, *]); clear hb; clear HE1))
          | (go_at_call 29; (refine ((HE2.out) _).mono ?_; rintro e wy ⟨rfl, hb⟩; have bwy : Hid (Below w.heap.size w wy) := Below.step (bwx.out.alloc bwx.out.size _) hb; have zwy_0 : w.heap.size < wy.heap.size := (by have := hb.size; (try simp at this); omega); have cwy_00 : wy.cell? ⟨w.heap.size, 0, none⟩ = some (.int .i64 k) := (hb.cell (p := ⟨w.heap.size, 0, none⟩) (by first | assumption | (simp; done) | (simp; omega) | omega)).trans (by simp [go_sem, *]); have cwy_01 : wy.cell? ⟨w.heap.size, 1, none⟩ = some (.string s) := (hb.cell (p := ⟨w.heap.size, 1, none⟩) (by first | assumption | (simp; done) | (simp; omega) | omega)).trans (by simp [go_sem, *]); have zwy_1 : w27.heap.size < wy.heap.size := (by have := hb.size; (try simp at this); omega); have cwy_10 : wy.cell? ⟨w27.heap.size, 0, none⟩ = some (.int .i64 k) := (hb.cell (p := ⟨w27.heap.size, 0, none⟩) (by first | assumption | (simp; done) | (simp; omega) | omega)).trans (by simp [go_sem, *]); have cwy_11 : wy.cell? ⟨w27.heap.size, 1, none⟩ = some (.string s) := (hb.cell (p := ⟨w27.heap.size, 1, none⟩) (by first | assumption | (simp; done) | (simp; omega) | omega)).trans (by simp [go_sem, *]); have zwy_2 : wx.heap.size < wy.heap.size := (by have := hb.size; (try simp at this); omega); have cwy_20 : wy.cell? ⟨wx.heap.size, 0, none⟩ = some (.int .i64 0) := (hb.cell (p := ⟨wx.heap.size, 0, none⟩) (by first | assumption | (simp; done) | (simp; omega) | omega)).trans (by simp [go_sem, *]); have cwy_21 : wy.cell? ⟨wx.heap.size, 1, none⟩ = some (.string s) := (hb.cell (p := ⟨wx.heap.size, 1, none⟩) (by first | assumption | (simp; done) | (simp; omega) | omega)).trans (by simp [go_sem, *]); clear hb; clear HE2))
          | (go_at_call 11; (refine ((HS3.out) _).mono ?_; rintro e x3 ⟨rfl, hb⟩; have bx3 : Hid (Below w.heap.size w x3) := Below.step (bwy.out.alloc bwy.out.size _) hb; have zx3_0 : wx.heap.size < x3.heap.size := (by have := hb.size; (try simp at this); omega); have cx3_00 : x3.cell? ⟨wx.heap.size, 0, none⟩ = some (.int .i64 0) := (hb.cell (p := ⟨wx.heap.size, 0, none⟩) (by first | assumption | (simp; done) | (simp; omega) | omega)).trans (by simp [go_sem, *]); have cx3_01 : x3.cell? ⟨wx.heap.size, 1, none⟩ = some (.string s) := (hb.cell (p := ⟨wx.heap.size, 1, none⟩) (by first | assumption | (simp; done) | (simp; omega) | omega)).trans (by simp [go_sem, *]); have zx3_1 : wy.heap.size < x3.heap.size := (by have := hb.size; (try simp at this); omega); have cx3_10 : x3.cell? ⟨wy.heap.size, 0, none⟩ = some (.int .i64 0) := (hb.cell (p := ⟨wy.heap.size, 0, none⟩) (by first | assumption | (simp; done) | (simp; omega) | omega)).trans (by simp [go_sem, *]); have cx3_11 : x3.cell? ⟨wy.heap.size, 1, none⟩ = some (.string s) := (hb.cell (p := ⟨wy.heap.size, 1, none⟩) (by first | assumption | (simp; done) | (simp; omega) | omega)).trans (by simp [go_sem, *]); clear hb; clear HS3))
          | (go_at_call 11; (refine ((HS4.out) _).mono ?_; rintro e x4 ⟨rfl, hb⟩; have bx4 : Hid (Below w.heap.size w x4) := Below.step (bx3.out) hb; have zx4_0 : wx.heap.size < x4.heap.size := (by have := hb.size; (try simp at this); omega); have cx4_00 : x4.cell? ⟨wx.heap.size, 0, none⟩ = some (.int .i64 0) := (hb.cell (p := ⟨wx.heap.size, 0, none⟩) (by first | assumption | (simp; done) | (simp; omega) | omega)).trans (by simp [go_sem, *]); have cx4_01 : x4.cell? ⟨wx.heap.size, 1, none⟩ = some (.string s) := (hb.cell (p := ⟨wx.heap.size, 1, none⟩) (by first | assumption | (simp; done) | (simp; omega) | omega)).trans (by simp [go_sem, *]); clear hb; clear HS4)))
        go_ret
        exact ⟨rfl, bx4.out⟩
      · obtain ⟨r1, r2, r3⟩ := prf_ref hk hv hn
        have hrl : (refS (k : Int) s.data.toList).length ≤ 2000 := by
          by_cases q : 2000 < (refS (k : Int) s.data.toList).length
          · rw [prfE, if_pos q] at r2; simp at r2
          · omega
        have HR : Hid (∀ w, Calls Try.prog 12 #[.string ⟨(refS (k : Int) s.data.toList).toArray⟩] w fun e w' => e = .returned (.tuple #[.agg #[.int .i64 k, .string s], .int .i64 0]) ∧ Below w.heap.size w w') := fun w => by
          have h := parseRef_any ⟨(refS (k : Int) s.data.toList).toArray⟩ (by rw [mk_size]; unfold maxLen; omega) w
          have e1 : (⟨(refS (k : Int) s.data.toList).toArray⟩ : ByteArray).data.toList = refS (k : Int) s.data.toList := by simp
          rw [e1, r2, r3] at h
          exact h
        rw [r1] at HF
        generalize (⟨(refS (k : Int) s.data.toList).toArray⟩ : ByteArray) = rx at *
        clear r1 r2 r3 hrl hv hl hlen ht hwl hw1 hw2 p1 p2 hsz HS hs h1
        by_cases h0 : k = 0
        · have he : s.toList.isEmpty = false := by
            rw [Lib.toList_data]
            cases q : s.data.toList with
            | nil => exact absurd ⟨h0, q⟩ hn
            | cons => rfl
          have hd0 : ((k : Int) == 0) = true := by rw [beq_iff_eq]; omega
          clear hn h0 hmax hk' hv1
          go_enter Try.func6, Try.ntmps6
          go_wp2_with (first
            | (go_at_call 8; (refine ((HA.out) _).mono ?_; rintro e w8 ⟨rfl, hb⟩; have bw8 : Hid (Below w.heap.size w w8) := Below.step ((Below.refl _ _).alloc (Nat.le_refl _) _) hb; have zw8_0 : w.heap.size < w8.heap.size := (by have := hb.size; (try simp at this); omega); have cw8_00 : w8.cell? ⟨w.heap.size, 0, none⟩ = some (.int .i64 k) := (hb.cell (p := ⟨w.heap.size, 0, none⟩) (by first | assumption | (simp; done) | (simp; omega) | omega)).trans (by simp [go_sem, *]); have cw8_01 : w8.cell? ⟨w.heap.size, 1, none⟩ = some (.string s) := (hb.cell (p := ⟨w.heap.size, 1, none⟩) (by first | assumption | (simp; done) | (simp; omega) | omega)).trans (by simp [go_sem, *]); clear hb))
            | (go_at_call 19; (refine ((HT.out) _).mono ?_; rintro e w19 ⟨rfl, hb⟩; have bw19 : Hid (Below w.heap.size w w19) := Below.step (bw8.out) hb; have zw19_0 : w.heap.size < w19.heap.size := (by have := hb.size; (try simp at this); omega); have cw19_00 : w19.cell? ⟨w.heap.size, 0, none⟩ = some (.int .i64 k) := (hb.cell (p := ⟨w.heap.size, 0, none⟩) (by first | assumption | (simp; done) | (simp; omega) | omega)).trans (by simp [go_sem, *]); have cw19_01 : w19.cell? ⟨w.heap.size, 1, none⟩ = some (.string s) := (hb.cell (p := ⟨w.heap.size, 1, none⟩) (by first | assumption | (simp; done) | (simp; omega) | omega)).trans (by simp [go_sem, *]); clear hb))
            | (go_at_call 21; (refine ((HK.out) _).mono ?_; rintro e w21 ⟨rfl, hb⟩; have bw21 : Hid (Below w.heap.size w w21) := Below.step (bw19.out) hb; have zw21_0 : w.heap.size < w21.heap.size := (by have := hb.size; (try simp at this); omega); have cw21_00 : w21.cell? ⟨w.heap.size, 0, none⟩ = some (.int .i64 k) := (hb.cell (p := ⟨w.heap.size, 0, none⟩) (by first | assumption | (simp; done) | (simp; omega) | omega)).trans (by simp [go_sem, *]); have cw21_01 : w21.cell? ⟨w.heap.size, 1, none⟩ = some (.string s) := (hb.cell (p := ⟨w.heap.size, 1, none⟩) (by first | assumption | (simp; done) | (simp; omega) | omega)).trans (by simp [go_sem, *]); clear hb))
            | (go_at_call 9; (refine ((HP.out) _).mono ?_; rintro e w9 ⟨rfl, hb⟩; have bw9 : Hid (Below w.heap.size w w9) := Below.step (bw21.out) hb; have zw9_0 : w.heap.size < w9.heap.size := (by have := hb.size; (try simp at this); omega); have cw9_00 : w9.cell? ⟨w.heap.size, 0, none⟩ = some (.int .i64 k) := (hb.cell (p := ⟨w.heap.size, 0, none⟩) (by first | assumption | (simp; done) | (simp; omega) | omega)).trans (by simp [go_sem, *]); have cw9_01 : w9.cell? ⟨w.heap.size, 1, none⟩ = some (.string s) := (hb.cell (p := ⟨w.heap.size, 1, none⟩) (by first | assumption | (simp; done) | (simp; omega) | omega)).trans (by simp [go_sem, *]); clear hb))
            | (go_at_call 11; (refine ((HS1.out) _).mono ?_; rintro e x1 ⟨rfl, hb⟩; have bx1 : Hid (Below w.heap.size w x1) := Below.step (bw9.out.alloc bw9.out.size _) hb; have zx1_0 : w.heap.size < x1.heap.size := (by have := hb.size; (try simp at this); omega); have cx1_00 : x1.cell? ⟨w.heap.size, 0, none⟩ = some (.int .i64 k) := (hb.cell (p := ⟨w.heap.size, 0, none⟩) (by first | assumption | (simp; done) | (simp; omega) | omega)).trans (by simp [go_sem, *]); have cx1_01 : x1.cell? ⟨w.heap.size, 1, none⟩ = some (.string s) := (hb.cell (p := ⟨w.heap.size, 1, none⟩) (by first | assumption | (simp; done) | (simp; omega) | omega)).trans (by simp [go_sem, *]); clear hb; clear HS1))
            | (go_at_call 23; (refine ((HF.out) _).mono ?_; rintro e w23 ⟨rfl, hb⟩; have bw23 : Hid (Below w.heap.size w w23) := Below.step (bx1.out) hb; have zw23_0 : w.heap.size < w23.heap.size := (by have := hb.size; (try simp at this); omega); have cw23_00 : w23.cell? ⟨w.heap.size, 0, none⟩ = some (.int .i64 k) := (hb.cell (p := ⟨w.heap.size, 0, none⟩) (by first | assumption | (simp; done) | (simp; omega) | omega)).trans (by simp [go_sem, *]); have cw23_01 : w23.cell? ⟨w.heap.size, 1, none⟩ = some (.string s) := (hb.cell (p := ⟨w.heap.size, 1, none⟩) (by first | assumption | (simp; done) | (simp; omega) | omega)).trans (by simp [go_sem, *]); clear hb))
            | (go_at_call 12; (refine ((HR.out) _).mono ?_; rintro e w12 ⟨rfl, hb⟩; have bw12 : Hid (Below w.heap.size w w12) := Below.step (bw23.out) hb; have zw12_0 : w.heap.size < w12.heap.size := (by have := hb.size; (try simp at this); omega); have cw12_00 : w12.cell? ⟨w.heap.size, 0, none⟩ = some (.int .i64 k) := (hb.cell (p := ⟨w.heap.size, 0, none⟩) (by first | assumption | (simp; done) | (simp; omega) | omega)).trans (by simp [go_sem, *]); have cw12_01 : w12.cell? ⟨w.heap.size, 1, none⟩ = some (.string s) := (hb.cell (p := ⟨w.heap.size, 1, none⟩) (by first | assumption | (simp; done) | (simp; omega) | omega)).trans (by simp [go_sem, *]); clear hb))
            | (go_at_call 11; (refine ((HS2.out) _).mono ?_; rintro e x2 ⟨rfl, hb⟩; have bx2 : Hid (Below w.heap.size w x2) := Below.step (bw12.out.alloc bw12.out.size _) hb; have zx2_0 : w.heap.size < x2.heap.size := (by have := hb.size; (try simp at this); omega); have cx2_00 : x2.cell? ⟨w.heap.size, 0, none⟩ = some (.int .i64 k) := (hb.cell (p := ⟨w.heap.size, 0, none⟩) (by first | assumption | (simp; done) | (simp; omega) | omega)).trans (by simp [go_sem, *]); have cx2_01 : x2.cell? ⟨w.heap.size, 1, none⟩ = some (.string s) := (hb.cell (p := ⟨w.heap.size, 1, none⟩) (by first | assumption | (simp; done) | (simp; omega) | omega)).trans (by simp [go_sem, *]); clear hb; clear HS2))
            | (go_at_call 25; (refine ((HY.out) _).mono ?_; rintro e w25 ⟨rfl, hb⟩; have bw25 : Hid (Below w.heap.size w w25) := Below.step (bx2.out) hb; have zw25_0 : w.heap.size < w25.heap.size := (by have := hb.size; (try simp at this); omega); have cw25_00 : w25.cell? ⟨w.heap.size, 0, none⟩ = some (.int .i64 k) := (hb.cell (p := ⟨w.heap.size, 0, none⟩) (by first | assumption | (simp; done) | (simp; omega) | omega)).trans (by simp [go_sem, *]); have cw25_01 : w25.cell? ⟨w.heap.size, 1, none⟩ = some (.string s) := (hb.cell (p := ⟨w.heap.size, 1, none⟩) (by first | assumption | (simp; done) | (simp; omega) | omega)).trans (by simp [go_sem, *]); clear hb))
            | (go_at_call 27; (refine ((HC.out) _).mono ?_; rintro e w27 ⟨rfl, hb⟩; have bw27 : Hid (Below w.heap.size w w27) := Below.step (bw25.out.alloc bw25.out.size _) hb; have zw27_0 : w.heap.size < w27.heap.size := (by have := hb.size; (try simp at this); omega); have cw27_00 : w27.cell? ⟨w.heap.size, 0, none⟩ = some (.int .i64 k) := (hb.cell (p := ⟨w.heap.size, 0, none⟩) (by first | assumption | (simp; done) | (simp; omega) | omega)).trans (by simp [go_sem, *]); have cw27_01 : w27.cell? ⟨w.heap.size, 1, none⟩ = some (.string s) := (hb.cell (p := ⟨w.heap.size, 1, none⟩) (by first | assumption | (simp; done) | (simp; omega) | omega)).trans (by simp [go_sem, *]); have zw27_1 : w25.heap.size < w27.heap.size := (by have := hb.size; (try simp at this); omega); have cw27_10 : w27.cell? ⟨w25.heap.size, 0, none⟩ = some (.int .i64 (k + 1)) := (hb.cell (p := ⟨w25.heap.size, 0, none⟩) (by first | assumption | (simp; done) | (simp; omega) | omega)).trans (by simp [go_sem, *]); have cw27_11 : w27.cell? ⟨w25.heap.size, 1, none⟩ = some (.string s) := (hb.cell (p := ⟨w25.heap.size, 1, none⟩) (by first | assumption | (simp; done) | (simp; omega) | omega)).trans (by simp [go_sem, *]); clear hb))
            | (go_at_call 29; (refine ((HE1.out) _).mono ?_; rintro e wx ⟨rfl, hb⟩; have bwx : Hid (Below w.heap.size w wx) := Below.step (bw27.out.alloc bw27.out.size _) hb; have zwx_0 : w.heap.size < wx.heap.size := (by have := hb.size; (try simp at this); omega); have cwx_00 : wx.cell? ⟨w.heap.size, 0, none⟩ = some (.int .i64 k) := (hb.cell (p := ⟨w.heap.size, 0, none⟩) (by first | assumption | (simp; done) | (simp; omega) | omega)).trans (by simp [go_sem, *]); have cwx_01 : wx.cell? ⟨w.heap.size, 1, none⟩ = some (.string s) := (hb.cell (p := ⟨w.heap.size, 1, none⟩) (by first | assumption | (simp; done) | (simp; omega) | omega)).trans (by simp [go_sem, *]); have zwx_1 : w27.heap.size < wx.heap.size := (by have := hb.size; (try simp at this); omega); have cwx_10 : wx.cell? ⟨w27.heap.size, 0, none⟩ = some (.int .i64 k) := (hb.cell (p := ⟨w27.heap.size, 0, none⟩) (by first | assumption | (simp; done) | (simp; omega) | omega)).trans (by simp [go_sem, *]); have cwx_11 : wx.cell? ⟨w27.heap.size, 1, none⟩ = some (.string s) := (hb.cell (p := ⟨w27.heap.size, 1, none⟩) (by first | assumption | (simp; done) | (simp; omega) | omega)).trans (by simp [go_sem, *]); clear hb; clear HE1))
            | (go_at_call 29; (refine ((HE2.out) _).mono ?_; rintro e wy ⟨rfl, hb⟩; have bwy : Hid (Below w.heap.size w wy) := Below.step (bwx.out.alloc bwx.out.size _) hb; have zwy_0 : w.heap.size < wy.heap.size := (by have := hb.size; (try simp at this); omega); have cwy_00 : wy.cell? ⟨w.heap.size, 0, none⟩ = some (.int .i64 k) := (hb.cell (p := ⟨w.heap.size, 0, none⟩) (by first | assumption | (simp; done) | (simp; omega) | omega)).trans (by simp [go_sem, *]); have cwy_01 : wy.cell? ⟨w.heap.size, 1, none⟩ = some (.string s) := (hb.cell (p := ⟨w.heap.size, 1, none⟩) (by first | assumption | (simp; done) | (simp; omega) | omega)).trans (by simp [go_sem, *]); have zwy_1 : w27.heap.size < wy.heap.size := (by have := hb.size; (try simp at this); omega); have cwy_10 : wy.cell? ⟨w27.heap.size, 0, none⟩ = some (.int .i64 k) := (hb.cell (p := ⟨w27.heap.size, 0, none⟩) (by first | assumption | (simp; done) | (simp; omega) | omega)).trans (by simp [go_sem, *]); have cwy_11 : wy.cell? ⟨w27.heap.size, 1, none⟩ = some (.string s) := (hb.cell (p := ⟨w27.heap.size, 1, none⟩) (by first | assumption | (simp; done) | (simp; omega) | omega)).trans (by simp [go_sem, *]); have zwy_2 : wx.heap.size < wy.heap.size := (by have := hb.size; (try simp at this); omega); have cwy_20 : wy.cell? ⟨wx.heap.size, 0, none⟩ = some (.int .i64 0) := (hb.cell (p := ⟨wx.heap.size, 0, none⟩) (by first | assumption | (simp; done) | (simp; omega) | omega)).trans (by simp [go_sem, *]); have cwy_21 : wy.cell? ⟨wx.heap.size, 1, none⟩ = some (.string s) := (hb.cell (p := ⟨wx.heap.size, 1, none⟩) (by first | assumption | (simp; done) | (simp; omega) | omega)).trans (by simp [go_sem, *]); clear hb; clear HE2))
            | (go_at_call 11; (refine ((HS3.out) _).mono ?_; rintro e x3 ⟨rfl, hb⟩; have bx3 : Hid (Below w.heap.size w x3) := Below.step (bwy.out.alloc bwy.out.size _) hb; have zx3_0 : wx.heap.size < x3.heap.size := (by have := hb.size; (try simp at this); omega); have cx3_00 : x3.cell? ⟨wx.heap.size, 0, none⟩ = some (.int .i64 0) := (hb.cell (p := ⟨wx.heap.size, 0, none⟩) (by first | assumption | (simp; done) | (simp; omega) | omega)).trans (by simp [go_sem, *]); have cx3_01 : x3.cell? ⟨wx.heap.size, 1, none⟩ = some (.string s) := (hb.cell (p := ⟨wx.heap.size, 1, none⟩) (by first | assumption | (simp; done) | (simp; omega) | omega)).trans (by simp [go_sem, *]); have zx3_1 : wy.heap.size < x3.heap.size := (by have := hb.size; (try simp at this); omega); have cx3_10 : x3.cell? ⟨wy.heap.size, 0, none⟩ = some (.int .i64 0) := (hb.cell (p := ⟨wy.heap.size, 0, none⟩) (by first | assumption | (simp; done) | (simp; omega) | omega)).trans (by simp [go_sem, *]); have cx3_11 : x3.cell? ⟨wy.heap.size, 1, none⟩ = some (.string s) := (hb.cell (p := ⟨wy.heap.size, 1, none⟩) (by first | assumption | (simp; done) | (simp; omega) | omega)).trans (by simp [go_sem, *]); clear hb; clear HS3))
            | (go_at_call 11; (refine ((HS4.out) _).mono ?_; rintro e x4 ⟨rfl, hb⟩; have bx4 : Hid (Below w.heap.size w x4) := Below.step (bx3.out) hb; have zx4_0 : wx.heap.size < x4.heap.size := (by have := hb.size; (try simp at this); omega); have cx4_00 : x4.cell? ⟨wx.heap.size, 0, none⟩ = some (.int .i64 0) := (hb.cell (p := ⟨wx.heap.size, 0, none⟩) (by first | assumption | (simp; done) | (simp; omega) | omega)).trans (by simp [go_sem, *]); have cx4_01 : x4.cell? ⟨wx.heap.size, 1, none⟩ = some (.string s) := (hb.cell (p := ⟨wx.heap.size, 1, none⟩) (by first | assumption | (simp; done) | (simp; omega) | omega)).trans (by simp [go_sem, *]); clear hb; clear HS4)))
          go_ret
          exact ⟨rfl, bx4.out⟩
        · have hd0 : ((k : Int) == 0) = false := by rw [beq_eq_false_iff_ne]; omega
          clear hn h0 hmax hk' hv1
          go_enter Try.func6, Try.ntmps6
          go_wp2_with (first
            | (go_at_call 8; (refine ((HA.out) _).mono ?_; rintro e w8 ⟨rfl, hb⟩; have bw8 : Hid (Below w.heap.size w w8) := Below.step ((Below.refl _ _).alloc (Nat.le_refl _) _) hb; have zw8_0 : w.heap.size < w8.heap.size := (by have := hb.size; (try simp at this); omega); have cw8_00 : w8.cell? ⟨w.heap.size, 0, none⟩ = some (.int .i64 k) := (hb.cell (p := ⟨w.heap.size, 0, none⟩) (by first | assumption | (simp; done) | (simp; omega) | omega)).trans (by simp [go_sem, *]); have cw8_01 : w8.cell? ⟨w.heap.size, 1, none⟩ = some (.string s) := (hb.cell (p := ⟨w.heap.size, 1, none⟩) (by first | assumption | (simp; done) | (simp; omega) | omega)).trans (by simp [go_sem, *]); clear hb))
            | (go_at_call 19; (refine ((HT.out) _).mono ?_; rintro e w19 ⟨rfl, hb⟩; have bw19 : Hid (Below w.heap.size w w19) := Below.step (bw8.out) hb; have zw19_0 : w.heap.size < w19.heap.size := (by have := hb.size; (try simp at this); omega); have cw19_00 : w19.cell? ⟨w.heap.size, 0, none⟩ = some (.int .i64 k) := (hb.cell (p := ⟨w.heap.size, 0, none⟩) (by first | assumption | (simp; done) | (simp; omega) | omega)).trans (by simp [go_sem, *]); have cw19_01 : w19.cell? ⟨w.heap.size, 1, none⟩ = some (.string s) := (hb.cell (p := ⟨w.heap.size, 1, none⟩) (by first | assumption | (simp; done) | (simp; omega) | omega)).trans (by simp [go_sem, *]); clear hb))
            | (go_at_call 21; (refine ((HK.out) _).mono ?_; rintro e w21 ⟨rfl, hb⟩; have bw21 : Hid (Below w.heap.size w w21) := Below.step (bw19.out) hb; have zw21_0 : w.heap.size < w21.heap.size := (by have := hb.size; (try simp at this); omega); have cw21_00 : w21.cell? ⟨w.heap.size, 0, none⟩ = some (.int .i64 k) := (hb.cell (p := ⟨w.heap.size, 0, none⟩) (by first | assumption | (simp; done) | (simp; omega) | omega)).trans (by simp [go_sem, *]); have cw21_01 : w21.cell? ⟨w.heap.size, 1, none⟩ = some (.string s) := (hb.cell (p := ⟨w.heap.size, 1, none⟩) (by first | assumption | (simp; done) | (simp; omega) | omega)).trans (by simp [go_sem, *]); clear hb))
            | (go_at_call 9; (refine ((HP.out) _).mono ?_; rintro e w9 ⟨rfl, hb⟩; have bw9 : Hid (Below w.heap.size w w9) := Below.step (bw21.out) hb; have zw9_0 : w.heap.size < w9.heap.size := (by have := hb.size; (try simp at this); omega); have cw9_00 : w9.cell? ⟨w.heap.size, 0, none⟩ = some (.int .i64 k) := (hb.cell (p := ⟨w.heap.size, 0, none⟩) (by first | assumption | (simp; done) | (simp; omega) | omega)).trans (by simp [go_sem, *]); have cw9_01 : w9.cell? ⟨w.heap.size, 1, none⟩ = some (.string s) := (hb.cell (p := ⟨w.heap.size, 1, none⟩) (by first | assumption | (simp; done) | (simp; omega) | omega)).trans (by simp [go_sem, *]); clear hb))
            | (go_at_call 11; (refine ((HS1.out) _).mono ?_; rintro e x1 ⟨rfl, hb⟩; have bx1 : Hid (Below w.heap.size w x1) := Below.step (bw9.out.alloc bw9.out.size _) hb; have zx1_0 : w.heap.size < x1.heap.size := (by have := hb.size; (try simp at this); omega); have cx1_00 : x1.cell? ⟨w.heap.size, 0, none⟩ = some (.int .i64 k) := (hb.cell (p := ⟨w.heap.size, 0, none⟩) (by first | assumption | (simp; done) | (simp; omega) | omega)).trans (by simp [go_sem, *]); have cx1_01 : x1.cell? ⟨w.heap.size, 1, none⟩ = some (.string s) := (hb.cell (p := ⟨w.heap.size, 1, none⟩) (by first | assumption | (simp; done) | (simp; omega) | omega)).trans (by simp [go_sem, *]); clear hb; clear HS1))
            | (go_at_call 23; (refine ((HF.out) _).mono ?_; rintro e w23 ⟨rfl, hb⟩; have bw23 : Hid (Below w.heap.size w w23) := Below.step (bx1.out) hb; have zw23_0 : w.heap.size < w23.heap.size := (by have := hb.size; (try simp at this); omega); have cw23_00 : w23.cell? ⟨w.heap.size, 0, none⟩ = some (.int .i64 k) := (hb.cell (p := ⟨w.heap.size, 0, none⟩) (by first | assumption | (simp; done) | (simp; omega) | omega)).trans (by simp [go_sem, *]); have cw23_01 : w23.cell? ⟨w.heap.size, 1, none⟩ = some (.string s) := (hb.cell (p := ⟨w.heap.size, 1, none⟩) (by first | assumption | (simp; done) | (simp; omega) | omega)).trans (by simp [go_sem, *]); clear hb))
            | (go_at_call 12; (refine ((HR.out) _).mono ?_; rintro e w12 ⟨rfl, hb⟩; have bw12 : Hid (Below w.heap.size w w12) := Below.step (bw23.out) hb; have zw12_0 : w.heap.size < w12.heap.size := (by have := hb.size; (try simp at this); omega); have cw12_00 : w12.cell? ⟨w.heap.size, 0, none⟩ = some (.int .i64 k) := (hb.cell (p := ⟨w.heap.size, 0, none⟩) (by first | assumption | (simp; done) | (simp; omega) | omega)).trans (by simp [go_sem, *]); have cw12_01 : w12.cell? ⟨w.heap.size, 1, none⟩ = some (.string s) := (hb.cell (p := ⟨w.heap.size, 1, none⟩) (by first | assumption | (simp; done) | (simp; omega) | omega)).trans (by simp [go_sem, *]); clear hb))
            | (go_at_call 11; (refine ((HS2.out) _).mono ?_; rintro e x2 ⟨rfl, hb⟩; have bx2 : Hid (Below w.heap.size w x2) := Below.step (bw12.out.alloc bw12.out.size _) hb; have zx2_0 : w.heap.size < x2.heap.size := (by have := hb.size; (try simp at this); omega); have cx2_00 : x2.cell? ⟨w.heap.size, 0, none⟩ = some (.int .i64 k) := (hb.cell (p := ⟨w.heap.size, 0, none⟩) (by first | assumption | (simp; done) | (simp; omega) | omega)).trans (by simp [go_sem, *]); have cx2_01 : x2.cell? ⟨w.heap.size, 1, none⟩ = some (.string s) := (hb.cell (p := ⟨w.heap.size, 1, none⟩) (by first | assumption | (simp; done) | (simp; omega) | omega)).trans (by simp [go_sem, *]); clear hb; clear HS2))
            | (go_at_call 25; (refine ((HY.out) _).mono ?_; rintro e w25 ⟨rfl, hb⟩; have bw25 : Hid (Below w.heap.size w w25) := Below.step (bx2.out) hb; have zw25_0 : w.heap.size < w25.heap.size := (by have := hb.size; (try simp at this); omega); have cw25_00 : w25.cell? ⟨w.heap.size, 0, none⟩ = some (.int .i64 k) := (hb.cell (p := ⟨w.heap.size, 0, none⟩) (by first | assumption | (simp; done) | (simp; omega) | omega)).trans (by simp [go_sem, *]); have cw25_01 : w25.cell? ⟨w.heap.size, 1, none⟩ = some (.string s) := (hb.cell (p := ⟨w.heap.size, 1, none⟩) (by first | assumption | (simp; done) | (simp; omega) | omega)).trans (by simp [go_sem, *]); clear hb))
            | (go_at_call 27; (refine ((HC.out) _).mono ?_; rintro e w27 ⟨rfl, hb⟩; have bw27 : Hid (Below w.heap.size w w27) := Below.step (bw25.out.alloc bw25.out.size _) hb; have zw27_0 : w.heap.size < w27.heap.size := (by have := hb.size; (try simp at this); omega); have cw27_00 : w27.cell? ⟨w.heap.size, 0, none⟩ = some (.int .i64 k) := (hb.cell (p := ⟨w.heap.size, 0, none⟩) (by first | assumption | (simp; done) | (simp; omega) | omega)).trans (by simp [go_sem, *]); have cw27_01 : w27.cell? ⟨w.heap.size, 1, none⟩ = some (.string s) := (hb.cell (p := ⟨w.heap.size, 1, none⟩) (by first | assumption | (simp; done) | (simp; omega) | omega)).trans (by simp [go_sem, *]); have zw27_1 : w25.heap.size < w27.heap.size := (by have := hb.size; (try simp at this); omega); have cw27_10 : w27.cell? ⟨w25.heap.size, 0, none⟩ = some (.int .i64 (k + 1)) := (hb.cell (p := ⟨w25.heap.size, 0, none⟩) (by first | assumption | (simp; done) | (simp; omega) | omega)).trans (by simp [go_sem, *]); have cw27_11 : w27.cell? ⟨w25.heap.size, 1, none⟩ = some (.string s) := (hb.cell (p := ⟨w25.heap.size, 1, none⟩) (by first | assumption | (simp; done) | (simp; omega) | omega)).trans (by simp [go_sem, *]); clear hb))
            | (go_at_call 29; (refine ((HE1.out) _).mono ?_; rintro e wx ⟨rfl, hb⟩; have bwx : Hid (Below w.heap.size w wx) := Below.step (bw27.out.alloc bw27.out.size _) hb; have zwx_0 : w.heap.size < wx.heap.size := (by have := hb.size; (try simp at this); omega); have cwx_00 : wx.cell? ⟨w.heap.size, 0, none⟩ = some (.int .i64 k) := (hb.cell (p := ⟨w.heap.size, 0, none⟩) (by first | assumption | (simp; done) | (simp; omega) | omega)).trans (by simp [go_sem, *]); have cwx_01 : wx.cell? ⟨w.heap.size, 1, none⟩ = some (.string s) := (hb.cell (p := ⟨w.heap.size, 1, none⟩) (by first | assumption | (simp; done) | (simp; omega) | omega)).trans (by simp [go_sem, *]); have zwx_1 : w27.heap.size < wx.heap.size := (by have := hb.size; (try simp at this); omega); have cwx_10 : wx.cell? ⟨w27.heap.size, 0, none⟩ = some (.int .i64 k) := (hb.cell (p := ⟨w27.heap.size, 0, none⟩) (by first | assumption | (simp; done) | (simp; omega) | omega)).trans (by simp [go_sem, *]); have cwx_11 : wx.cell? ⟨w27.heap.size, 1, none⟩ = some (.string s) := (hb.cell (p := ⟨w27.heap.size, 1, none⟩) (by first | assumption | (simp; done) | (simp; omega) | omega)).trans (by simp [go_sem, *]); clear hb; clear HE1))
            | (go_at_call 29; (refine ((HE2.out) _).mono ?_; rintro e wy ⟨rfl, hb⟩; have bwy : Hid (Below w.heap.size w wy) := Below.step (bwx.out.alloc bwx.out.size _) hb; have zwy_0 : w.heap.size < wy.heap.size := (by have := hb.size; (try simp at this); omega); have cwy_00 : wy.cell? ⟨w.heap.size, 0, none⟩ = some (.int .i64 k) := (hb.cell (p := ⟨w.heap.size, 0, none⟩) (by first | assumption | (simp; done) | (simp; omega) | omega)).trans (by simp [go_sem, *]); have cwy_01 : wy.cell? ⟨w.heap.size, 1, none⟩ = some (.string s) := (hb.cell (p := ⟨w.heap.size, 1, none⟩) (by first | assumption | (simp; done) | (simp; omega) | omega)).trans (by simp [go_sem, *]); have zwy_1 : w27.heap.size < wy.heap.size := (by have := hb.size; (try simp at this); omega); have cwy_10 : wy.cell? ⟨w27.heap.size, 0, none⟩ = some (.int .i64 k) := (hb.cell (p := ⟨w27.heap.size, 0, none⟩) (by first | assumption | (simp; done) | (simp; omega) | omega)).trans (by simp [go_sem, *]); have cwy_11 : wy.cell? ⟨w27.heap.size, 1, none⟩ = some (.string s) := (hb.cell (p := ⟨w27.heap.size, 1, none⟩) (by first | assumption | (simp; done) | (simp; omega) | omega)).trans (by simp [go_sem, *]); have zwy_2 : wx.heap.size < wy.heap.size := (by have := hb.size; (try simp at this); omega); have cwy_20 : wy.cell? ⟨wx.heap.size, 0, none⟩ = some (.int .i64 0) := (hb.cell (p := ⟨wx.heap.size, 0, none⟩) (by first | assumption | (simp; done) | (simp; omega) | omega)).trans (by simp [go_sem, *]); have cwy_21 : wy.cell? ⟨wx.heap.size, 1, none⟩ = some (.string s) := (hb.cell (p := ⟨wx.heap.size, 1, none⟩) (by first | assumption | (simp; done) | (simp; omega) | omega)).trans (by simp [go_sem, *]); clear hb; clear HE2))
            | (go_at_call 11; (refine ((HS3.out) _).mono ?_; rintro e x3 ⟨rfl, hb⟩; have bx3 : Hid (Below w.heap.size w x3) := Below.step (bwy.out.alloc bwy.out.size _) hb; have zx3_0 : wx.heap.size < x3.heap.size := (by have := hb.size; (try simp at this); omega); have cx3_00 : x3.cell? ⟨wx.heap.size, 0, none⟩ = some (.int .i64 0) := (hb.cell (p := ⟨wx.heap.size, 0, none⟩) (by first | assumption | (simp; done) | (simp; omega) | omega)).trans (by simp [go_sem, *]); have cx3_01 : x3.cell? ⟨wx.heap.size, 1, none⟩ = some (.string s) := (hb.cell (p := ⟨wx.heap.size, 1, none⟩) (by first | assumption | (simp; done) | (simp; omega) | omega)).trans (by simp [go_sem, *]); have zx3_1 : wy.heap.size < x3.heap.size := (by have := hb.size; (try simp at this); omega); have cx3_10 : x3.cell? ⟨wy.heap.size, 0, none⟩ = some (.int .i64 0) := (hb.cell (p := ⟨wy.heap.size, 0, none⟩) (by first | assumption | (simp; done) | (simp; omega) | omega)).trans (by simp [go_sem, *]); have cx3_11 : x3.cell? ⟨wy.heap.size, 1, none⟩ = some (.string s) := (hb.cell (p := ⟨wy.heap.size, 1, none⟩) (by first | assumption | (simp; done) | (simp; omega) | omega)).trans (by simp [go_sem, *]); clear hb; clear HS3))
            | (go_at_call 11; (refine ((HS4.out) _).mono ?_; rintro e x4 ⟨rfl, hb⟩; have bx4 : Hid (Below w.heap.size w x4) := Below.step (bx3.out) hb; have zx4_0 : wx.heap.size < x4.heap.size := (by have := hb.size; (try simp at this); omega); have cx4_00 : x4.cell? ⟨wx.heap.size, 0, none⟩ = some (.int .i64 0) := (hb.cell (p := ⟨wx.heap.size, 0, none⟩) (by first | assumption | (simp; done) | (simp; omega) | omega)).trans (by simp [go_sem, *]); have cx4_01 : x4.cell? ⟨wx.heap.size, 1, none⟩ = some (.string s) := (hb.cell (p := ⟨wx.heap.size, 1, none⟩) (by first | assumption | (simp; done) | (simp; omega) | omega)).trans (by simp [go_sem, *]); clear hb; clear HS4)))
          go_ret
          exact ⟨rfl, bx4.out⟩

theorem typesBack_own : ownKnob Try.prog.godebug = none := by kernel_rfl
theorem typesBack_cells : Try.prog.cellsOf 24 = 2 := by kernel_rfl

set_option linter.unusedVariables false in
set_option maxRecDepth 100000 in
theorem typesBack_lifted (os : Os) (started : os.Started) (H : Type) (enc : TypeId × Value → H) :
    ReturnsInHanded {} Try.checked os 6 .any (Rows.typesBackSpec.pre6 enc Try.prog Try.f6 Rows.typesBackRow.domain false) (Rows.typesBackSpec.post enc Try.prog Try.f6 false true false false) := by
  refine returnsInHanded_of_change (C := Try.checked) typesBack_own started (by kernel_rfl) Try.func6
    (ChangeSpec.witness6 (enc := enc) (C := Try.checked) false ⟨#[], #[.agg #[.int .i64 0, .string ByteArray.empty]], []⟩ 8 (by kernel_rfl) (by kernel_rfl) (by kernel_rfl) (by kernel_rfl)) ?_
  intro W base args ds gs before hval0 hW hcnd _
  have hval : ∀ (j : Nat) t v, Try.f6.params[j]? = some t → args[j]? = some v → Value.okWide Try.prog W .any base t v := hval0
  have hW' := hW
  obtain ⟨p, q, hA0, hV, rfl, hfz, hnd⟩ := hW
  have hA : DataW.TrodAll enc Try.prog W 0 (fun _ => true) true Try.f6.params.toList args.toList ds p := hA0
  rw [Try.params6] at hA hval
  obtain ⟨v0, d0, rfl, rfl, h0⟩ := trodAll_one hA
  obtain ⟨rfl, rfl⟩ := trodVars_none hV
  obtain ⟨c0, c1, y0, y1, m, rfl, rfl, rfl, hy0, hy1⟩ := open_agg2 Try.underlying24 (by kernel_rfl) typesBack_cells (hval 0 24 v0 rfl rfl) h0
  obtain ⟨a, e0, rfl, wa⟩ := DataW.trod_int Try.underlying3 hy0
  obtain ⟨b, e1, rfl, wb⟩ := DataW.trod_string Try.underlying9 hy1
  simp at e0 e1
  subst e0 e1
  clear hA0 hval0
  simp only [List.append_nil] at hW'
  have structReads : ∀ (W' : World) (sp : Nat → Bool), DataW.Trod enc Try.prog W' 0 sp true 24 (.agg #[.int .i64 a, .string b]) (.agg [.lit (.int .i64 a), .lit (.string b.data.toList)]) [] := fun W' sp =>
    shut_agg2 (y0 := (.lit (.int .i64 a), [])) (y1 := (.lit (.string b.data.toList), [])) Try.underlying24 (by kernel_rfl) typesBack_cells ⟨1, by simp [DataW.trod, Try.underlying3, wa]⟩ ⟨1, by simp [DataW.trod, Try.underlying9, wb]⟩
  refine (typesBack_walk a b wb W).mono fun e W' ⟨he, bel⟩ => ?_
  subst he
  exact ⟨_, rfl, _, _, _, [], [], [], hW', trodAll_mk1 (shut_bool Try.underlying4 _), trodAll_mk1 (structReads _ _), rfl, bel.frame _, fun h => by cases h⟩

theorem typesBack_over : Rows.typesBackRow.holds Try.pinned (OpenSpec.ofChange Rows.typesBackSpec) :=
  OpenClaim.holds_of_wide 6 Try.f6 rfl rfl rfl rfl rfl rfl rfl ⟨rfl, rfl, rfl, rfl, rfl⟩ rfl rfl rfl rfl rfl (by kernel_rfl) Try.func6 (by kernel_rfl)
    (of_decide_eq_true (by kernel_rfl)) (by unfold Func.isWrapper; first | (rw [if_pos (by decide +kernel)]; kernel_rfl) | (rw [if_neg (by decide +kernel)]; exact ⟨rfl, rfl⟩))
    (fun os started H enc _ => typesBack_lifted os started H enc)

/-- THE STATEMENT -/
theorem typesBack_holds : Rows.TypesBackSaid :=
  typesBack_over
#print axioms typesBack_holds

end Go.Proofs.Ytaljppicmookeaa
