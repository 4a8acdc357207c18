/- Walks of arbiterref02's Text, RefText, ArrayOf, Component and Element: each returns what the plain functions say; what was there before stays. -/
import Derived.Test.YtaljppicmookeaaTypesRef
namespace Go.Proofs.Ytaljppicmookeaa
open Go.RowKit

theorem snd_nat {d : Int} {l : List UInt8} (h : sndB d l = true) : ∃ k : Nat, d = k ∧ k ≤ 255 := by
  unfold sndB at h
  simp at h
  exact ⟨d.toNat, by omega, by omega⟩
theorem snd_len {d : Int} {l : List UInt8} (h : sndB d l = true) : l.length ≤ 60 := by
  unfold sndB at h
  simp only [Bool.and_eq_true, Bool.or_eq_true] at h
  rcases h.2 with e | e
  · rw [List.isEmpty_iff.1 e]; simp
  · exact valid_len e

/-- the text of a type, or nothing -/
def textS (d : Int) (l : List UInt8) : List UInt8 := if sndB d l then writeT (d.toNat, l) else []

set_option maxHeartbeats 400000 in
theorem rText_any (d : Int) (s : ByteArray) (hs : s.size ≤ maxLen) (w : World) :
    Calls Try.prog 20 #[.agg #[.int .i64 d, .string s]] w fun e w' => e = .returned (.tuple #[.string ⟨(textS d s.data.toList).toArray⟩, .int .i64 (chkI (sndB d s.data.toList))]) ∧ Below w.heap.size w w' := by
  have HC : Hid (∀ w, _) := rCheck_any d s hs
  cases hv : sndB d s.data.toList with
  | false =>
    rw [hv] at HC
    have HT : Hid (textS d s.data.toList = []) := by rw [Hid, textS, hv]; rfl
    have h1 : chkI false = 1 := rfl
    rw [h1] at HC ⊢
    clear hv h1
    go_enter Try.func20, Try.ntmps20
    go_wp2_with (go_at_call 22; refine ((HC.out) _).mono ?_; rintro e w1 ⟨rfl, hb1⟩)
    go_ret2
    exact ⟨by rw [HT.out]; rfl, Below.step ((Below.refl _ _).alloc (Nat.le_refl _) _) (by assumption)⟩
  | true =>
    obtain ⟨k, rfl, hk⟩ := snd_nat hv
    have hl := snd_len hv
    have hz : s.data.toList.length = s.size := by simp
    have HT : Hid (textS k s.data.toList = writeT (k, s.data.toList)) := by rw [Hid, textS, hv]; simp
    have HW : Hid (∀ w, _) := written_any k hk s (by omega)
    rw [hv] at HC
    have h1 : chkI true = 0 := rfl
    rw [h1] at HC ⊢
    clear hv h1 hl hz
    go_enter Try.func20, Try.ntmps20
    go_wp2_with (first
      | (go_at_call 22; refine ((HC.out) _).mono ?_; rintro e w1 ⟨rfl, hb1⟩; have hc0 := hb1.cell (p := ⟨w.heap.size, 0, none⟩) (by simp); have hc1 := hb1.cell (p := ⟨w.heap.size, 1, none⟩) (by simp))
      | (go_at_call 45; refine ((HW.out) _).mono ?_; rintro e w2 ⟨rfl, hb2⟩))
    go_ret2
    have hb9 : Below w.heap.size w w1 := Below.step ((Below.refl _ _).alloc (Nat.le_refl _) _) hb1
    exact ⟨by rw [HT.out]; rfl, Below.step hb9 (by assumption)⟩

/-- the error of ArrayOf, of Component -/
def arrE (d : Int) (l : List UInt8) : Int := if sndB d l then (if d = 255 then 5 else 0) else 1
def cmpE (d : Int) (l : List UInt8) : Int := if sndB d l then (if d = 0 then 6 else 0) else 1
/-- beside an error: the zero type -/
def outD (e x : Int) : Int := if e = 0 then x else 0
def outS (e : Int) (s : ByteArray) : ByteArray := if e = 0 then s else ⟨#[]⟩

def chkE (d : Int) (l : List UInt8) : Int := chkI (sndB d l)

set_option maxHeartbeats 1000000 in
theorem rElement_any (d : Int) (s : ByteArray) (hs : s.size ≤ maxLen) (w : World) :
    Calls Try.prog 30 #[.agg #[.int .i64 d, .string s]] w fun e w' => e = .returned (.tuple #[.agg #[.int .i64 (outD (chkE d s.data.toList) 0), .string (outS (chkE d s.data.toList) s)], .int .i64 (chkE d s.data.toList)]) ∧ Below w.heap.size w w' := by
  have HC : Hid (∀ w, _) := rCheck_any d s hs
  have HQ : Hid (chkE d s.data.toList = chkI (sndB d s.data.toList)) := rfl
  generalize chkE d s.data.toList = x at *
  cases hv : sndB d s.data.toList with
  | false =>
    rw [hv] at HC HQ
    have h1 : chkI false = 1 := rfl
    rw [h1] at HC HQ
    have HR : Hid (x = 1) := HQ
    clear hv h1 HQ
    go_enter Try.func30, Try.ntmps30
    go_wp2_with (first
      | (go_at_call 22; refine ((HC.out) _).mono ?_; rintro e w1 ⟨rfl, hb1⟩; have hc0 := hb1.cell (p := ⟨w.heap.size, 0, none⟩) (by first | (simp; done) | (simp; omega)); have hc1 := hb1.cell (p := ⟨w.heap.size, 1, none⟩) (by first | (simp; done) | (simp; omega)); have hr0 := hb1.cell (p := ⟨w.heap.size + 1, 0, none⟩) (by first | (simp; done) | (simp; omega)); have hr1 := hb1.cell (p := ⟨w.heap.size + 1, 1, none⟩) (by first | (simp; done) | (simp; omega)); have hf0 := hb1.frozen (p := ⟨w.heap.size + 1, 0, none⟩) (by first | (simp; done) | (simp; omega)); have hf1 := hb1.frozen (p := ⟨w.heap.size + 1, 1, none⟩) (by first | (simp; done) | (simp; omega)); have hz1 := hb1.size))
    refine bodyPost_ret (v := .tuple #[.agg #[.int .i64 0, .string ⟨#[]⟩], .int .i64 1]) (by simp [results, Try.results30, go_sem, *]) rfl ⟨?_, ?_⟩
    · rw [HR.out]; rfl
    · have hb9 : Below w.heap.size w w1 := Below.step (((Below.refl _ _).alloc (Nat.le_refl _) _).alloc (by simp) _) hb1
      exact (hb9.setCell (by show w.heap.size ≤ w.heap.size + 1; omega) _).setCell (by show w.heap.size ≤ w.heap.size + 1; omega) _
  | true =>
    rw [hv] at HC HQ
    have h1 : chkI true = 0 := rfl
    rw [h1] at HC HQ
    have HR : Hid (x = 0) := HQ
    clear hv h1 HQ
    go_enter Try.func30, Try.ntmps30
    go_wp2_with (first
      | (go_at_call 22; refine ((HC.out) _).mono ?_; rintro e w1 ⟨rfl, hb1⟩; have hc0 := hb1.cell (p := ⟨w.heap.size, 0, none⟩) (by first | (simp; done) | (simp; omega)); have hc1 := hb1.cell (p := ⟨w.heap.size, 1, none⟩) (by first | (simp; done) | (simp; omega)); have hr0 := hb1.cell (p := ⟨w.heap.size + 1, 0, none⟩) (by first | (simp; done) | (simp; omega)); have hr1 := hb1.cell (p := ⟨w.heap.size + 1, 1, none⟩) (by first | (simp; done) | (simp; omega)); have hf0 := hb1.frozen (p := ⟨w.heap.size + 1, 0, none⟩) (by first | (simp; done) | (simp; omega)); have hf1 := hb1.frozen (p := ⟨w.heap.size + 1, 1, none⟩) (by first | (simp; done) | (simp; omega)); have hz1 := hb1.size))
    refine bodyPost_ret (v := .tuple #[.agg #[.int .i64 0, .string s], .int .i64 0]) (by simp [results, Try.results30, go_sem, *]) rfl ⟨?_, ?_⟩
    · rw [HR.out]; rfl
    · have hb9 : Below w.heap.size w w1 := Below.step (((Below.refl _ _).alloc (Nat.le_refl _) _).alloc (by simp) _) hb1
      exact (hb9.setCell (by show w.heap.size ≤ w.heap.size + 1; omega) _).setCell (by show w.heap.size ≤ w.heap.size + 1; omega) _

set_option maxHeartbeats 1000000 in
theorem rArrayOf_any (d : Int) (s : ByteArray) (hs : s.size ≤ maxLen) (w : World) :
    Calls Try.prog 26 #[.agg #[.int .i64 d, .string s]] w fun e w' => e = .returned (.tuple #[.agg #[.int .i64 (outD (arrE d s.data.toList) (d + 1)), .string (outS (arrE d s.data.toList) s)], .int .i64 (arrE d s.data.toList)]) ∧ Below w.heap.size w w' := by
  have HC : Hid (∀ w, _) := rCheck_any d s hs
  have HQ : Hid (arrE d s.data.toList = if sndB d s.data.toList then (if d = 255 then 5 else 0) else 1) := rfl
  generalize arrE d s.data.toList = x at *
  cases hv : sndB d s.data.toList with
  | false =>
    rw [hv] at HC HQ
    have h1 : chkI false = 1 := rfl
    rw [h1] at HC
    have HR : Hid (x = 1) := HQ
    clear hv h1 HQ
    go_enter Try.func26, Try.ntmps26
    go_wp2_with (first
      | (go_at_call 22; refine ((HC.out) _).mono ?_; rintro e w1 ⟨rfl, hb1⟩; have hc0 := hb1.cell (p := ⟨w.heap.size, 0, none⟩) (by first | (simp; done) | (simp; omega)); have hc1 := hb1.cell (p := ⟨w.heap.size, 1, none⟩) (by first | (simp; done) | (simp; omega)); have hr0 := hb1.cell (p := ⟨w.heap.size + 1, 0, none⟩) (by first | (simp; done) | (simp; omega)); have hr1 := hb1.cell (p := ⟨w.heap.size + 1, 1, none⟩) (by first | (simp; done) | (simp; omega)); have hf0 := hb1.frozen (p := ⟨w.heap.size + 1, 0, none⟩) (by first | (simp; done) | (simp; omega)); have hf1 := hb1.frozen (p := ⟨w.heap.size + 1, 1, none⟩) (by first | (simp; done) | (simp; omega)); have hz1 := hb1.size))
    refine bodyPost_ret (v := .tuple #[.agg #[.int .i64 0, .string ⟨#[]⟩], .int .i64 1]) (by simp [results, Try.results26, go_sem, *]) rfl ⟨?_, ?_⟩
    · rw [HR.out]; rfl
    · have hb9 : Below w.heap.size w w1 := Below.step (((Below.refl _ _).alloc (Nat.le_refl _) _).alloc (by simp) _) hb1
      exact (hb9.setCell (by show w.heap.size ≤ w.heap.size + 1; omega) _).setCell (by show w.heap.size ≤ w.heap.size + 1; omega) _
  | true =>
    obtain ⟨k, rfl, hk⟩ := snd_nat hv
    rw [hv] at HC HQ
    have h1 : chkI true = 0 := rfl
    rw [h1] at HC
    clear hv h1
    by_cases h2 : (k : Int) = 255
    · have HR : Hid (x = 5) := by rw [Hid, HQ.out, if_pos rfl, if_pos h2]
      have h3 : ((k : Int) == 255) = true := by simpa using h2
      clear HQ h2
      go_enter Try.func26, Try.ntmps26
      go_wp2_with (first
        | (go_at_call 22; refine ((HC.out) _).mono ?_; rintro e w1 ⟨rfl, hb1⟩; have hc0 := hb1.cell (p := ⟨w.heap.size, 0, none⟩) (by first | (simp; done) | (simp; omega)); have hc1 := hb1.cell (p := ⟨w.heap.size, 1, none⟩) (by first | (simp; done) | (simp; omega)); have hr0 := hb1.cell (p := ⟨w.heap.size + 1, 0, none⟩) (by first | (simp; done) | (simp; omega)); have hr1 := hb1.cell (p := ⟨w.heap.size + 1, 1, none⟩) (by first | (simp; done) | (simp; omega)); have hf0 := hb1.frozen (p := ⟨w.heap.size + 1, 0, none⟩) (by first | (simp; done) | (simp; omega)); have hf1 := hb1.frozen (p := ⟨w.heap.size + 1, 1, none⟩) (by first | (simp; done) | (simp; omega)); have hz1 := hb1.size))
      refine bodyPost_ret (v := .tuple #[.agg #[.int .i64 0, .string ⟨#[]⟩], .int .i64 5]) (by simp [results, Try.results26, go_sem, *]) rfl ⟨?_, ?_⟩
      · rw [HR.out]; rfl
      · have hb9 : Below w.heap.size w w1 := Below.step (((Below.refl _ _).alloc (Nat.le_refl _) _).alloc (by simp) _) hb1
        exact (hb9.setCell (by show w.heap.size ≤ w.heap.size + 1; omega) _).setCell (by show w.heap.size ≤ w.heap.size + 1; omega) _
    · have HR : Hid (x = 0) := by rw [Hid, HQ.out, if_pos rfl, if_neg h2]
      have h3 : ((k : Int) == 255) = false := by simpa using h2
      have h4 : (k : Int) ≠ 255 := h2
      clear HQ h2
      go_enter Try.func26, Try.ntmps26
      go_wp2_with (first
        | (go_at_call 22; refine ((HC.out) _).mono ?_; rintro e w1 ⟨rfl, hb1⟩; have hc0 := hb1.cell (p := ⟨w.heap.size, 0, none⟩) (by first | (simp; done) | (simp; omega)); have hc1 := hb1.cell (p := ⟨w.heap.size, 1, none⟩) (by first | (simp; done) | (simp; omega)); have hr0 := hb1.cell (p := ⟨w.heap.size + 1, 0, none⟩) (by first | (simp; done) | (simp; omega)); have hr1 := hb1.cell (p := ⟨w.heap.size + 1, 1, none⟩) (by first | (simp; done) | (simp; omega)); have hf0 := hb1.frozen (p := ⟨w.heap.size + 1, 0, none⟩) (by first | (simp; done) | (simp; omega)); have hf1 := hb1.frozen (p := ⟨w.heap.size + 1, 1, none⟩) (by first | (simp; done) | (simp; omega)); have hz1 := hb1.size))
      refine bodyPost_ret (v := .tuple #[.agg #[.int .i64 ((k : Int) + 1), .string s], .int .i64 0]) (by simp [results, Try.results26, go_sem, *]) rfl ⟨?_, ?_⟩
      · rw [HR.out]; rfl
      · have hb9 : Below w.heap.size w w1 := Below.step (((Below.refl _ _).alloc (Nat.le_refl _) _).alloc (by simp) _) hb1
        exact (hb9.setCell (by show w.heap.size ≤ w.heap.size + 1; omega) _).setCell (by show w.heap.size ≤ w.heap.size + 1; omega) _

set_option maxHeartbeats 1000000 in
theorem rComponent_any (d : Int) (s : ByteArray) (hs : s.size ≤ maxLen) (w : World) :
    Calls Try.prog 28 #[.agg #[.int .i64 d, .string s]] w fun e w' => e = .returned (.tuple #[.agg #[.int .i64 (outD (cmpE d s.data.toList) (d - 1)), .string (outS (cmpE d s.data.toList) s)], .int .i64 (cmpE d s.data.toList)]) ∧ Below w.heap.size w w' := by
  have HC : Hid (∀ w, _) := rCheck_any d s hs
  have HQ : Hid (cmpE d s.data.toList = if sndB d s.data.toList then (if d = 0 then 6 else 0) else 1) := rfl
  generalize cmpE d s.data.toList = x at *
  cases hv : sndB d s.data.toList with
  | false =>
    rw [hv] at HC HQ
    have h1 : chkI false = 1 := rfl
    rw [h1] at HC
    have HR : Hid (x = 1) := HQ
    clear hv h1 HQ
    go_enter Try.func28, Try.ntmps28
    go_wp2_with (first
      | (go_at_call 22; refine ((HC.out) _).mono ?_; rintro e w1 ⟨rfl, hb1⟩; have hc0 := hb1.cell (p := ⟨w.heap.size, 0, none⟩) (by first | (simp; done) | (simp; omega)); have hc1 := hb1.cell (p := ⟨w.heap.size, 1, none⟩) (by first | (simp; done) | (simp; omega)); have hr0 := hb1.cell (p := ⟨w.heap.size + 1, 0, none⟩) (by first | (simp; done) | (simp; omega)); have hr1 := hb1.cell (p := ⟨w.heap.size + 1, 1, none⟩) (by first | (simp; done) | (simp; omega)); have hf0 := hb1.frozen (p := ⟨w.heap.size + 1, 0, none⟩) (by first | (simp; done) | (simp; omega)); have hf1 := hb1.frozen (p := ⟨w.heap.size + 1, 1, none⟩) (by first | (simp; done) | (simp; omega)); have hz1 := hb1.size))
    refine bodyPost_ret (v := .tuple #[.agg #[.int .i64 0, .string ⟨#[]⟩], .int .i64 1]) (by simp [results, Try.results28, go_sem, *]) rfl ⟨?_, ?_⟩
    · rw [HR.out]; rfl
    · have hb9 : Below w.heap.size w w1 := Below.step (((Below.refl _ _).alloc (Nat.le_refl _) _).alloc (by simp) _) hb1
      exact (hb9.setCell (by show w.heap.size ≤ w.heap.size + 1; omega) _).setCell (by show w.heap.size ≤ w.heap.size + 1; omega) _
  | true =>
    obtain ⟨k, rfl, hk⟩ := snd_nat hv
    rw [hv] at HC HQ
    have h1 : chkI true = 0 := rfl
    rw [h1] at HC
    clear hv h1
    by_cases h2 : (k : Int) = 0
    · have HR : Hid (x = 6) := by rw [Hid, HQ.out, if_pos rfl, if_pos h2]
      have h3 : ((k : Int) == 0) = true := by simpa using h2
      clear HQ h2
      go_enter Try.func28, Try.ntmps28
      go_wp2_with (first
        | (go_at_call 22; refine ((HC.out) _).mono ?_; rintro e w1 ⟨rfl, hb1⟩; have hc0 := hb1.cell (p := ⟨w.heap.size, 0, none⟩) (by first | (simp; done) | (simp; omega)); have hc1 := hb1.cell (p := ⟨w.heap.size, 1, none⟩) (by first | (simp; done) | (simp; omega)); have hr0 := hb1.cell (p := ⟨w.heap.size + 1, 0, none⟩) (by first | (simp; done) | (simp; omega)); have hr1 := hb1.cell (p := ⟨w.heap.size + 1, 1, none⟩) (by first | (simp; done) | (simp; omega)); have hf0 := hb1.frozen (p := ⟨w.heap.size + 1, 0, none⟩) (by first | (simp; done) | (simp; omega)); have hf1 := hb1.frozen (p := ⟨w.heap.size + 1, 1, none⟩) (by first | (simp; done) | (simp; omega)); have hz1 := hb1.size))
      refine bodyPost_ret (v := .tuple #[.agg #[.int .i64 0, .string ⟨#[]⟩], .int .i64 6]) (by simp [results, Try.results28, go_sem, *]) rfl ⟨?_, ?_⟩
      · rw [HR.out]; rfl
      · have hb9 : Below w.heap.size w w1 := Below.step (((Below.refl _ _).alloc (Nat.le_refl _) _).alloc (by simp) _) hb1
        exact (hb9.setCell (by show w.heap.size ≤ w.heap.size + 1; omega) _).setCell (by show w.heap.size ≤ w.heap.size + 1; omega) _
    · have HR : Hid (x = 0) := by rw [Hid, HQ.out, if_pos rfl, if_neg h2]
      have h3 : ((k : Int) == 0) = false := by simpa using h2
      have h4 : (k : Int) ≠ 0 := h2
      clear HQ h2
      go_enter Try.func28, Try.ntmps28
      go_wp2_with (first
        | (go_at_call 22; refine ((HC.out) _).mono ?_; rintro e w1 ⟨rfl, hb1⟩; have hc0 := hb1.cell (p := ⟨w.heap.size, 0, none⟩) (by first | (simp; done) | (simp; omega)); have hc1 := hb1.cell (p := ⟨w.heap.size, 1, none⟩) (by first | (simp; done) | (simp; omega)); have hr0 := hb1.cell (p := ⟨w.heap.size + 1, 0, none⟩) (by first | (simp; done) | (simp; omega)); have hr1 := hb1.cell (p := ⟨w.heap.size + 1, 1, none⟩) (by first | (simp; done) | (simp; omega)); have hf0 := hb1.frozen (p := ⟨w.heap.size + 1, 0, none⟩) (by first | (simp; done) | (simp; omega)); have hf1 := hb1.frozen (p := ⟨w.heap.size + 1, 1, none⟩) (by first | (simp; done) | (simp; omega)); have hz1 := hb1.size))
      refine bodyPost_ret (v := .tuple #[.agg #[.int .i64 ((k : Int) - 1), .string s], .int .i64 0]) (by simp [results, Try.results28, go_sem, *]) rfl ⟨?_, ?_⟩
      · rw [HR.out]; rfl
      · have hb9 : Below w.heap.size w w1 := Below.step (((Below.refl _ _).alloc (Nat.le_refl _) _).alloc (by simp) _) hb1
        exact (hb9.setCell (by show w.heap.size ≤ w.heap.size + 1; omega) _).setCell (by show w.heap.size ≤ w.heap.size + 1; omega) _

/-- the error of RefText, and its text -/
def refE (d : Int) (l : List UInt8) : Int := if sndB d l then (if d = 0 ∧ l = [] then 2 else 0) else 1
def refS (d : Int) (l : List UInt8) : List UInt8 := if refE d l = 0 then (if d = 0 then l else writeT (d.toNat, l)) else []

set_option maxHeartbeats 1000000 in
theorem rRefText_any (d : Int) (s : ByteArray) (hs : s.size ≤ maxLen) (w : World) :
    Calls Try.prog 24 #[.agg #[.int .i64 d, .string s]] w fun e w' => e = .returned (.tuple #[.string ⟨(refS d s.data.toList).toArray⟩, .int .i64 (refE d s.data.toList)]) ∧ Below w.heap.size w w' := by
  have HC : Hid (∀ w, _) := rCheck_any d s hs
  cases hv : sndB d s.data.toList with
  | false =>
    rw [hv] at HC
    have h1 : chkI false = 1 := rfl
    rw [h1] at HC
    have HE : Hid (refE d s.data.toList = 1) := by rw [Hid, refE, hv]; rfl
    have HT : Hid (refS d s.data.toList = []) := by rw [Hid, refS, HE.out]; rfl
    clear hv h1
    generalize refE d s.data.toList = x at *
    generalize refS d s.data.toList = t at *
    go_enter Try.func24, Try.ntmps24
    go_wp2_with (first
      | (go_at_call 22; refine ((HC.out) _).mono ?_; rintro e w1 ⟨rfl, hb1⟩; have hc0 := hb1.cell (p := ⟨w.heap.size, 0, none⟩) (by simp); have hc1 := hb1.cell (p := ⟨w.heap.size, 1, none⟩) (by simp)))
    go_ret2
    exact ⟨by rw [HT.out, HE.out]; rfl, Below.step ((Below.refl _ _).alloc (Nat.le_refl _) _) hb1⟩
  | true =>
    obtain ⟨k, rfl, hk⟩ := snd_nat hv
    have hl := snd_len hv
    have hz : s.data.toList.length = s.size := by simp
    have HW : Hid (∀ w, _) := written_any k hk s (by omega)
    rw [hv] at HC
    have h1 : chkI true = 0 := rfl
    rw [h1] at HC
    clear h1 hl hz
    by_cases h2 : k = 0
    · subst h2
      cases he : s.toList.isEmpty with
      | true =>
        have hnil : s.data.toList = [] := by rw [← Lib.toList_data]; exact List.isEmpty_iff.1 he
        have HE : Hid (refE ((0 : Nat) : Int) s.data.toList = 2) := by rw [Hid, refE, hv, if_pos rfl, if_pos ⟨rfl, hnil⟩]
        have HT : Hid (refS ((0 : Nat) : Int) s.data.toList = []) := by rw [Hid, refS, HE.out]; rfl
        clear hv hnil HW
        generalize refE ((0 : Nat) : Int) s.data.toList = x at *
        generalize refS ((0 : Nat) : Int) s.data.toList = t at *
        go_enter Try.func24, Try.ntmps24
        go_wp2_with (first
          | (go_at_call 22; refine ((HC.out) _).mono ?_; rintro e w1 ⟨rfl, hb1⟩; have hc0 := hb1.cell (p := ⟨w.heap.size, 0, none⟩) (by simp); have hc1 := hb1.cell (p := ⟨w.heap.size, 1, none⟩) (by simp)))
        go_ret2
        exact ⟨by rw [HT.out, HE.out]; rfl, Below.step ((Below.refl _ _).alloc (Nat.le_refl _) _) hb1⟩
      | false =>
        have hnil : s.data.toList ≠ [] := by rw [← Lib.toList_data]; exact fun z => by rw [z] at he; simp at he
        have HE : Hid (refE ((0 : Nat) : Int) s.data.toList = 0) := by rw [Hid, refE, hv, if_pos rfl, if_neg (fun z => hnil z.2)]
        have HT : Hid (refS ((0 : Nat) : Int) s.data.toList = s.data.toList) := by rw [Hid, refS, HE.out]; rfl
        clear hv hnil HW
        generalize refE ((0 : Nat) : Int) s.data.toList = x at *
        generalize refS ((0 : Nat) : Int) s.data.toList = t at *
        go_enter Try.func24, Try.ntmps24
        go_wp2_with (first
          | (go_at_call 22; refine ((HC.out) _).mono ?_; rintro e w1 ⟨rfl, hb1⟩; have hc0 := hb1.cell (p := ⟨w.heap.size, 0, none⟩) (by simp); have hc1 := hb1.cell (p := ⟨w.heap.size, 1, none⟩) (by simp)))
        go_ret2
        exact ⟨by rw [HT.out, HE.out]; rfl, Below.step ((Below.refl _ _).alloc (Nat.le_refl _) _) hb1⟩
    · have hk0 : (k : Int) ≠ 0 := by omega
      have hkp : 0 < (k : Int) := by omega
      have HE : Hid (refE k s.data.toList = 0) := by rw [Hid, refE, hv, if_pos rfl, if_neg (fun z => hk0 z.1)]
      have HT : Hid (refS k s.data.toList = writeT (k, s.data.toList)) := by rw [Hid, refS, HE.out, if_pos rfl, if_neg hk0]; rfl
      clear hv
      generalize refE k s.data.toList = x at *
      generalize refS k s.data.toList = t at *
      go_enter Try.func24, Try.ntmps24
      go_wp2_with (first
        | (go_at_call 22; refine ((HC.out) _).mono ?_; rintro e w1 ⟨rfl, hb1⟩; have hc0 := hb1.cell (p := ⟨w.heap.size, 0, none⟩) (by simp); have hc1 := hb1.cell (p := ⟨w.heap.size, 1, none⟩) (by simp))
        | (go_at_call 45; refine ((HW.out) _).mono ?_; rintro e w2 ⟨rfl, hb2⟩))
      go_ret2
      have hb9 : Below w.heap.size w w1 := Below.step ((Below.refl _ _).alloc (Nat.le_refl _) _) hb1
      exact ⟨by rw [HT.out, HE.out]; rfl, Below.step hb9 (by assumption)⟩

end Go.Proofs.Ytaljppicmookeaa
