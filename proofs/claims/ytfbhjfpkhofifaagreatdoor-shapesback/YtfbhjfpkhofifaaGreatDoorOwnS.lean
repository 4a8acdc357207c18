/- Walks over the library's searches at one byte, and of package code's opOf, ParseRefText: each returns what the plain functions say; what was there before stays. -/
import Derived.Test.YtfbhjfpkhofifaaGreatDoorCodeM
import Derived.Test.YtfbhjfpkhofifaaGreatDoorLaid
import Derived.Test.YtfbhjfpkhofifaaGreatDoorShelfA
import Derived.Test.YtfbhjfpkhofifaaGreatDoorCodeT
namespace Go.Proofs.YtfbhjfpkhofifaaGreatDoor
open Go.RowKit

set_option maxRecDepth 100000 in
set_option maxHeartbeats 400000 in
theorem slIndex_32 (s : ByteArray) (w : World) : Calls Tryz.prog 154 #[.string s, .string ⟨#[32]⟩] w fun e w' => e = .returned (.int .i64 (Lib.indexByte s.data.toList 32)) ∧ w' = w := by
  have HB : Hid (∀ w : World, Calls Tryz.prog 175 #[.string s, .int .u8 32] w fun e w' => e = .returned (.int .i64 (Lib.indexByte s.data.toList 32)) ∧ w' = w) := fun w => Tryz.stringslite_IndexByte s 32 w
  have HR : Hid (([32] == s.toList) = true → Lib.indexByte s.data.toList 32 = 0) := fun h => by
    have e : s.data.toList = [32] := by rw [← Lib.toList_data]; exact (eq_of_beq h).symm
    rw [e]; rfl
  generalize Lib.indexByte s.data.toList 32 = r at *
  go_enter Tryz.func154, Tryz.ntmps154
  go_wp2_with (go_at_call 175; refine (HB.out _).mono ?_; rintro e w1 ⟨rfl, rfl⟩)
  · rename_i hc
    go_ret
    exact ⟨ret_int (HR.out hc).symm, rfl⟩
  · go_ret
    exact ⟨rfl, rfl⟩

set_option maxRecDepth 100000 in
set_option maxHeartbeats 400000 in
theorem slIndex_40 (s : ByteArray) (w : World) : Calls Tryz.prog 154 #[.string s, .string ⟨#[40]⟩] w fun e w' => e = .returned (.int .i64 (Lib.indexByte s.data.toList 40)) ∧ w' = w := by
  have HB : Hid (∀ w : World, Calls Tryz.prog 175 #[.string s, .int .u8 40] w fun e w' => e = .returned (.int .i64 (Lib.indexByte s.data.toList 40)) ∧ w' = w) := fun w => Tryz.stringslite_IndexByte s 40 w
  have HR : Hid (([40] == s.toList) = true → Lib.indexByte s.data.toList 40 = 0) := fun h => by
    have e : s.data.toList = [40] := by rw [← Lib.toList_data]; exact (eq_of_beq h).symm
    rw [e]; rfl
  generalize Lib.indexByte s.data.toList 40 = r at *
  go_enter Tryz.func154, Tryz.ntmps154
  go_wp2_with (go_at_call 175; refine (HB.out _).mono ?_; rintro e w1 ⟨rfl, rfl⟩)
  · rename_i hc
    go_ret
    exact ⟨ret_int (HR.out hc).symm, rfl⟩
  · go_ret
    exact ⟨rfl, rfl⟩

set_option maxRecDepth 100000 in
set_option maxHeartbeats 400000 in
theorem index_40 (s : ByteArray) (w : World) : Calls Tryz.prog 181 #[.string s, .string ⟨#[40]⟩] w fun e w' => e = .returned (.int .i64 (Lib.indexByte s.data.toList 40)) ∧ w' = w := by
  have HB : Hid (∀ w : World, _) := slIndex_40 s
  generalize Lib.indexByte s.data.toList 40 = r at *
  go_enter Tryz.func181, Tryz.ntmps181
  go_wp2_with (go_at_call 154; refine (HB.out _).mono ?_; rintro e w1 ⟨rfl, rfl⟩)
  go_ret
  exact ⟨rfl, rfl⟩

theorem idx_span (c : UInt8) : ∀ l : List UInt8, Lib.indexByte l c = if spanN (fun x => !decide (x = c)) l < l.length then (spanN (fun x => !decide (x = c)) l : Int) else -1
  | [] => rfl
  | b :: l => by
    have ih := idx_span c l
    by_cases hb : b = c
    · subst hb
      rw [Lib.indexByte]
      simp [spanN]
    · have h1 : (b == c) = false := by simpa using hb
      have h2 : spanN (fun x => !decide (x = c)) (b :: l) = spanN (fun x => !decide (x = c)) l + 1 := by simp [spanN, hb]
      rw [Lib.indexByte, h1, ih, h2, List.length_cons]
      simp only [Bool.false_eq_true, if_false]
      by_cases hl : spanN (fun x => !decide (x = c)) l < l.length
      · have h3 : ((spanN (fun x => !decide (x = c)) l : Int) == -1) = false := by rw [beq_eq_false_iff_ne]; omega
        rw [if_pos hl, h3, if_pos (show spanN (fun x => !decide (x = c)) l + 1 < l.length + 1 by omega)]
        simp
      · rw [if_neg hl, if_pos (show ((-1 : Int) == -1) = true by decide), if_neg (show ¬ spanN (fun x => !decide (x = c)) l + 1 < l.length + 1 by omega)]
theorem any_span : ∀ l : List UInt8, Lib.indexAny l [58, 46] = if markN l < l.length then (markN l : Int) else -1
  | [] => rfl
  | b :: l => by
    have ih := any_span l
    unfold markN at ih ⊢
    cases hb : notMark b with
    | false =>
      have h1 : ([58, 46] : List UInt8).contains b = true := by
        simp only [notMark, Bool.and_eq_false_iff, Bool.not_eq_false', decide_eq_true_eq] at hb
        rcases hb with rfl | rfl <;> rfl
      rw [Lib.indexAny, h1]
      simp [spanN, hb]
    | true =>
      have h1 : ([58, 46] : List UInt8).contains b = false := by
        simp only [notMark, Bool.and_eq_true, Bool.not_eq_true', decide_eq_false_iff_not] at hb
        simp [hb.1, hb.2]
      have h2 : spanN notMark (b :: l) = spanN notMark l + 1 := by simp [spanN, hb]
      rw [Lib.indexAny, h1, ih, h2, List.length_cons]
      simp only [Bool.false_eq_true, if_false]
      by_cases hl : spanN notMark l < l.length
      · have h3 : ((spanN notMark l : Int) == -1) = false := by rw [beq_eq_false_iff_ne]; omega
        rw [if_pos hl, h3, if_pos (show spanN notMark l + 1 < l.length + 1 by omega)]
        simp
      · rw [if_neg hl, if_pos (show ((-1 : Int) == -1) = true by decide), if_neg (show ¬ spanN notMark l + 1 < l.length + 1 by omega)]
theorem ex_ex (s : ByteArray) (a k : Nat) : (s.extract a s.size).extract 0 k = s.extract a (a + k) := by
  apply bytes_ext
  rw [ex_take, Lib.extract_to_end, ex_mid, show a + k - a = k by omega]
theorem ex_end (s : ByteArray) (a k : Nat) : (s.extract a s.size).extract k (s.extract a s.size).size = s.extract (a + k) s.size := by
  apply bytes_ext
  rw [Lib.extract_to_end, Lib.extract_to_end, Lib.extract_to_end, List.drop_drop]
theorem ex_size (s : ByteArray) (a : Nat) : (s.extract a s.size).size = s.size - a := by
  simp [ByteArray.size_extract]

set_option maxRecDepth 100000 in
set_option maxHeartbeats 4000000 in
theorem prt_yes (s MB : ByteArray) (m k : Nat) (qb : Bool) (hs : s.size ≤ 9223372036854775807) (hm : m < s.size) (hS : s.extract (m + 1) s.size = MB) (hkM : k ≤ MB.size) (e3 : ((s.extract m (m + 1)).toList == [58]) = qb)
    (HIA : ∀ w : World, Calls Tryz.prog 210 #[.string s, .string ⟨#[58, 46]⟩] w fun e w' => e = .returned (.int .i64 ((m : Int))) ∧ Below w.heap.size w w')
    (HIX : ∀ w : World, Calls Tryz.prog 181 #[.string MB, .string ⟨#[40]⟩] w fun e w' => e = .returned (.int .i64 ((k : Int))) ∧ w' = w)
    (HC : ∀ w : World, Calls Tryz.prog 174 #[.agg #[.bool qb, .string (s.extract 0 m), .string (MB.extract 0 k), .string (MB.extract k MB.size)]] w fun e w' => e = .returned (.int .i64 0) ∧ Below w.heap.size w w')
    (w : World) : Calls Tryz.prog 204 #[.string s] w fun e w' => e = .returned (.tuple #[.agg #[.bool qb, .string (s.extract 0 m), .string (MB.extract 0 k), .string (MB.extract k MB.size)], .int .i64 0]) ∧ Below w.heap.size w w' := by
  have HIA : Hid (∀ w : World, _) := HIA
  have HIX : Hid (∀ w : World, _) := HIX
  have HC : Hid (∀ w : World, _) := HC
  go_enter Tryz.func204, Tryz.ntmps204
  go_wp2_with (first
    | (go_at_call 210; refine (HIA.out _).mono ?_; rintro e w1 ⟨rfl, hb1⟩; have hs1 : w.heap.size < w1.heap.size := (by have := hb1.size; simp at this; omega); have hz10 : w1.cell? ⟨w.heap.size, 0, none⟩ = some (.bool false) := (hb1.cell (p := ⟨w.heap.size, 0, none⟩) (by first | (simp; done) | (simp; omega))).trans (by first | assumption | (simp [go_sem, *]; done)); have hf10 : w1.frozen? ⟨w.heap.size, 0, none⟩ = false := (hb1.frozen (p := ⟨w.heap.size, 0, none⟩) (by first | (simp; done) | (simp; omega))).trans (by first | assumption | (simp [go_sem, *]; done)); have hz11 : w1.cell? ⟨w.heap.size, 1, none⟩ = some (.string ⟨#[]⟩) := (hb1.cell (p := ⟨w.heap.size, 1, none⟩) (by first | (simp; done) | (simp; omega))).trans (by first | assumption | (simp [go_sem, *]; done)); have hf11 : w1.frozen? ⟨w.heap.size, 1, none⟩ = false := (hb1.frozen (p := ⟨w.heap.size, 1, none⟩) (by first | (simp; done) | (simp; omega))).trans (by first | assumption | (simp [go_sem, *]; done)); have hz12 : w1.cell? ⟨w.heap.size, 2, none⟩ = some (.string ⟨#[]⟩) := (hb1.cell (p := ⟨w.heap.size, 2, none⟩) (by first | (simp; done) | (simp; omega))).trans (by first | assumption | (simp [go_sem, *]; done)); have hf12 : w1.frozen? ⟨w.heap.size, 2, none⟩ = false := (hb1.frozen (p := ⟨w.heap.size, 2, none⟩) (by first | (simp; done) | (simp; omega))).trans (by first | assumption | (simp [go_sem, *]; done)); have hz13 : w1.cell? ⟨w.heap.size, 3, none⟩ = some (.string ⟨#[]⟩) := (hb1.cell (p := ⟨w.heap.size, 3, none⟩) (by first | (simp; done) | (simp; omega))).trans (by first | assumption | (simp [go_sem, *]; done)); have hf13 : w1.frozen? ⟨w.heap.size, 3, none⟩ = false := (hb1.frozen (p := ⟨w.heap.size, 3, none⟩) (by first | (simp; done) | (simp; omega))).trans (by first | assumption | (simp [go_sem, *]; done)); have hB1 : Hid (Below w.heap.size w w1) := Below.step ((Below.refl _ _).alloc (Nat.le_refl _) _) hb1; clear hb1 HIA)
    | (go_at_call 181; refine (HIX.out _).mono ?_; rintro e w2 ⟨rfl, hw2⟩; rw [hw2]; clear hw2 HIX))
  go_region
  go_wp2_with (go_at_call 174; refine (HC.out _).mono ?_; rintro e w3 ⟨rfl, hb3⟩; have hs3 : w.heap.size < w3.heap.size := (by have := hb3.size; simp at this; omega); have hr0 : w3.cell? ⟨w1.heap.size, 0, none⟩ = some (.bool qb) := (hb3.cell (p := ⟨w1.heap.size, 0, none⟩) (by simp)).trans (by simp [go_sem, *]); have hr1 : w3.cell? ⟨w1.heap.size, 1, none⟩ = some (.string (s.extract 0 m)) := (hb3.cell (p := ⟨w1.heap.size, 1, none⟩) (by simp)).trans (by simp [go_sem, *]); have hr2 : w3.cell? ⟨w1.heap.size, 2, none⟩ = some (.string (MB.extract 0 k)) := (hb3.cell (p := ⟨w1.heap.size, 2, none⟩) (by simp)).trans (by simp [go_sem, *]); have hr3 : w3.cell? ⟨w1.heap.size, 3, none⟩ = some (.string (MB.extract k MB.size)) := (hb3.cell (p := ⟨w1.heap.size, 3, none⟩) (by simp)).trans (by simp [go_sem, *]); have hz30 : w3.cell? ⟨w.heap.size, 0, none⟩ = some (.bool false) := (hb3.cell (p := ⟨w.heap.size, 0, none⟩) (by first | (simp; done) | (simp; omega))).trans (by first | assumption | (simp [go_sem, *]; done)); have hf30 : w3.frozen? ⟨w.heap.size, 0, none⟩ = false := (hb3.frozen (p := ⟨w.heap.size, 0, none⟩) (by first | (simp; done) | (simp; omega))).trans (by first | assumption | (simp [go_sem, *]; done)); have hz31 : w3.cell? ⟨w.heap.size, 1, none⟩ = some (.string ⟨#[]⟩) := (hb3.cell (p := ⟨w.heap.size, 1, none⟩) (by first | (simp; done) | (simp; omega))).trans (by first | assumption | (simp [go_sem, *]; done)); have hf31 : w3.frozen? ⟨w.heap.size, 1, none⟩ = false := (hb3.frozen (p := ⟨w.heap.size, 1, none⟩) (by first | (simp; done) | (simp; omega))).trans (by first | assumption | (simp [go_sem, *]; done)); have hz32 : w3.cell? ⟨w.heap.size, 2, none⟩ = some (.string ⟨#[]⟩) := (hb3.cell (p := ⟨w.heap.size, 2, none⟩) (by first | (simp; done) | (simp; omega))).trans (by first | assumption | (simp [go_sem, *]; done)); have hf32 : w3.frozen? ⟨w.heap.size, 2, none⟩ = false := (hb3.frozen (p := ⟨w.heap.size, 2, none⟩) (by first | (simp; done) | (simp; omega))).trans (by first | assumption | (simp [go_sem, *]; done)); have hz33 : w3.cell? ⟨w.heap.size, 3, none⟩ = some (.string ⟨#[]⟩) := (hb3.cell (p := ⟨w.heap.size, 3, none⟩) (by first | (simp; done) | (simp; omega))).trans (by first | assumption | (simp [go_sem, *]; done)); have hf33 : w3.frozen? ⟨w.heap.size, 3, none⟩ = false := (hb3.frozen (p := ⟨w.heap.size, 3, none⟩) (by first | (simp; done) | (simp; omega))).trans (by first | assumption | (simp [go_sem, *]; done)); have hB3 : Hid (Below w.heap.size w w3) := Below.step ((hB1.out.alloc (Nat.le_of_lt hs1) _).drew) hb3; clear hb3)
  refine bodyPost_ret (v := .tuple #[.agg #[.bool qb, .string (s.extract 0 m), .string (MB.extract 0 k), .string (MB.extract k MB.size)], .int .i64 0]) (by simp [results, Tryz.results204, go_sem, *]) rfl ⟨rfl, ?_⟩
  exact (((hB3.out.setCell (Nat.le_refl _) _).setCell (Nat.le_refl _) _).setCell (Nat.le_refl _) _).setCell (Nat.le_refl _) _

set_option maxRecDepth 100000 in
set_option maxHeartbeats 4000000 in
theorem prt_bad (s MB : ByteArray) (m k : Nat) (qb : Bool) (hs : s.size ≤ 9223372036854775807) (hm : m < s.size) (hS : s.extract (m + 1) s.size = MB) (hkM : k ≤ MB.size) (e3 : ((s.extract m (m + 1)).toList == [58]) = qb)
    (HIA : ∀ w : World, Calls Tryz.prog 210 #[.string s, .string ⟨#[58, 46]⟩] w fun e w' => e = .returned (.int .i64 ((m : Int))) ∧ Below w.heap.size w w')
    (HIX : ∀ w : World, Calls Tryz.prog 181 #[.string MB, .string ⟨#[40]⟩] w fun e w' => e = .returned (.int .i64 ((k : Int))) ∧ w' = w)
    (HC : ∀ w : World, Calls Tryz.prog 174 #[.agg #[.bool qb, .string (s.extract 0 m), .string (MB.extract 0 k), .string (MB.extract k MB.size)]] w fun e w' => e = .returned (.int .i64 1) ∧ Below w.heap.size w w')
    (w : World) : Calls Tryz.prog 204 #[.string s] w fun e w' => e = .returned (.tuple #[.agg #[.bool false, .string ⟨#[]⟩, .string ⟨#[]⟩, .string ⟨#[]⟩], .int .i64 4]) ∧ Below w.heap.size w w' := by
  have HIA : Hid (∀ w : World, _) := HIA
  have HIX : Hid (∀ w : World, _) := HIX
  have HC : Hid (∀ w : World, _) := HC
  go_enter Tryz.func204, Tryz.ntmps204
  go_wp2_with (first
    | (go_at_call 210; refine (HIA.out _).mono ?_; rintro e w1 ⟨rfl, hb1⟩; have hs1 : w.heap.size < w1.heap.size := (by have := hb1.size; simp at this; omega); have hz10 : w1.cell? ⟨w.heap.size, 0, none⟩ = some (.bool false) := (hb1.cell (p := ⟨w.heap.size, 0, none⟩) (by first | (simp; done) | (simp; omega))).trans (by first | assumption | (simp [go_sem, *]; done)); have hf10 : w1.frozen? ⟨w.heap.size, 0, none⟩ = false := (hb1.frozen (p := ⟨w.heap.size, 0, none⟩) (by first | (simp; done) | (simp; omega))).trans (by first | assumption | (simp [go_sem, *]; done)); have hz11 : w1.cell? ⟨w.heap.size, 1, none⟩ = some (.string ⟨#[]⟩) := (hb1.cell (p := ⟨w.heap.size, 1, none⟩) (by first | (simp; done) | (simp; omega))).trans (by first | assumption | (simp [go_sem, *]; done)); have hf11 : w1.frozen? ⟨w.heap.size, 1, none⟩ = false := (hb1.frozen (p := ⟨w.heap.size, 1, none⟩) (by first | (simp; done) | (simp; omega))).trans (by first | assumption | (simp [go_sem, *]; done)); have hz12 : w1.cell? ⟨w.heap.size, 2, none⟩ = some (.string ⟨#[]⟩) := (hb1.cell (p := ⟨w.heap.size, 2, none⟩) (by first | (simp; done) | (simp; omega))).trans (by first | assumption | (simp [go_sem, *]; done)); have hf12 : w1.frozen? ⟨w.heap.size, 2, none⟩ = false := (hb1.frozen (p := ⟨w.heap.size, 2, none⟩) (by first | (simp; done) | (simp; omega))).trans (by first | assumption | (simp [go_sem, *]; done)); have hz13 : w1.cell? ⟨w.heap.size, 3, none⟩ = some (.string ⟨#[]⟩) := (hb1.cell (p := ⟨w.heap.size, 3, none⟩) (by first | (simp; done) | (simp; omega))).trans (by first | assumption | (simp [go_sem, *]; done)); have hf13 : w1.frozen? ⟨w.heap.size, 3, none⟩ = false := (hb1.frozen (p := ⟨w.heap.size, 3, none⟩) (by first | (simp; done) | (simp; omega))).trans (by first | assumption | (simp [go_sem, *]; done)); have hB1 : Hid (Below w.heap.size w w1) := Below.step ((Below.refl _ _).alloc (Nat.le_refl _) _) hb1; clear hb1 HIA)
    | (go_at_call 181; refine (HIX.out _).mono ?_; rintro e w2 ⟨rfl, hw2⟩; rw [hw2]; clear hw2 HIX))
  go_region
  go_wp2_with (go_at_call 174; refine (HC.out _).mono ?_; rintro e w3 ⟨rfl, hb3⟩; have hs3 : w.heap.size < w3.heap.size := (by have := hb3.size; simp at this; omega); have hz30 : w3.cell? ⟨w.heap.size, 0, none⟩ = some (.bool false) := (hb3.cell (p := ⟨w.heap.size, 0, none⟩) (by first | (simp; done) | (simp; omega))).trans (by first | assumption | (simp [go_sem, *]; done)); have hf30 : w3.frozen? ⟨w.heap.size, 0, none⟩ = false := (hb3.frozen (p := ⟨w.heap.size, 0, none⟩) (by first | (simp; done) | (simp; omega))).trans (by first | assumption | (simp [go_sem, *]; done)); have hz31 : w3.cell? ⟨w.heap.size, 1, none⟩ = some (.string ⟨#[]⟩) := (hb3.cell (p := ⟨w.heap.size, 1, none⟩) (by first | (simp; done) | (simp; omega))).trans (by first | assumption | (simp [go_sem, *]; done)); have hf31 : w3.frozen? ⟨w.heap.size, 1, none⟩ = false := (hb3.frozen (p := ⟨w.heap.size, 1, none⟩) (by first | (simp; done) | (simp; omega))).trans (by first | assumption | (simp [go_sem, *]; done)); have hz32 : w3.cell? ⟨w.heap.size, 2, none⟩ = some (.string ⟨#[]⟩) := (hb3.cell (p := ⟨w.heap.size, 2, none⟩) (by first | (simp; done) | (simp; omega))).trans (by first | assumption | (simp [go_sem, *]; done)); have hf32 : w3.frozen? ⟨w.heap.size, 2, none⟩ = false := (hb3.frozen (p := ⟨w.heap.size, 2, none⟩) (by first | (simp; done) | (simp; omega))).trans (by first | assumption | (simp [go_sem, *]; done)); have hz33 : w3.cell? ⟨w.heap.size, 3, none⟩ = some (.string ⟨#[]⟩) := (hb3.cell (p := ⟨w.heap.size, 3, none⟩) (by first | (simp; done) | (simp; omega))).trans (by first | assumption | (simp [go_sem, *]; done)); have hf33 : w3.frozen? ⟨w.heap.size, 3, none⟩ = false := (hb3.frozen (p := ⟨w.heap.size, 3, none⟩) (by first | (simp; done) | (simp; omega))).trans (by first | assumption | (simp [go_sem, *]; done)); have hB3 : Hid (Below w.heap.size w w3) := Below.step ((hB1.out.alloc (Nat.le_of_lt hs1) _).drew) hb3; clear hb3)
  refine bodyPost_ret (v := .tuple #[.agg #[.bool false, .string ⟨#[]⟩, .string ⟨#[]⟩, .string ⟨#[]⟩], .int .i64 4]) (by simp [results, Tryz.results204, go_sem, *]) rfl ⟨rfl, ?_⟩
  exact (((hB3.out.setCell (Nat.le_refl _) _).setCell (Nat.le_refl _) _).setCell (Nat.le_refl _) _).setCell (Nat.le_refl _) _

set_option maxRecDepth 100000 in
set_option maxHeartbeats 4000000 in
theorem prt_open (s MB : ByteArray) (m : Nat) (hs : s.size ≤ 9223372036854775807) (hm : m < s.size) (hS : s.extract (m + 1) s.size = MB)
    (HIA : ∀ w : World, Calls Tryz.prog 210 #[.string s, .string ⟨#[58, 46]⟩] w fun e w' => e = .returned (.int .i64 ((m : Int))) ∧ Below w.heap.size w w')
    (HIX : ∀ w : World, Calls Tryz.prog 181 #[.string MB, .string ⟨#[40]⟩] w fun e w' => e = .returned (.int .i64 (-1)) ∧ w' = w)
    (w : World) : Calls Tryz.prog 204 #[.string s] w fun e w' => e = .returned (.tuple #[.agg #[.bool false, .string ⟨#[]⟩, .string ⟨#[]⟩, .string ⟨#[]⟩], .int .i64 4]) ∧ Below w.heap.size w w' := by
  have HIA : Hid (∀ w : World, _) := HIA
  have HIX : Hid (∀ w : World, _) := HIX
  go_enter Tryz.func204, Tryz.ntmps204
  go_wp2_with (first
    | (go_at_call 210; refine (HIA.out _).mono ?_; rintro e w1 ⟨rfl, hb1⟩; have hs1 : w.heap.size < w1.heap.size := (by have := hb1.size; simp at this; omega); have hz10 : w1.cell? ⟨w.heap.size, 0, none⟩ = some (.bool false) := (hb1.cell (p := ⟨w.heap.size, 0, none⟩) (by first | (simp; done) | (simp; omega))).trans (by first | assumption | (simp [go_sem, *]; done)); have hf10 : w1.frozen? ⟨w.heap.size, 0, none⟩ = false := (hb1.frozen (p := ⟨w.heap.size, 0, none⟩) (by first | (simp; done) | (simp; omega))).trans (by first | assumption | (simp [go_sem, *]; done)); have hz11 : w1.cell? ⟨w.heap.size, 1, none⟩ = some (.string ⟨#[]⟩) := (hb1.cell (p := ⟨w.heap.size, 1, none⟩) (by first | (simp; done) | (simp; omega))).trans (by first | assumption | (simp [go_sem, *]; done)); have hf11 : w1.frozen? ⟨w.heap.size, 1, none⟩ = false := (hb1.frozen (p := ⟨w.heap.size, 1, none⟩) (by first | (simp; done) | (simp; omega))).trans (by first | assumption | (simp [go_sem, *]; done)); have hz12 : w1.cell? ⟨w.heap.size, 2, none⟩ = some (.string ⟨#[]⟩) := (hb1.cell (p := ⟨w.heap.size, 2, none⟩) (by first | (simp; done) | (simp; omega))).trans (by first | assumption | (simp [go_sem, *]; done)); have hf12 : w1.frozen? ⟨w.heap.size, 2, none⟩ = false := (hb1.frozen (p := ⟨w.heap.size, 2, none⟩) (by first | (simp; done) | (simp; omega))).trans (by first | assumption | (simp [go_sem, *]; done)); have hz13 : w1.cell? ⟨w.heap.size, 3, none⟩ = some (.string ⟨#[]⟩) := (hb1.cell (p := ⟨w.heap.size, 3, none⟩) (by first | (simp; done) | (simp; omega))).trans (by first | assumption | (simp [go_sem, *]; done)); have hf13 : w1.frozen? ⟨w.heap.size, 3, none⟩ = false := (hb1.frozen (p := ⟨w.heap.size, 3, none⟩) (by first | (simp; done) | (simp; omega))).trans (by first | assumption | (simp [go_sem, *]; done)); have hB1 : Hid (Below w.heap.size w w1) := Below.step ((Below.refl _ _).alloc (Nat.le_refl _) _) hb1; clear hb1 HIA)
    | (go_at_call 181; refine (HIX.out _).mono ?_; rintro e w2 ⟨rfl, hw2⟩; rw [hw2]; clear hw2 HIX))
  refine bodyPost_ret (v := .tuple #[.agg #[.bool false, .string ⟨#[]⟩, .string ⟨#[]⟩, .string ⟨#[]⟩], .int .i64 4]) (by simp [results, Tryz.results204, go_sem, *]) rfl ⟨rfl, ?_⟩
  exact (((hB1.out.setCell (Nat.le_refl _) _).setCell (Nat.le_refl _) _).setCell (Nat.le_refl _) _).setCell (Nat.le_refl _) _

set_option maxRecDepth 100000 in
set_option maxHeartbeats 4000000 in
theorem prt_mark (s : ByteArray)
    (HIA : ∀ w : World, Calls Tryz.prog 210 #[.string s, .string ⟨#[58, 46]⟩] w fun e w' => e = .returned (.int .i64 (-1)) ∧ Below w.heap.size w w')
    (w : World) : Calls Tryz.prog 204 #[.string s] w fun e w' => e = .returned (.tuple #[.agg #[.bool false, .string ⟨#[]⟩, .string ⟨#[]⟩, .string ⟨#[]⟩], .int .i64 4]) ∧ Below w.heap.size w w' := by
  have HIA : Hid (∀ w : World, _) := HIA
  go_enter Tryz.func204, Tryz.ntmps204
  go_wp2_with (go_at_call 210; refine (HIA.out _).mono ?_; rintro e w1 ⟨rfl, hb1⟩; have hs1 : w.heap.size < w1.heap.size := (by have := hb1.size; simp at this; omega); have hz10 : w1.cell? ⟨w.heap.size, 0, none⟩ = some (.bool false) := (hb1.cell (p := ⟨w.heap.size, 0, none⟩) (by first | (simp; done) | (simp; omega))).trans (by first | assumption | (simp [go_sem, *]; done)); have hf10 : w1.frozen? ⟨w.heap.size, 0, none⟩ = false := (hb1.frozen (p := ⟨w.heap.size, 0, none⟩) (by first | (simp; done) | (simp; omega))).trans (by first | assumption | (simp [go_sem, *]; done)); have hz11 : w1.cell? ⟨w.heap.size, 1, none⟩ = some (.string ⟨#[]⟩) := (hb1.cell (p := ⟨w.heap.size, 1, none⟩) (by first | (simp; done) | (simp; omega))).trans (by first | assumption | (simp [go_sem, *]; done)); have hf11 : w1.frozen? ⟨w.heap.size, 1, none⟩ = false := (hb1.frozen (p := ⟨w.heap.size, 1, none⟩) (by first | (simp; done) | (simp; omega))).trans (by first | assumption | (simp [go_sem, *]; done)); have hz12 : w1.cell? ⟨w.heap.size, 2, none⟩ = some (.string ⟨#[]⟩) := (hb1.cell (p := ⟨w.heap.size, 2, none⟩) (by first | (simp; done) | (simp; omega))).trans (by first | assumption | (simp [go_sem, *]; done)); have hf12 : w1.frozen? ⟨w.heap.size, 2, none⟩ = false := (hb1.frozen (p := ⟨w.heap.size, 2, none⟩) (by first | (simp; done) | (simp; omega))).trans (by first | assumption | (simp [go_sem, *]; done)); have hz13 : w1.cell? ⟨w.heap.size, 3, none⟩ = some (.string ⟨#[]⟩) := (hb1.cell (p := ⟨w.heap.size, 3, none⟩) (by first | (simp; done) | (simp; omega))).trans (by first | assumption | (simp [go_sem, *]; done)); have hf13 : w1.frozen? ⟨w.heap.size, 3, none⟩ = false := (hb1.frozen (p := ⟨w.heap.size, 3, none⟩) (by first | (simp; done) | (simp; omega))).trans (by first | assumption | (simp [go_sem, *]; done)); have hB1 : Hid (Below w.heap.size w w1) := Below.step ((Below.refl _ _).alloc (Nat.le_refl _) _) hb1; clear hb1 HIA)
  refine bodyPost_ret (v := .tuple #[.agg #[.bool false, .string ⟨#[]⟩, .string ⟨#[]⟩, .string ⟨#[]⟩], .int .i64 4]) (by simp [results, Tryz.results204, go_sem, *]) rfl ⟨rfl, ?_⟩
  exact (((hB1.out.setCell (Nat.le_refl _) _).setCell (Nat.le_refl _) _).setCell (Nat.le_refl _) _).setCell (Nat.le_refl _) _

theorem parseRefText_of (s : ByteArray) (hs : s.size ≤ maxLen) (HIA : ∀ w : World, Calls Tryz.prog 210 #[.string s, .string ⟨#[58, 46]⟩] w fun e w' => e = .returned (.int .i64 (Lib.indexAny s.data.toList [58, 46])) ∧ Below w.heap.size w w') (w : World) : Calls Tryz.prog 204 #[.string s] w fun e w' => e = .returned (rfOut s.data.toList) ∧ Below w.heap.size w w' := by
  have hlen : s.data.toList.length = s.size := by simp
  have hs2 : s.size ≤ 9223372036854775807 := by unfold maxLen at hs; omega
  rw [any_span, hlen] at HIA
  by_cases hm : markN s.data.toList < s.size
  · rw [if_pos hm] at HIA
    obtain ⟨m, hM⟩ : ∃ m, markN s.data.toList = m := ⟨_, rfl⟩
    rw [hM] at hm HIA
    have HIX0 := index_40 (s.extract (m + 1) s.size)
    have htl : (s.extract (m + 1) s.size).data.toList = s.data.toList.drop (m + 1) := Lib.extract_to_end _ _
    have hsp : (fun x : UInt8 => !decide (x = 40)) = notOpen := rfl
    rw [idx_span, htl, hsp, List.length_drop, hlen] at HIX0
    obtain ⟨x, t, hx⟩ : ∃ x t, s.data.toList.drop m = x :: t := by
      cases e : s.data.toList.drop m with
      | nil => have := List.drop_eq_nil_iff.1 e; omega
      | cons x t => exact ⟨x, t, rfl⟩
    have hxm : notMark x = false := span_stop notMark s.data.toList x t (by rw [show spanN notMark s.data.toList = m from hM]; exact hx)
    have hxc : x = 46 ∨ x = 58 := by
      simp only [notMark, Bool.and_eq_false_iff, Bool.not_eq_false', decide_eq_true_eq] at hxm
      exact hxm
    have hq : rfB s.data.toList = decide (x = 58) := by rw [rfB, hM, hx, Bool.eq_iff_iff]; simp
    have htd : s.data.toList.drop (m + 1) = t := by
      have := congrArg (List.drop 1) hx
      rw [List.drop_drop] at this
      simpa using this
    have hO : openN s.data.toList = m + 1 + spanN notOpen (s.data.toList.drop (m + 1)) := by
      rw [openN, hM, hx, htd]
      have : notOpen x = true := by rcases hxc with rfl | rfl <;> rfl
      simp only [spanN, List.takeWhile_cons, this, if_true, List.length_cons]
      omega
    by_cases hk : spanN notOpen (s.data.toList.drop (m + 1)) < s.size - (m + 1)
    · rw [if_pos hk] at HIX0
      obtain ⟨k, hK⟩ : ∃ k, spanN notOpen (s.data.toList.drop (m + 1)) = k := ⟨_, rfl⟩
      rw [hK] at hk HIX0 hO
      have HC := refCheck_any (decide (x = 58)) (s.extract 0 m) (s.extract (m + 1) (m + 1 + k)) (s.extract (m + 1 + k) s.size) (by simp [ByteArray.size_extract]; omega) (by simp [ByteArray.size_extract]; omega) (by simp [ByteArray.size_extract]; omega)
      have hrk : rckE (s.extract 0 m).data.toList (s.extract (m + 1) (m + 1 + k)).data.toList (s.extract (m + 1 + k) s.size).data.toList = if rfOK s.data.toList then 0 else 1 := by
        rw [rckE, ex_take, ex_mid, Lib.extract_to_end, rfOK, rfC, rfN, rfD, hM, hO, hlen]
        simp [show m + 1 + k < s.size by omega]
      rw [hrk, ← ex_ex s (m + 1) k, ← ex_end s (m + 1) k] at HC
      have e3 : ((s.extract m (m + 1)).toList == [58]) = decide (x = 58) := by
        rw [Lib.toList_data, ex_mid, hx, show m + 1 - m = 1 by omega]
        show ([x] == [58]) = _
        rw [Bool.eq_iff_iff]; simp
      have hkM : k ≤ (s.extract (m + 1) s.size).size := by rw [ex_size s (m + 1)]; omega
      cases hok : rfOK s.data.toList with
      | true =>
        rw [hok, if_pos rfl] at HC
        rw [rfOut_yes s m (m + 1 + k) (decide (x = 58)) hM hO hok hq, ← ex_ex s (m + 1) k, ← ex_end s (m + 1) k]
        exact prt_yes s _ m k _ hs2 hm rfl hkM e3 HIA HIX0 HC w
      | false =>
        rw [hok, if_neg (by decide)] at HC
        rw [rfOut_no hok]
        exact prt_bad s _ m k _ hs2 hm rfl hkM e3 HIA HIX0 HC w
    · rw [if_neg hk] at HIX0
      have hok : rfOK s.data.toList = false := by
        rw [rfOK, hO, hlen, show decide (m + 1 + spanN notOpen (s.data.toList.drop (m + 1)) < s.size) = false by rw [decide_eq_false_iff_not]; omega]; rfl
      rw [rfOut_no hok]
      exact prt_open s _ m hs2 hm rfl HIA HIX0 w
  · rw [if_neg hm] at HIA
    have hok : rfOK s.data.toList = false := by
      rw [rfOK, hlen, show decide (openN s.data.toList < s.size) = false by rw [decide_eq_false_iff_not]; unfold openN; omega]; rfl
    rw [rfOut_no hok]
    exact prt_mark s HIA w

end Go.Proofs.YtfbhjfpkhofifaaGreatDoor
