/- The walk of the document's Print (arbiterref04): an instruction's text; what was there before stays. -/
import Derived.Test.YtfbhjfpkhofifaaGreatDoorCodeL
import Derived.Test.YtfbhjfpkhofifaaGreatDoorCodeF
import Derived.Deep.RegionWith
import Derived.Test.YtfbhjfpkhofifaaGreatDoorCodeJd
namespace Go.Proofs.YtfbhjfpkhofifaaGreatDoor
open Go.RowKit

set_option maxRecDepth 100000 in
set_option maxHeartbeats 4000000 in
theorem print_0 (o : Nat) (n : Int) (ho1 : 1 ≤ o) (ho2 : o ≤ 40) (hk : opdI o = 0) (t : ByteArray) (b : Bool) (c m d : ByteArray) (ht : t.size ≤ maxLen) (hc : c.size ≤ maxLen) (hm : m.size ≤ maxLen) (hd : d.size ≤ maxLen) (h : ickE o n t b c m d = 0) (w : World) : Calls Tryz.prog 42 #[.agg #[.int .i64 (o : Int), .int .i64 n, .string t, .bool b, .string c, .string m, .string d]] w fun e w' => e = .returned (.tuple #[.string ⟨(prtL o n t b c m d).toArray⟩, .int .i64 0]) ∧ Below w.heap.size w w' := by
  have HC := rCheck_any o n t b c m d ht hc hm hd
  rw [h] at HC
  have HC : Hid (∀ w, _) := HC
  have HW : Hid (∀ w, _) := rWords_row
  have HO := rOperand_any o
  rw [hk] at HO
  have HO : Hid (∀ w, _) := HO
  have hts := ick_type h
  obtain ⟨x, hx⟩ : ∃ x, wordsL[o]? = some x := ⟨_, List.getElem?_eq_getElem (by rw [words_size]; omega)⟩
  have hxw : wordL o = x := by rw [wordL, List.getD_eq_getElem?_getD, show (o : Int).toNat = o by omega, hx]; rfl
  have hxl := word_len o
  rw [hxw] at hxl
  obtain ⟨X, hX⟩ : ∃ X : ByteArray, X = ⟨x.toArray⟩ := ⟨_, rfl⟩
  have hXs : X.size ≤ 20 := by rw [hX]; simpa [ByteArray.size] using hxl
  have HP : Hid (prtL o n t b c m d = X.data.toList ++ restL 0 n t.data.toList (rtxL b c.data.toList m.data.toList d.data.toList)) := by rw [Hid, prtL, if_pos h, hk, hxw, hX]
  have HX : Hid (∀ w' : World, ∀ p, (∀ (i : Nat) (x : List UInt8), wordsL[i]? = some x → w'.cell? ⟨p, i, none⟩ = some (.string ⟨x.toArray⟩)) → w'.cell? ⟨p, o, none⟩ = some (.string X)) := fun w' p hh => by rw [hX]; exact hh o x hx
  have HR : Hid (prtL o n t b c m d = X.data.toList) := by rw [Hid, HP.out]; simp [restL]
  clear h hk hx hxw hxl hX HP hc hm hd ht
  go_enter Tryz.func42, Tryz.ntmps42
  go_wp2_with (go_at_call 82; refine (HC.out _).mono ?_; rintro e w1 ⟨rfl, hb1⟩; have hs1 : w.heap.size < w1.heap.size := (by have := hb1.size; simp at this; omega); have hc10 : w1.cell? ⟨w.heap.size, 0, none⟩ = some (.int .i64 (o : Int)) := (hb1.cell (p := ⟨w.heap.size, 0, none⟩) (by simp [*])).trans (by simp [go_sem, *]); have hB1 : Hid (Below w.heap.size w w1) := Below.step ((Below.refl _ _).alloc (Nat.le_refl _) _) hb1; clear hb1 HC)
  go_region_with (go_at_call 83; refine (HW.out _).mono ?_; rintro e w2 ⟨rfl, hb2, hcw⟩; have hcx : w2.cell? ⟨w1.heap.size, o, none⟩ = some (.string X) := HX.out _ _ hcw; have hs2 : w.heap.size < w2.heap.size := (by have := hb2.size; simp at this; omega); have hc20 : w2.cell? ⟨w.heap.size, 0, none⟩ = some (.int .i64 (o : Int)) := (hb2.cell (p := ⟨w.heap.size, 0, none⟩) (by simp [*])).trans (by simp [go_sem, *]); have hB2 : Hid (Below w.heap.size w w2) := Below.step hB1.out.drew hb2; clear hb2 hcw)
  all_goals go_wp2_with (first
    | (go_at_call 84; refine (HO.out _).mono ?_; rintro e w9 ⟨rfl, hw9⟩; rw [hw9]; clear hw9 HO))
  all_goals refine bodyPost_ret (v := .tuple #[.string X, .int .i64 0]) (by simp [results, Tryz.results42, go_sem, *]) rfl ⟨by rw [HR.out], hB2.out⟩

set_option maxRecDepth 100000 in
set_option maxHeartbeats 4000000 in
theorem print_1 (o : Nat) (n : Int) (hn1 : -9223372036854775808 ≤ n) (hn2 : n ≤ 9223372036854775807) (ho1 : 1 ≤ o) (ho2 : o ≤ 40) (hk : opdI o = 1) (t : ByteArray) (b : Bool) (c m d : ByteArray) (ht : t.size ≤ maxLen) (hc : c.size ≤ maxLen) (hm : m.size ≤ maxLen) (hd : d.size ≤ maxLen) (h : ickE o n t b c m d = 0) (w : World) : Calls Tryz.prog 42 #[.agg #[.int .i64 (o : Int), .int .i64 n, .string t, .bool b, .string c, .string m, .string d]] w fun e w' => e = .returned (.tuple #[.string ⟨(prtL o n t b c m d).toArray⟩, .int .i64 0]) ∧ Below w.heap.size w w' := by
  have HC := rCheck_any o n t b c m d ht hc hm hd
  rw [h] at HC
  have HC : Hid (∀ w, _) := HC
  have HW : Hid (∀ w, _) := rWords_row
  have HO := rOperand_any o
  rw [hk] at HO
  have HO : Hid (∀ w, _) := HO
  have hts := ick_type h
  obtain ⟨x, hx⟩ : ∃ x, wordsL[o]? = some x := ⟨_, List.getElem?_eq_getElem (by rw [words_size]; omega)⟩
  have hxw : wordL o = x := by rw [wordL, List.getD_eq_getElem?_getD, show (o : Int).toNat = o by omega, hx]; rfl
  have hxl := word_len o
  rw [hxw] at hxl
  obtain ⟨X, hX⟩ : ∃ X : ByteArray, X = ⟨x.toArray⟩ := ⟨_, rfl⟩
  have hXs : X.size ≤ 20 := by rw [hX]; simpa [ByteArray.size] using hxl
  have HP : Hid (prtL o n t b c m d = X.data.toList ++ restL 1 n t.data.toList (rtxL b c.data.toList m.data.toList d.data.toList)) := by rw [Hid, prtL, if_pos h, hk, hxw, hX]
  have HX : Hid (∀ w' : World, ∀ p, (∀ (i : Nat) (x : List UInt8), wordsL[i]? = some x → w'.cell? ⟨p, i, none⟩ = some (.string ⟨x.toArray⟩)) → w'.cell? ⟨p, o, none⟩ = some (.string X)) := fun w' p hh => by rw [hX]; exact hh o x hx
  have HD : Hid (∀ w, _) := rDecimal_any n hn1 hn2
  obtain ⟨D, hD⟩ : ∃ D : ByteArray, D = ⟨(Lib.itoa n).toArray⟩ := ⟨_, rfl⟩
  have hDs : D.size ≤ 21 := by rw [hD]; exact itoa_size n hn1 hn2
  rw [← hD] at HD
  have HR : Hid (prtL o n t b c m d = (X ++ ⟨#[32]⟩ ++ D : ByteArray).data.toList) := by rw [Hid, HP.out, hD]; simp [restL, ByteArray.data_append]
  clear h hk hx hxw hxl hX HP hc hm hd ht hD
  go_enter Tryz.func42, Tryz.ntmps42
  go_wp2_with (go_at_call 82; refine (HC.out _).mono ?_; rintro e w1 ⟨rfl, hb1⟩; have hs1 : w.heap.size < w1.heap.size := (by have := hb1.size; simp at this; omega); have hc10 : w1.cell? ⟨w.heap.size, 0, none⟩ = some (.int .i64 (o : Int)) := (hb1.cell (p := ⟨w.heap.size, 0, none⟩) (by simp [*])).trans (by simp [go_sem, *]); have hc11 : w1.cell? ⟨w.heap.size, 1, none⟩ = some (.int .i64 n) := (hb1.cell (p := ⟨w.heap.size, 1, none⟩) (by simp [*])).trans (by simp [go_sem, *]); have hB1 : Hid (Below w.heap.size w w1) := Below.step ((Below.refl _ _).alloc (Nat.le_refl _) _) hb1; clear hb1 HC)
  go_region_with (go_at_call 83; refine (HW.out _).mono ?_; rintro e w2 ⟨rfl, hb2, hcw⟩; have hcx : w2.cell? ⟨w1.heap.size, o, none⟩ = some (.string X) := HX.out _ _ hcw; have hs2 : w.heap.size < w2.heap.size := (by have := hb2.size; simp at this; omega); have hc20 : w2.cell? ⟨w.heap.size, 0, none⟩ = some (.int .i64 (o : Int)) := (hb2.cell (p := ⟨w.heap.size, 0, none⟩) (by simp [*])).trans (by simp [go_sem, *]); have hc21 : w2.cell? ⟨w.heap.size, 1, none⟩ = some (.int .i64 n) := (hb2.cell (p := ⟨w.heap.size, 1, none⟩) (by simp [*])).trans (by simp [go_sem, *]); have hB2 : Hid (Below w.heap.size w w2) := Below.step hB1.out.drew hb2; clear hb2 hcw)
  all_goals go_wp2_with (first
    | (go_at_call 84; refine (HO.out _).mono ?_; rintro e w9 ⟨rfl, hw9⟩; rw [hw9]; clear hw9 HO)
    | (go_at_call 40; refine (HD.out _).mono ?_; rintro e w3 ⟨rfl, hb3⟩; have hB3 : Hid (Below w.heap.size w w3) := Below.step hB2.out hb3; clear hb3 HD))
  all_goals refine bodyPost_ret (v := .tuple #[.string (X ++ ⟨#[32]⟩ ++ D), .int .i64 0]) (by simp [results, Tryz.results42, go_sem, *]) rfl ⟨by rw [HR.out], hB3.out⟩

set_option maxRecDepth 100000 in
set_option maxHeartbeats 4000000 in
theorem print_2 (o : Nat) (n : Int) (hn1 : -9223372036854775808 ≤ n) (hn2 : n ≤ 9223372036854775807) (ho1 : 1 ≤ o) (ho2 : o ≤ 40) (hk : opdI o = 2) (t : ByteArray) (b : Bool) (c m d : ByteArray) (ht : t.size ≤ maxLen) (hc : c.size ≤ maxLen) (hm : m.size ≤ maxLen) (hd : d.size ≤ maxLen) (h : ickE o n t b c m d = 0) (w : World) : Calls Tryz.prog 42 #[.agg #[.int .i64 (o : Int), .int .i64 n, .string t, .bool b, .string c, .string m, .string d]] w fun e w' => e = .returned (.tuple #[.string ⟨(prtL o n t b c m d).toArray⟩, .int .i64 0]) ∧ Below w.heap.size w w' := by
  have HC := rCheck_any o n t b c m d ht hc hm hd
  rw [h] at HC
  have HC : Hid (∀ w, _) := HC
  have HW : Hid (∀ w, _) := rWords_row
  have HO := rOperand_any o
  rw [hk] at HO
  have HO : Hid (∀ w, _) := HO
  have hts := ick_type h
  obtain ⟨x, hx⟩ : ∃ x, wordsL[o]? = some x := ⟨_, List.getElem?_eq_getElem (by rw [words_size]; omega)⟩
  have hxw : wordL o = x := by rw [wordL, List.getD_eq_getElem?_getD, show (o : Int).toNat = o by omega, hx]; rfl
  have hxl := word_len o
  rw [hxw] at hxl
  obtain ⟨X, hX⟩ : ∃ X : ByteArray, X = ⟨x.toArray⟩ := ⟨_, rfl⟩
  have hXs : X.size ≤ 20 := by rw [hX]; simpa [ByteArray.size] using hxl
  have HP : Hid (prtL o n t b c m d = X.data.toList ++ restL 2 n t.data.toList (rtxL b c.data.toList m.data.toList d.data.toList)) := by rw [Hid, prtL, if_pos h, hk, hxw, hX]
  have HX : Hid (∀ w' : World, ∀ p, (∀ (i : Nat) (x : List UInt8), wordsL[i]? = some x → w'.cell? ⟨p, i, none⟩ = some (.string ⟨x.toArray⟩)) → w'.cell? ⟨p, o, none⟩ = some (.string X)) := fun w' p hh => by rw [hX]; exact hh o x hx
  have HD : Hid (∀ w, _) := rDecimal_any n hn1 hn2
  obtain ⟨D, hD⟩ : ∃ D : ByteArray, D = ⟨(Lib.itoa n).toArray⟩ := ⟨_, rfl⟩
  have hDs : D.size ≤ 21 := by rw [hD]; exact itoa_size n hn1 hn2
  rw [← hD] at HD
  have HR : Hid (prtL o n t b c m d = (X ++ ⟨#[32]⟩ ++ D : ByteArray).data.toList) := by rw [Hid, HP.out, hD]; simp [restL, ByteArray.data_append]
  clear h hk hx hxw hxl hX HP hc hm hd ht hD
  go_enter Tryz.func42, Tryz.ntmps42
  go_wp2_with (go_at_call 82; refine (HC.out _).mono ?_; rintro e w1 ⟨rfl, hb1⟩; have hs1 : w.heap.size < w1.heap.size := (by have := hb1.size; simp at this; omega); have hc10 : w1.cell? ⟨w.heap.size, 0, none⟩ = some (.int .i64 (o : Int)) := (hb1.cell (p := ⟨w.heap.size, 0, none⟩) (by simp [*])).trans (by simp [go_sem, *]); have hc11 : w1.cell? ⟨w.heap.size, 1, none⟩ = some (.int .i64 n) := (hb1.cell (p := ⟨w.heap.size, 1, none⟩) (by simp [*])).trans (by simp [go_sem, *]); have hB1 : Hid (Below w.heap.size w w1) := Below.step ((Below.refl _ _).alloc (Nat.le_refl _) _) hb1; clear hb1 HC)
  go_region_with (go_at_call 83; refine (HW.out _).mono ?_; rintro e w2 ⟨rfl, hb2, hcw⟩; have hcx : w2.cell? ⟨w1.heap.size, o, none⟩ = some (.string X) := HX.out _ _ hcw; have hs2 : w.heap.size < w2.heap.size := (by have := hb2.size; simp at this; omega); have hc20 : w2.cell? ⟨w.heap.size, 0, none⟩ = some (.int .i64 (o : Int)) := (hb2.cell (p := ⟨w.heap.size, 0, none⟩) (by simp [*])).trans (by simp [go_sem, *]); have hc21 : w2.cell? ⟨w.heap.size, 1, none⟩ = some (.int .i64 n) := (hb2.cell (p := ⟨w.heap.size, 1, none⟩) (by simp [*])).trans (by simp [go_sem, *]); have hB2 : Hid (Below w.heap.size w w2) := Below.step hB1.out.drew hb2; clear hb2 hcw)
  all_goals go_wp2_with (first
    | (go_at_call 84; refine (HO.out _).mono ?_; rintro e w9 ⟨rfl, hw9⟩; rw [hw9]; clear hw9 HO)
    | (go_at_call 40; refine (HD.out _).mono ?_; rintro e w3 ⟨rfl, hb3⟩; have hB3 : Hid (Below w.heap.size w w3) := Below.step hB2.out hb3; clear hb3 HD))
  all_goals refine bodyPost_ret (v := .tuple #[.string (X ++ ⟨#[32]⟩ ++ D), .int .i64 0]) (by simp [results, Tryz.results42, go_sem, *]) rfl ⟨by rw [HR.out], hB3.out⟩

set_option maxRecDepth 100000 in
set_option maxHeartbeats 4000000 in
theorem print_3 (o : Nat) (n : Int) (hn1 : -9223372036854775808 ≤ n) (hn2 : n ≤ 9223372036854775807) (ho1 : 1 ≤ o) (ho2 : o ≤ 40) (hk : opdI o = 3) (t : ByteArray) (b : Bool) (c m d : ByteArray) (ht : t.size ≤ maxLen) (hc : c.size ≤ maxLen) (hm : m.size ≤ maxLen) (hd : d.size ≤ maxLen) (h : ickE o n t b c m d = 0) (w : World) : Calls Tryz.prog 42 #[.agg #[.int .i64 (o : Int), .int .i64 n, .string t, .bool b, .string c, .string m, .string d]] w fun e w' => e = .returned (.tuple #[.string ⟨(prtL o n t b c m d).toArray⟩, .int .i64 0]) ∧ Below w.heap.size w w' := by
  have HC := rCheck_any o n t b c m d ht hc hm hd
  rw [h] at HC
  have HC : Hid (∀ w, _) := HC
  have HW : Hid (∀ w, _) := rWords_row
  have HO := rOperand_any o
  rw [hk] at HO
  have HO : Hid (∀ w, _) := HO
  have hts := ick_type h
  obtain ⟨x, hx⟩ : ∃ x, wordsL[o]? = some x := ⟨_, List.getElem?_eq_getElem (by rw [words_size]; omega)⟩
  have hxw : wordL o = x := by rw [wordL, List.getD_eq_getElem?_getD, show (o : Int).toNat = o by omega, hx]; rfl
  have hxl := word_len o
  rw [hxw] at hxl
  obtain ⟨X, hX⟩ : ∃ X : ByteArray, X = ⟨x.toArray⟩ := ⟨_, rfl⟩
  have hXs : X.size ≤ 20 := by rw [hX]; simpa [ByteArray.size] using hxl
  have HP : Hid (prtL o n t b c m d = X.data.toList ++ restL 3 n t.data.toList (rtxL b c.data.toList m.data.toList d.data.toList)) := by rw [Hid, prtL, if_pos h, hk, hxw, hX]
  have HX : Hid (∀ w' : World, ∀ p, (∀ (i : Nat) (x : List UInt8), wordsL[i]? = some x → w'.cell? ⟨p, i, none⟩ = some (.string ⟨x.toArray⟩)) → w'.cell? ⟨p, o, none⟩ = some (.string X)) := fun w' p hh => by rw [hX]; exact hh o x hx
  have HD : Hid (∀ w, _) := rDecimal_any n hn1 hn2
  obtain ⟨D, hD⟩ : ∃ D : ByteArray, D = ⟨(Lib.itoa n).toArray⟩ := ⟨_, rfl⟩
  have hDs : D.size ≤ 21 := by rw [hD]; exact itoa_size n hn1 hn2
  rw [← hD] at HD
  have HR : Hid (prtL o n t b c m d = (X ++ ⟨#[32]⟩ ++ D : ByteArray).data.toList) := by rw [Hid, HP.out, hD]; simp [restL, ByteArray.data_append]
  clear h hk hx hxw hxl hX HP hc hm hd ht hD
  go_enter Tryz.func42, Tryz.ntmps42
  go_wp2_with (go_at_call 82; refine (HC.out _).mono ?_; rintro e w1 ⟨rfl, hb1⟩; have hs1 : w.heap.size < w1.heap.size := (by have := hb1.size; simp at this; omega); have hc10 : w1.cell? ⟨w.heap.size, 0, none⟩ = some (.int .i64 (o : Int)) := (hb1.cell (p := ⟨w.heap.size, 0, none⟩) (by simp [*])).trans (by simp [go_sem, *]); have hc11 : w1.cell? ⟨w.heap.size, 1, none⟩ = some (.int .i64 n) := (hb1.cell (p := ⟨w.heap.size, 1, none⟩) (by simp [*])).trans (by simp [go_sem, *]); have hB1 : Hid (Below w.heap.size w w1) := Below.step ((Below.refl _ _).alloc (Nat.le_refl _) _) hb1; clear hb1 HC)
  go_region_with (go_at_call 83; refine (HW.out _).mono ?_; rintro e w2 ⟨rfl, hb2, hcw⟩; have hcx : w2.cell? ⟨w1.heap.size, o, none⟩ = some (.string X) := HX.out _ _ hcw; have hs2 : w.heap.size < w2.heap.size := (by have := hb2.size; simp at this; omega); have hc20 : w2.cell? ⟨w.heap.size, 0, none⟩ = some (.int .i64 (o : Int)) := (hb2.cell (p := ⟨w.heap.size, 0, none⟩) (by simp [*])).trans (by simp [go_sem, *]); have hc21 : w2.cell? ⟨w.heap.size, 1, none⟩ = some (.int .i64 n) := (hb2.cell (p := ⟨w.heap.size, 1, none⟩) (by simp [*])).trans (by simp [go_sem, *]); have hB2 : Hid (Below w.heap.size w w2) := Below.step hB1.out.drew hb2; clear hb2 hcw)
  all_goals go_wp2_with (first
    | (go_at_call 84; refine (HO.out _).mono ?_; rintro e w9 ⟨rfl, hw9⟩; rw [hw9]; clear hw9 HO)
    | (go_at_call 40; refine (HD.out _).mono ?_; rintro e w3 ⟨rfl, hb3⟩; have hB3 : Hid (Below w.heap.size w w3) := Below.step hB2.out hb3; clear hb3 HD))
  all_goals refine bodyPost_ret (v := .tuple #[.string (X ++ ⟨#[32]⟩ ++ D), .int .i64 0]) (by simp [results, Tryz.results42, go_sem, *]) rfl ⟨by rw [HR.out], hB3.out⟩

set_option maxRecDepth 100000 in
set_option maxHeartbeats 4000000 in
theorem print_4 (o : Nat) (n : Int) (ho1 : 1 ≤ o) (ho2 : o ≤ 40) (hk : opdI o = 4) (t : ByteArray) (b : Bool) (c m d : ByteArray) (ht : t.size ≤ maxLen) (hc : c.size ≤ maxLen) (hm : m.size ≤ maxLen) (hd : d.size ≤ maxLen) (h : ickE o n t b c m d = 0) (w : World) : Calls Tryz.prog 42 #[.agg #[.int .i64 (o : Int), .int .i64 n, .string t, .bool b, .string c, .string m, .string d]] w fun e w' => e = .returned (.tuple #[.string ⟨(prtL o n t b c m d).toArray⟩, .int .i64 0]) ∧ Below w.heap.size w w' := by
  have HC := rCheck_any o n t b c m d ht hc hm hd
  rw [h] at HC
  have HC : Hid (∀ w, _) := HC
  have HW : Hid (∀ w, _) := rWords_row
  have HO := rOperand_any o
  rw [hk] at HO
  have HO : Hid (∀ w, _) := HO
  have hts := ick_type h
  obtain ⟨x, hx⟩ : ∃ x, wordsL[o]? = some x := ⟨_, List.getElem?_eq_getElem (by rw [words_size]; omega)⟩
  have hxw : wordL o = x := by rw [wordL, List.getD_eq_getElem?_getD, show (o : Int).toNat = o by omega, hx]; rfl
  have hxl := word_len o
  rw [hxw] at hxl
  obtain ⟨X, hX⟩ : ∃ X : ByteArray, X = ⟨x.toArray⟩ := ⟨_, rfl⟩
  have hXs : X.size ≤ 20 := by rw [hX]; simpa [ByteArray.size] using hxl
  have HP : Hid (prtL o n t b c m d = X.data.toList ++ restL 4 n t.data.toList (rtxL b c.data.toList m.data.toList d.data.toList)) := by rw [Hid, prtL, if_pos h, hk, hxw, hX]
  have HX : Hid (∀ w' : World, ∀ p, (∀ (i : Nat) (x : List UInt8), wordsL[i]? = some x → w'.cell? ⟨p, i, none⟩ = some (.string ⟨x.toArray⟩)) → w'.cell? ⟨p, o, none⟩ = some (.string X)) := fun w' p hh => by rw [hX]; exact hh o x hx
  have HR : Hid (prtL o n t b c m d = (X ++ ⟨#[32]⟩ ++ t : ByteArray).data.toList) := by rw [Hid, HP.out]; simp [restL, ByteArray.data_append]
  clear h hk hx hxw hxl hX HP hc hm hd ht
  go_enter Tryz.func42, Tryz.ntmps42
  go_wp2_with (go_at_call 82; refine (HC.out _).mono ?_; rintro e w1 ⟨rfl, hb1⟩; have hs1 : w.heap.size < w1.heap.size := (by have := hb1.size; simp at this; omega); have hc10 : w1.cell? ⟨w.heap.size, 0, none⟩ = some (.int .i64 (o : Int)) := (hb1.cell (p := ⟨w.heap.size, 0, none⟩) (by simp [*])).trans (by simp [go_sem, *]); have hc12 : w1.cell? ⟨w.heap.size, 2, none⟩ = some (.string t) := (hb1.cell (p := ⟨w.heap.size, 2, none⟩) (by simp [*])).trans (by simp [go_sem, *]); have hB1 : Hid (Below w.heap.size w w1) := Below.step ((Below.refl _ _).alloc (Nat.le_refl _) _) hb1; clear hb1 HC)
  go_region_with (go_at_call 83; refine (HW.out _).mono ?_; rintro e w2 ⟨rfl, hb2, hcw⟩; have hcx : w2.cell? ⟨w1.heap.size, o, none⟩ = some (.string X) := HX.out _ _ hcw; have hs2 : w.heap.size < w2.heap.size := (by have := hb2.size; simp at this; omega); have hc20 : w2.cell? ⟨w.heap.size, 0, none⟩ = some (.int .i64 (o : Int)) := (hb2.cell (p := ⟨w.heap.size, 0, none⟩) (by simp [*])).trans (by simp [go_sem, *]); have hc22 : w2.cell? ⟨w.heap.size, 2, none⟩ = some (.string t) := (hb2.cell (p := ⟨w.heap.size, 2, none⟩) (by simp [*])).trans (by simp [go_sem, *]); have hB2 : Hid (Below w.heap.size w w2) := Below.step hB1.out.drew hb2; clear hb2 hcw)
  all_goals go_wp2_with (first
    | (go_at_call 84; refine (HO.out _).mono ?_; rintro e w9 ⟨rfl, hw9⟩; rw [hw9]; clear hw9 HO))
  all_goals refine bodyPost_ret (v := .tuple #[.string (X ++ ⟨#[32]⟩ ++ t), .int .i64 0]) (by simp [results, Tryz.results42, go_sem, *]) rfl ⟨by rw [HR.out], hB2.out⟩

set_option maxRecDepth 100000 in
set_option maxHeartbeats 4000000 in
theorem print_5 (o : Nat) (n : Int) (ho1 : 1 ≤ o) (ho2 : o ≤ 40) (hk : opdI o = 5) (t : ByteArray) (b : Bool) (c m d : ByteArray) (ht : t.size ≤ maxLen) (hc : c.size ≤ maxLen) (hm : m.size ≤ maxLen) (hd : d.size ≤ maxLen) (h : ickE o n t b c m d = 0) (w : World) : Calls Tryz.prog 42 #[.agg #[.int .i64 (o : Int), .int .i64 n, .string t, .bool b, .string c, .string m, .string d]] w fun e w' => e = .returned (.tuple #[.string ⟨(prtL o n t b c m d).toArray⟩, .int .i64 0]) ∧ Below w.heap.size w w' := by
  have HC := rCheck_any o n t b c m d ht hc hm hd
  rw [h] at HC
  have HC : Hid (∀ w, _) := HC
  have HW : Hid (∀ w, _) := rWords_row
  have HO := rOperand_any o
  rw [hk] at HO
  have HO : Hid (∀ w, _) := HO
  have hts := ick_type h
  obtain ⟨x, hx⟩ : ∃ x, wordsL[o]? = some x := ⟨_, List.getElem?_eq_getElem (by rw [words_size]; omega)⟩
  have hxw : wordL o = x := by rw [wordL, List.getD_eq_getElem?_getD, show (o : Int).toNat = o by omega, hx]; rfl
  have hxl := word_len o
  rw [hxw] at hxl
  obtain ⟨X, hX⟩ : ∃ X : ByteArray, X = ⟨x.toArray⟩ := ⟨_, rfl⟩
  have hXs : X.size ≤ 20 := by rw [hX]; simpa [ByteArray.size] using hxl
  have HP : Hid (prtL o n t b c m d = X.data.toList ++ restL 5 n t.data.toList (rtxL b c.data.toList m.data.toList d.data.toList)) := by rw [Hid, prtL, if_pos h, hk, hxw, hX]
  have HX : Hid (∀ w' : World, ∀ p, (∀ (i : Nat) (x : List UInt8), wordsL[i]? = some x → w'.cell? ⟨p, i, none⟩ = some (.string ⟨x.toArray⟩)) → w'.cell? ⟨p, o, none⟩ = some (.string X)) := fun w' p hh => by rw [hX]; exact hh o x hx
  have HR : Hid (prtL o n t b c m d = (X ++ ⟨#[32]⟩ ++ t : ByteArray).data.toList) := by rw [Hid, HP.out]; simp [restL, ByteArray.data_append]
  clear h hk hx hxw hxl hX HP hc hm hd ht
  go_enter Tryz.func42, Tryz.ntmps42
  go_wp2_with (go_at_call 82; refine (HC.out _).mono ?_; rintro e w1 ⟨rfl, hb1⟩; have hs1 : w.heap.size < w1.heap.size := (by have := hb1.size; simp at this; omega); have hc10 : w1.cell? ⟨w.heap.size, 0, none⟩ = some (.int .i64 (o : Int)) := (hb1.cell (p := ⟨w.heap.size, 0, none⟩) (by simp [*])).trans (by simp [go_sem, *]); have hc12 : w1.cell? ⟨w.heap.size, 2, none⟩ = some (.string t) := (hb1.cell (p := ⟨w.heap.size, 2, none⟩) (by simp [*])).trans (by simp [go_sem, *]); have hB1 : Hid (Below w.heap.size w w1) := Below.step ((Below.refl _ _).alloc (Nat.le_refl _) _) hb1; clear hb1 HC)
  go_region_with (go_at_call 83; refine (HW.out _).mono ?_; rintro e w2 ⟨rfl, hb2, hcw⟩; have hcx : w2.cell? ⟨w1.heap.size, o, none⟩ = some (.string X) := HX.out _ _ hcw; have hs2 : w.heap.size < w2.heap.size := (by have := hb2.size; simp at this; omega); have hc20 : w2.cell? ⟨w.heap.size, 0, none⟩ = some (.int .i64 (o : Int)) := (hb2.cell (p := ⟨w.heap.size, 0, none⟩) (by simp [*])).trans (by simp [go_sem, *]); have hc22 : w2.cell? ⟨w.heap.size, 2, none⟩ = some (.string t) := (hb2.cell (p := ⟨w.heap.size, 2, none⟩) (by simp [*])).trans (by simp [go_sem, *]); have hB2 : Hid (Below w.heap.size w w2) := Below.step hB1.out.drew hb2; clear hb2 hcw)
  all_goals go_wp2_with (first
    | (go_at_call 84; refine (HO.out _).mono ?_; rintro e w9 ⟨rfl, hw9⟩; rw [hw9]; clear hw9 HO))
  all_goals refine bodyPost_ret (v := .tuple #[.string (X ++ ⟨#[32]⟩ ++ t), .int .i64 0]) (by simp [results, Tryz.results42, go_sem, *]) rfl ⟨by rw [HR.out], hB2.out⟩

set_option maxRecDepth 100000 in
set_option maxHeartbeats 4000000 in
theorem print_6 (o : Nat) (n : Int) (ho1 : 1 ≤ o) (ho2 : o ≤ 40) (hk : opdI o = 6) (t : ByteArray) (b : Bool) (c m d : ByteArray) (ht : t.size ≤ maxLen) (hc : c.size ≤ maxLen) (hm : m.size ≤ maxLen) (hd : d.size ≤ maxLen) (h : ickE o n t b c m d = 0) (w : World) : Calls Tryz.prog 42 #[.agg #[.int .i64 (o : Int), .int .i64 n, .string t, .bool b, .string c, .string m, .string d]] w fun e w' => e = .returned (.tuple #[.string ⟨(prtL o n t b c m d).toArray⟩, .int .i64 0]) ∧ Below w.heap.size w w' := by
  have HC := rCheck_any o n t b c m d ht hc hm hd
  rw [h] at HC
  have HC : Hid (∀ w, _) := HC
  have HW : Hid (∀ w, _) := rWords_row
  have HO := rOperand_any o
  rw [hk] at HO
  have HO : Hid (∀ w, _) := HO
  have hts := ick_type h
  obtain ⟨x, hx⟩ : ∃ x, wordsL[o]? = some x := ⟨_, List.getElem?_eq_getElem (by rw [words_size]; omega)⟩
  have hxw : wordL o = x := by rw [wordL, List.getD_eq_getElem?_getD, show (o : Int).toNat = o by omega, hx]; rfl
  have hxl := word_len o
  rw [hxw] at hxl
  obtain ⟨X, hX⟩ : ∃ X : ByteArray, X = ⟨x.toArray⟩ := ⟨_, rfl⟩
  have hXs : X.size ≤ 20 := by rw [hX]; simpa [ByteArray.size] using hxl
  have HP : Hid (prtL o n t b c m d = X.data.toList ++ restL 6 n t.data.toList (rtxL b c.data.toList m.data.toList d.data.toList)) := by rw [Hid, prtL, if_pos h, hk, hxw, hX]
  have HX : Hid (∀ w' : World, ∀ p, (∀ (i : Nat) (x : List UInt8), wordsL[i]? = some x → w'.cell? ⟨p, i, none⟩ = some (.string ⟨x.toArray⟩)) → w'.cell? ⟨p, o, none⟩ = some (.string X)) := fun w' p hh => by rw [hX]; exact hh o x hx
  have HR : Hid (prtL o n t b c m d = (X ++ ⟨#[32]⟩ ++ t : ByteArray).data.toList) := by rw [Hid, HP.out]; simp [restL, ByteArray.data_append]
  clear h hk hx hxw hxl hX HP hc hm hd ht
  go_enter Tryz.func42, Tryz.ntmps42
  go_wp2_with (go_at_call 82; refine (HC.out _).mono ?_; rintro e w1 ⟨rfl, hb1⟩; have hs1 : w.heap.size < w1.heap.size := (by have := hb1.size; simp at this; omega); have hc10 : w1.cell? ⟨w.heap.size, 0, none⟩ = some (.int .i64 (o : Int)) := (hb1.cell (p := ⟨w.heap.size, 0, none⟩) (by simp [*])).trans (by simp [go_sem, *]); have hc12 : w1.cell? ⟨w.heap.size, 2, none⟩ = some (.string t) := (hb1.cell (p := ⟨w.heap.size, 2, none⟩) (by simp [*])).trans (by simp [go_sem, *]); have hB1 : Hid (Below w.heap.size w w1) := Below.step ((Below.refl _ _).alloc (Nat.le_refl _) _) hb1; clear hb1 HC)
  go_region_with (go_at_call 83; refine (HW.out _).mono ?_; rintro e w2 ⟨rfl, hb2, hcw⟩; have hcx : w2.cell? ⟨w1.heap.size, o, none⟩ = some (.string X) := HX.out _ _ hcw; have hs2 : w.heap.size < w2.heap.size := (by have := hb2.size; simp at this; omega); have hc20 : w2.cell? ⟨w.heap.size, 0, none⟩ = some (.int .i64 (o : Int)) := (hb2.cell (p := ⟨w.heap.size, 0, none⟩) (by simp [*])).trans (by simp [go_sem, *]); have hc22 : w2.cell? ⟨w.heap.size, 2, none⟩ = some (.string t) := (hb2.cell (p := ⟨w.heap.size, 2, none⟩) (by simp [*])).trans (by simp [go_sem, *]); have hB2 : Hid (Below w.heap.size w w2) := Below.step hB1.out.drew hb2; clear hb2 hcw)
  all_goals go_wp2_with (first
    | (go_at_call 84; refine (HO.out _).mono ?_; rintro e w9 ⟨rfl, hw9⟩; rw [hw9]; clear hw9 HO))
  all_goals refine bodyPost_ret (v := .tuple #[.string (X ++ ⟨#[32]⟩ ++ t), .int .i64 0]) (by simp [results, Tryz.results42, go_sem, *]) rfl ⟨by rw [HR.out], hB2.out⟩

set_option maxRecDepth 100000 in
set_option maxHeartbeats 4000000 in
theorem print_7 (o : Nat) (n : Int) (hn1 : -9223372036854775808 ≤ n) (hn2 : n ≤ 9223372036854775807) (ho1 : 1 ≤ o) (ho2 : o ≤ 40) (hk : opdI o = 7) (t : ByteArray) (b : Bool) (c m d : ByteArray) (ht : t.size ≤ maxLen) (hc : c.size ≤ maxLen) (hm : m.size ≤ maxLen) (hd : d.size ≤ maxLen) (h : ickE o n t b c m d = 0) (w : World) : Calls Tryz.prog 42 #[.agg #[.int .i64 (o : Int), .int .i64 n, .string t, .bool b, .string c, .string m, .string d]] w fun e w' => e = .returned (.tuple #[.string ⟨(prtL o n t b c m d).toArray⟩, .int .i64 0]) ∧ Below w.heap.size w w' := by
  have HC := rCheck_any o n t b c m d ht hc hm hd
  rw [h] at HC
  have HC : Hid (∀ w, _) := HC
  have HW : Hid (∀ w, _) := rWords_row
  have HO := rOperand_any o
  rw [hk] at HO
  have HO : Hid (∀ w, _) := HO
  have hts := ick_type h
  obtain ⟨x, hx⟩ : ∃ x, wordsL[o]? = some x := ⟨_, List.getElem?_eq_getElem (by rw [words_size]; omega)⟩
  have hxw : wordL o = x := by rw [wordL, List.getD_eq_getElem?_getD, show (o : Int).toNat = o by omega, hx]; rfl
  have hxl := word_len o
  rw [hxw] at hxl
  obtain ⟨X, hX⟩ : ∃ X : ByteArray, X = ⟨x.toArray⟩ := ⟨_, rfl⟩
  have hXs : X.size ≤ 20 := by rw [hX]; simpa [ByteArray.size] using hxl
  have HP : Hid (prtL o n t b c m d = X.data.toList ++ restL 7 n t.data.toList (rtxL b c.data.toList m.data.toList d.data.toList)) := by rw [Hid, prtL, if_pos h, hk, hxw, hX]
  have HX : Hid (∀ w' : World, ∀ p, (∀ (i : Nat) (x : List UInt8), wordsL[i]? = some x → w'.cell? ⟨p, i, none⟩ = some (.string ⟨x.toArray⟩)) → w'.cell? ⟨p, o, none⟩ = some (.string X)) := fun w' p hh => by rw [hX]; exact hh o x hx
  have HD : Hid (∀ w, _) := rDecimal_any n hn1 hn2
  obtain ⟨D, hD⟩ : ∃ D : ByteArray, D = ⟨(Lib.itoa n).toArray⟩ := ⟨_, rfl⟩
  have hDs : D.size ≤ 21 := by rw [hD]; exact itoa_size n hn1 hn2
  rw [← hD] at HD
  have HR : Hid (prtL o n t b c m d = (X ++ ⟨#[32]⟩ ++ D ++ ⟨#[32]⟩ ++ t : ByteArray).data.toList) := by rw [Hid, HP.out, hD]; simp [restL, ByteArray.data_append]
  clear h hk hx hxw hxl hX HP hc hm hd ht hD
  go_enter Tryz.func42, Tryz.ntmps42
  go_wp2_with (go_at_call 82; refine (HC.out _).mono ?_; rintro e w1 ⟨rfl, hb1⟩; have hs1 : w.heap.size < w1.heap.size := (by have := hb1.size; simp at this; omega); have hc10 : w1.cell? ⟨w.heap.size, 0, none⟩ = some (.int .i64 (o : Int)) := (hb1.cell (p := ⟨w.heap.size, 0, none⟩) (by simp [*])).trans (by simp [go_sem, *]); have hc11 : w1.cell? ⟨w.heap.size, 1, none⟩ = some (.int .i64 n) := (hb1.cell (p := ⟨w.heap.size, 1, none⟩) (by simp [*])).trans (by simp [go_sem, *]); have hc12 : w1.cell? ⟨w.heap.size, 2, none⟩ = some (.string t) := (hb1.cell (p := ⟨w.heap.size, 2, none⟩) (by simp [*])).trans (by simp [go_sem, *]); have hB1 : Hid (Below w.heap.size w w1) := Below.step ((Below.refl _ _).alloc (Nat.le_refl _) _) hb1; clear hb1 HC)
  go_region_with (go_at_call 83; refine (HW.out _).mono ?_; rintro e w2 ⟨rfl, hb2, hcw⟩; have hcx : w2.cell? ⟨w1.heap.size, o, none⟩ = some (.string X) := HX.out _ _ hcw; have hs2 : w.heap.size < w2.heap.size := (by have := hb2.size; simp at this; omega); have hc20 : w2.cell? ⟨w.heap.size, 0, none⟩ = some (.int .i64 (o : Int)) := (hb2.cell (p := ⟨w.heap.size, 0, none⟩) (by simp [*])).trans (by simp [go_sem, *]); have hc21 : w2.cell? ⟨w.heap.size, 1, none⟩ = some (.int .i64 n) := (hb2.cell (p := ⟨w.heap.size, 1, none⟩) (by simp [*])).trans (by simp [go_sem, *]); have hc22 : w2.cell? ⟨w.heap.size, 2, none⟩ = some (.string t) := (hb2.cell (p := ⟨w.heap.size, 2, none⟩) (by simp [*])).trans (by simp [go_sem, *]); have hB2 : Hid (Below w.heap.size w w2) := Below.step hB1.out.drew hb2; clear hb2 hcw)
  all_goals go_wp2_with (go_at_call 84; refine (HO.out _).mono ?_; rintro e w9 ⟨rfl, hw9⟩; rw [hw9]; clear hw9 HO)
  all_goals go_region_with (go_at_call 40; refine (HD.out _).mono ?_; rintro e w3 ⟨rfl, hb3⟩; have hs3 : w.heap.size < w3.heap.size := (by have := hb3.size; simp at this; omega); have hc32 : w3.cell? ⟨w.heap.size, 2, none⟩ = some (.string t) := (hb3.cell (p := ⟨w.heap.size, 2, none⟩) (by simp [*])).trans (by simp [go_sem, *]); have hB3 : Hid (Below w.heap.size w w3) := Below.step hB2.out.drew hb3; clear hb3)
  all_goals go_wp2
  all_goals refine bodyPost_ret (v := .tuple #[.string (X ++ ⟨#[32]⟩ ++ D ++ ⟨#[32]⟩ ++ t), .int .i64 0]) (by simp [results, Tryz.results42, go_sem, *]) rfl ⟨by rw [HR.out], hB3.out⟩

set_option maxRecDepth 100000 in
set_option maxHeartbeats 4000000 in
theorem print_8 (o : Nat) (n : Int) (ho1 : 1 ≤ o) (ho2 : o ≤ 40) (hk : opdI o = 8) (t : ByteArray) (b : Bool) (c m d : ByteArray) (ht : t.size ≤ maxLen) (hc : c.size ≤ maxLen) (hm : m.size ≤ maxLen) (hd : d.size ≤ maxLen) (h : ickE o n t b c m d = 0) (w : World) : Calls Tryz.prog 42 #[.agg #[.int .i64 (o : Int), .int .i64 n, .string t, .bool b, .string c, .string m, .string d]] w fun e w' => e = .returned (.tuple #[.string ⟨(prtL o n t b c m d).toArray⟩, .int .i64 0]) ∧ Below w.heap.size w w' := by
  have HC := rCheck_any o n t b c m d ht hc hm hd
  rw [h] at HC
  have HC : Hid (∀ w, _) := HC
  have HW : Hid (∀ w, _) := rWords_row
  have HO := rOperand_any o
  rw [hk] at HO
  have HO : Hid (∀ w, _) := HO
  have hts := ick_type h
  obtain ⟨x, hx⟩ : ∃ x, wordsL[o]? = some x := ⟨_, List.getElem?_eq_getElem (by rw [words_size]; omega)⟩
  have hxw : wordL o = x := by rw [wordL, List.getD_eq_getElem?_getD, show (o : Int).toNat = o by omega, hx]; rfl
  have hxl := word_len o
  rw [hxw] at hxl
  obtain ⟨X, hX⟩ : ∃ X : ByteArray, X = ⟨x.toArray⟩ := ⟨_, rfl⟩
  have hXs : X.size ≤ 20 := by rw [hX]; simpa [ByteArray.size] using hxl
  have HP : Hid (prtL o n t b c m d = X.data.toList ++ restL 8 n t.data.toList (rtxL b c.data.toList m.data.toList d.data.toList)) := by rw [Hid, prtL, if_pos h, hk, hxw, hX]
  have HX : Hid (∀ w' : World, ∀ p, (∀ (i : Nat) (x : List UInt8), wordsL[i]? = some x → w'.cell? ⟨p, i, none⟩ = some (.string ⟨x.toArray⟩)) → w'.cell? ⟨p, o, none⟩ = some (.string X)) := fun w' p hh => by rw [hX]; exact hh o x hx
  have HT : Hid (∀ w, _) := rRefText_any b c m d hc hm hd
  obtain ⟨D, hD⟩ : ∃ D : ByteArray, D = ⟨(rtxL b c.data.toList m.data.toList d.data.toList).toArray⟩ := ⟨_, rfl⟩
  have hDs : D.size ≤ 5000 := by rw [hD]; exact rtx_size b c.data.toList m.data.toList d.data.toList
  rw [← hD] at HT
  have HR : Hid (prtL o n t b c m d = (X ++ ⟨#[32]⟩ ++ D : ByteArray).data.toList) := by rw [Hid, HP.out, hD]; simp [restL, ByteArray.data_append]
  clear h hk hx hxw hxl hX HP hc hm hd ht hD
  generalize rckE c.data.toList m.data.toList d.data.toList = er at *
  go_enter Tryz.func42, Tryz.ntmps42
  go_wp2_with (go_at_call 82; refine (HC.out _).mono ?_; rintro e w1 ⟨rfl, hb1⟩; have hs1 : w.heap.size < w1.heap.size := (by have := hb1.size; simp at this; omega); have hc10 : w1.cell? ⟨w.heap.size, 0, none⟩ = some (.int .i64 (o : Int)) := (hb1.cell (p := ⟨w.heap.size, 0, none⟩) (by simp [*])).trans (by simp [go_sem, *]); have hc13 : w1.cell? ⟨w.heap.size, 3, none⟩ = some (.bool b) := (hb1.cell (p := ⟨w.heap.size, 3, none⟩) (by simp [*])).trans (by simp [go_sem, *]); have hc14 : w1.cell? ⟨w.heap.size, 4, none⟩ = some (.string c) := (hb1.cell (p := ⟨w.heap.size, 4, none⟩) (by simp [*])).trans (by simp [go_sem, *]); have hc15 : w1.cell? ⟨w.heap.size, 5, none⟩ = some (.string m) := (hb1.cell (p := ⟨w.heap.size, 5, none⟩) (by simp [*])).trans (by simp [go_sem, *]); have hc16 : w1.cell? ⟨w.heap.size, 6, none⟩ = some (.string d) := (hb1.cell (p := ⟨w.heap.size, 6, none⟩) (by simp [*])).trans (by simp [go_sem, *]); have hB1 : Hid (Below w.heap.size w w1) := Below.step ((Below.refl _ _).alloc (Nat.le_refl _) _) hb1; clear hb1 HC)
  go_region_with (go_at_call 83; refine (HW.out _).mono ?_; rintro e w2 ⟨rfl, hb2, hcw⟩; have hcx : w2.cell? ⟨w1.heap.size, o, none⟩ = some (.string X) := HX.out _ _ hcw; have hs2 : w.heap.size < w2.heap.size := (by have := hb2.size; simp at this; omega); have hc20 : w2.cell? ⟨w.heap.size, 0, none⟩ = some (.int .i64 (o : Int)) := (hb2.cell (p := ⟨w.heap.size, 0, none⟩) (by simp [*])).trans (by simp [go_sem, *]); have hc23 : w2.cell? ⟨w.heap.size, 3, none⟩ = some (.bool b) := (hb2.cell (p := ⟨w.heap.size, 3, none⟩) (by simp [*])).trans (by simp [go_sem, *]); have hc24 : w2.cell? ⟨w.heap.size, 4, none⟩ = some (.string c) := (hb2.cell (p := ⟨w.heap.size, 4, none⟩) (by simp [*])).trans (by simp [go_sem, *]); have hc25 : w2.cell? ⟨w.heap.size, 5, none⟩ = some (.string m) := (hb2.cell (p := ⟨w.heap.size, 5, none⟩) (by simp [*])).trans (by simp [go_sem, *]); have hc26 : w2.cell? ⟨w.heap.size, 6, none⟩ = some (.string d) := (hb2.cell (p := ⟨w.heap.size, 6, none⟩) (by simp [*])).trans (by simp [go_sem, *]); have hB2 : Hid (Below w.heap.size w w2) := Below.step hB1.out.drew hb2; clear hb2 hcw)
  all_goals go_wp2_with (first
    | (go_at_call 84; refine (HO.out _).mono ?_; rintro e w9 ⟨rfl, hw9⟩; rw [hw9]; clear hw9 HO)
    | (go_at_call 85; refine (HT.out _).mono ?_; rintro e w3 ⟨rfl, hb3⟩; have hB3 : Hid (Below w.heap.size w w3) := Below.step hB2.out hb3; clear hb3 HT))
  all_goals refine bodyPost_ret (v := .tuple #[.string (X ++ ⟨#[32]⟩ ++ D), .int .i64 0]) (by simp [results, Tryz.results42, go_sem, *]) rfl ⟨by rw [HR.out], hB3.out⟩

set_option maxRecDepth 100000 in
set_option maxHeartbeats 1000000 in
theorem rPrint_any (op n : Int) (hn1 : -9223372036854775808 ≤ n) (hn2 : n ≤ 9223372036854775807) (t : ByteArray) (b : Bool) (c m d : ByteArray) (ht : t.size ≤ maxLen) (hc : c.size ≤ maxLen) (hm : m.size ≤ maxLen) (hd : d.size ≤ maxLen) (w : World) : Calls Tryz.prog 42 #[.agg #[.int .i64 op, .int .i64 n, .string t, .bool b, .string c, .string m, .string d]] w fun e w' => e = .returned (.tuple #[.string ⟨(prtL op n t b c m d).toArray⟩, .int .i64 (ickE op n t b c m d)]) ∧ Below w.heap.size w w' := by
  by_cases h : ickE op n t b c m d = 0
  · obtain ⟨ho1, ho2⟩ := ick_op h
    obtain ⟨o, rfl⟩ : ∃ o : Nat, op = o := ⟨op.toNat, by omega⟩
    rw [h]
    rcases opd_cases o with e | e | e | e | e | e | e | e | e | e
    · rw [ickE, e] at h; simp [insB] at h
    · exact print_0 o n (by omega) (by omega) e t b c m d ht hc hm hd h w
    · exact print_1 o n hn1 hn2 (by omega) (by omega) e t b c m d ht hc hm hd h w
    · exact print_2 o n hn1 hn2 (by omega) (by omega) e t b c m d ht hc hm hd h w
    · exact print_3 o n hn1 hn2 (by omega) (by omega) e t b c m d ht hc hm hd h w
    · exact print_4 o n (by omega) (by omega) e t b c m d ht hc hm hd h w
    · exact print_5 o n (by omega) (by omega) e t b c m d ht hc hm hd h w
    · exact print_6 o n (by omega) (by omega) e t b c m d ht hc hm hd h w
    · exact print_7 o n hn1 hn2 (by omega) (by omega) e t b c m d ht hc hm hd h w
    · exact print_8 o n (by omega) (by omega) e t b c m d ht hc hm hd h w
  · have h1 : ickE op n t b c m d = 1 := by
      unfold ickE at h ⊢
      split
      · rename_i h2; rw [if_pos h2] at h; exact absurd rfl h
      · rfl
    have HC := rCheck_any op n t b c m d ht hc hm hd
    rw [h1] at HC
    have HC : Hid (∀ w, _) := HC
    rw [prtL, if_neg h, h1]
    clear h h1 ht hc hm hd hn1 hn2
    go_enter Tryz.func42, Tryz.ntmps42
    go_wp2_with (go_at_call 82; refine (HC.out _).mono ?_; rintro e w1 ⟨rfl, hb1⟩)
    exact bodyPost_ret (v := .tuple #[.string ⟨#[]⟩, .int .i64 1]) (by simp [results, Tryz.results42, go_sem, *]) rfl ⟨rfl, Below.step ((Below.refl _ _).alloc (Nat.le_refl _) _) hb1⟩

end Go.Proofs.YtfbhjfpkhofifaaGreatDoor
