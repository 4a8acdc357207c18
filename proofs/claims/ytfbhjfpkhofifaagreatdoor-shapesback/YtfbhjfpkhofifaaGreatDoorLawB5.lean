/- The law that takes a class there and a text back (ShapesBack): the walk. -/
import Derived.Test.YtfbhjfpkhofifaaGreatDoorLawW
import Derived.Test.YtfbhjfpkhofifaaGreatDoorPaU
namespace Go.Proofs.YtfbhjfpkhofifaaGreatDoor
open Go.RowKit

theorem count_step (s : ByteArray) (i : Nat) (h : i < s.size) : (s.data.toList.take (i + 1)).count 10 = (s.data.toList.take i).count 10 + (if (((s[i]).toNat : Int) == 10) = true then 1 else 0) := by
  have h3 := Lib.Pa.at_eq s i h
  have hl : i < s.data.toList.length := by rw [bsize]; exact h
  rw [List.getElem?_eq_getElem hl] at h3
  rw [List.take_succ_eq_append_getElem hl, List.count_append, Option.some.inj h3]
  congr 1
  by_cases e : s[i] = 10
  · rw [e]; rfl
  · have e2 : (((s[i]).toNat : Int) == 10) = false := by
      rw [beq_eq_false_iff_ne]
      intro e3
      apply e
      apply UInt8.toNat_inj.1
      have : (10 : UInt8).toNat = 10 := rfl
      omega
    rw [e2, List.count_singleton]
    simp [e]

set_option maxRecDepth 100000 in
set_option maxHeartbeats 2000000 in
theorem back_good_ok (c D : Cls) (vi vm : Value) (W : World) (hi : IsStrs W vi c.ifs) (hm : IsMths W vm c.ms) (s PT : ByteArray) (hPT : PT.size ≤ 40000) 
    (HA : ∀ w', Below W.heap.size W w' → Calls Tryz.prog 7 #[] w' fun e w'' => e = .returned (.bool true) ∧ Below w'.heap.size w' w'')
    (HP : ∀ w', Below W.heap.size W w' → Calls Tryz.prog 14 #[clsV c vi vm] w' fun e w'' => e = .returned (.tuple #[.string PT, .int .i64 0]) ∧ Below w'.heap.size w' w'')
    (HK : ∀ w', Below W.heap.size W w' → Calls Tryz.prog 8 #[clsV c vi vm] w' fun e w'' => e = .returned (.int .i64 0) ∧ Below w'.heap.size w' w'')
    (HX : ∀ w', Below W.heap.size W w' → Calls Tryz.prog 16 #[.string PT] w' fun e w'' => ∃ ui um, e = .returned (.tuple #[clsV c ui um, .int .i64 0, .int .i64 0]) ∧ IsStrs w'' ui c.ifs ∧ IsMths w'' um c.ms ∧ Below w'.heap.size w' w'')
    (HS : ∀ (ui um : Value) (w' : World), Below W.heap.size W w' → IsStrs w' ui c.ifs → IsMths w' um c.ms → Calls Tryz.prog 18 #[clsV c vi vm, clsV c ui um] w' fun e w'' => e = .returned (.bool true) ∧ Below w'.heap.size w' w'')
    (HY : ∀ w', Below W.heap.size W w' → Calls Tryz.prog 16 #[.string s] w' fun e w'' => ∃ ui um, e = .returned (.tuple #[clsV D ui um, .int .i64 0, .int .i64 0]) ∧ IsStrs w'' ui D.ifs ∧ IsMths w'' um D.ms ∧ Below w'.heap.size w' w'')
    (HPD : ∀ (ui um : Value) (w' : World), Below W.heap.size W w' → IsStrs w' ui D.ifs → IsMths w' um D.ms → Calls Tryz.prog 14 #[clsV D ui um] w' fun e w'' => e = .returned (.tuple #[.string s, .int .i64 0]) ∧ Below w'.heap.size w' w'')
    (HKD : ∀ (ui um : Value) (w' : World), Below W.heap.size W w' → IsStrs w' ui D.ifs → IsMths w' um D.ms → Calls Tryz.prog 8 #[clsV D ui um] w' fun e w'' => e = .returned (.int .i64 0) ∧ Below w'.heap.size w' w'') :
    Calls Tryz.prog 5 #[clsV c vi vm, .string s] W fun e w' => e = .returned (.bool true) ∧ Below W.heap.size W w' := by
  have HA : Hid _ := HA
  have HP : Hid _ := HP
  have HK : Hid _ := HK
  have HX : Hid _ := HX
  have HS : Hid _ := HS
  have HY : Hid _ := HY
  have HPD : Hid _ := HPD
  have HKD : Hid _ := HKD
  have h1 : (PT.size : Int) ≤ 40000 := by omega
  obtain ⟨ai, capi, rfl, _, _, _⟩ := hi
  obtain ⟨am, capm, rfl, _, _, _⟩ := hm
  obtain ⟨nm, su, ifs, fl, ld, ms⟩ := c
  obtain ⟨dn, du, difs, df, dl, dms⟩ := D
  simp only [clsV] at *
  generalize ifs.length = K at *
  generalize ms.length = M at *
  obtain ⟨Wc, hWc⟩ : ∃ x, x = W.alloc (.cells #[.string nm, .string su, .slice ai K capi, .int .i64 fl, .int .i64 ld, .slice am M capm] 25) := ⟨_, rfl⟩
  have HWc : Hid (Below W.heap.size W Wc) := by rw [hWc]; exact (Below.refl _ _).alloc (Nat.le_refl _) _
  have HCc : Hid (CB Wc W.heap.size nm su (.slice ai K capi) fl ld (.slice am M capm)) := by rw [hWc]; exact ⟨by simp, by simp [go_sem], by simp [go_sem], by simp [go_sem], by simp [go_sem], by simp [go_sem], by simp [go_sem]⟩
  have HWE : Hid (Wc = W.alloc (.cells #[.string nm, .string su, .slice ai K capi, .int .i64 fl, .int .i64 ld, .slice am M capm] 25)) := hWc
  clear hWc
  go_enter Tryz.func5, Tryz.ntmps5
  have ks : (s.toList == s.toList) = true := by simp
  go_wp2_with (first
    | (go_at_call 7; rw [← HWE.out]; refine (HA.out _ HWc.out).mono ?_; rintro e w1 ⟨rfl, hb1⟩; have B1 : Hid (Below Wc.heap.size Wc w1) := hb1; obtain ⟨g9, g0, g1, g2, g3, g4, g5⟩ := HCc.out.keep hb1; clear hb1 HWE HA)
    | (go_at_call 14; refine (HP.out _ (Below.step HWc.out B1.out)).mono ?_; rintro e w2 ⟨rfl, hb2⟩; have B2 : Hid (Below Wc.heap.size Wc w2) := Below.step B1.out hb2; clear hb2 g0 g1 g2 g3 g4 g5 g9 HP; obtain ⟨g9, g0, g1, g2, g3, g4, g5⟩ := HCc.out.keep B2.out)
    | (go_at_call 8; refine (HK.out _ (Below.step HWc.out B2.out)).mono ?_; rintro e w3 ⟨rfl, hb3⟩; have B3 : Hid (Below Wc.heap.size Wc w3) := Below.step B2.out hb3; clear hb3 g0 g1 g2 g3 g4 g5 g9 HK; obtain ⟨g9, g0, g1, g2, g3, g4, g5⟩ := HCc.out.keep B3.out)
    | (go_at_call 16; refine (HX.out _ (Below.step HWc.out B3.out)).mono ?_; rintro e w4 ⟨ui, um, rfl, hui, hum, hb4⟩; have B4 : Hid (Below Wc.heap.size Wc w4) := Below.step B3.out hb4; have HUI : Hid (IsStrs w4 ui ifs) := hui; have HUM : Hid (IsMths w4 um ms) := hum; obtain ⟨bi, copi, rfl, _, _, _⟩ := hui; obtain ⟨bm, copm, rfl, _, _, _⟩ := hum; have hs4 := B4.out.size; clear hb4 g0 g1 g2 g3 g4 g5 g9 HX; obtain ⟨g9, g0, g1, g2, g3, g4, g5⟩ := HCc.out.keep B4.out)
    | (go_at_call 18; refine (HS.out _ _ _ (Below.step HWc.out (B4.out.alloc B4.out.size _)) (HUI.out.keep ((Below.refl _ _).alloc (Nat.le_refl _) _)) (HUM.out.keep ((Below.refl _ _).alloc (Nat.le_refl _) _))).mono ?_; rintro e w5 ⟨rfl, hb5⟩; have B5 : Hid (Below Wc.heap.size Wc w5) := Below.step (B4.out.alloc B4.out.size _) hb5; clear hb5 g0 g1 g2 g3 g4 g5 g9 HS HUI HUM)
    | (go_at_call 16; refine (HY.out _ (Below.step HWc.out B5.out)).mono ?_; rintro e w6 ⟨vi6, vm6, rfl, hvi6, hvm6, hb6⟩; have B6 : Hid (Below Wc.heap.size Wc w6) := Below.step B5.out hb6; have HVI : Hid (IsStrs w6 vi6 difs) := hvi6; have HVM : Hid (IsMths w6 vm6 dms) := hvm6; obtain ⟨ci, cipi, rfl, _, _, _⟩ := hvi6; obtain ⟨cm, cipm, rfl, _, _, _⟩ := hvm6; have hs6 := B6.out.size; clear hb6 HY)
    | (go_at_call 14; refine (HPD.out _ _ _ (Below.step HWc.out (B6.out.alloc B6.out.size _)) (HVI.out.keep ((Below.refl _ _).alloc (Nat.le_refl _) _)) (HVM.out.keep ((Below.refl _ _).alloc (Nat.le_refl _) _))).mono ?_; rintro e w7 ⟨rfl, hb7⟩; have B7 : Hid (Below Wc.heap.size Wc w7) := Below.step (B6.out.alloc B6.out.size _) hb7; have KI : Hid (IsStrs w7 _ difs) := (HVI.out.keep ((Below.refl _ _).alloc (Nat.le_refl _) _)).keep hb7; have KM : Hid (IsMths w7 _ dms) := (HVM.out.keep ((Below.refl _ _).alloc (Nat.le_refl _) _)).keep hb7; have rk := (hb7.block w6.heap.size (by simp)).trans (heap_alloc_new w6 _); have d0 := cell_of_row w7 w6.heap.size 0 _ _ _ rk; have d1 := cell_of_row w7 w6.heap.size 1 _ _ _ rk; have d2 := cell_of_row w7 w6.heap.size 2 _ _ _ rk; have d3 := cell_of_row w7 w6.heap.size 3 _ _ _ rk; have d4 := cell_of_row w7 w6.heap.size 4 _ _ _ rk; have d5 := cell_of_row w7 w6.heap.size 5 _ _ _ rk; simp only [List.getElem?_toArray, List.getElem?_cons_zero, List.getElem?_cons_succ] at d0 d1 d2 d3 d4 d5; clear rk; clear hb7 HPD HVI HVM)
    | (go_at_call 8; refine (HKD.out _ _ _ (Below.step HWc.out B7.out) KI.out KM.out).mono ?_; rintro e w8 ⟨rfl, hb8⟩; have B8 : Hid (Below Wc.heap.size Wc w8) := Below.step B7.out hb8; clear hb8 HKD))
  go_ret
  exact ⟨rfl, Below.step HWc.out B8.out⟩

set_option maxRecDepth 100000 in
set_option maxHeartbeats 2000000 in
theorem back_good_text (c D : Cls) (vi vm : Value) (W : World) (hi : IsStrs W vi c.ifs) (hm : IsMths W vm c.ms) (s PT : ByteArray) (hPT : PT.size ≤ 40000) (n : Nat) (hn1 : 1 ≤ n) (hn2 : n ≤ s.data.toList.count 10 + 1) (hsz : s.size ≤ 140737488351232)
    (HA : ∀ w', Below W.heap.size W w' → Calls Tryz.prog 7 #[] w' fun e w'' => e = .returned (.bool true) ∧ Below w'.heap.size w' w'')
    (HP : ∀ w', Below W.heap.size W w' → Calls Tryz.prog 14 #[clsV c vi vm] w' fun e w'' => e = .returned (.tuple #[.string PT, .int .i64 0]) ∧ Below w'.heap.size w' w'')
    (HK : ∀ w', Below W.heap.size W w' → Calls Tryz.prog 8 #[clsV c vi vm] w' fun e w'' => e = .returned (.int .i64 0) ∧ Below w'.heap.size w' w'')
    (HX : ∀ w', Below W.heap.size W w' → Calls Tryz.prog 16 #[.string PT] w' fun e w'' => ∃ ui um, e = .returned (.tuple #[clsV c ui um, .int .i64 0, .int .i64 0]) ∧ IsStrs w'' ui c.ifs ∧ IsMths w'' um c.ms ∧ Below w'.heap.size w' w'')
    (HS : ∀ (ui um : Value) (w' : World), Below W.heap.size W w' → IsStrs w' ui c.ifs → IsMths w' um c.ms → Calls Tryz.prog 18 #[clsV c vi vm, clsV c ui um] w' fun e w'' => e = .returned (.bool true) ∧ Below w'.heap.size w' w'')
    (HY : ∀ w', Below W.heap.size W w' → Calls Tryz.prog 16 #[.string s] w' fun e w'' => ∃ ui um, e = .returned (.tuple #[clsV D ui um, .int .i64 (n : Int), .int .i64 4]) ∧ IsStrs w'' ui D.ifs ∧ IsMths w'' um D.ms ∧ Below w'.heap.size w' w'')
    (HZ : ∀ (ui um : Value) (w' : World), IsStrs w' ui D.ifs → IsMths w' um D.ms → Calls Tryz.prog 18 #[clsV D ui um, .agg #[.string ⟨#[]⟩, .string ⟨#[]⟩, .slice none 0 0, .int .i64 0, .int .i64 0, .slice none 0 0]] w' fun e w'' => e = .returned (.bool true) ∧ Below w'.heap.size w' w'') :
    Calls Tryz.prog 5 #[clsV c vi vm, .string s] W fun e w' => e = .returned (.bool true) ∧ Below W.heap.size W w' := by
  have HA : Hid _ := HA
  have HP : Hid _ := HP
  have HK : Hid _ := HK
  have HX : Hid _ := HX
  have HS : Hid _ := HS
  have HY : Hid _ := HY
  have HZ : Hid _ := HZ
  have h1 : (PT.size : Int) ≤ 40000 := by omega
  obtain ⟨ai, capi, rfl, _, _, _⟩ := hi
  obtain ⟨am, capm, rfl, _, _, _⟩ := hm
  obtain ⟨nm, su, ifs, fl, ld, ms⟩ := c
  obtain ⟨dn, du, difs, df, dl, dms⟩ := D
  simp only [clsV] at *
  generalize ifs.length = K at *
  generalize ms.length = M at *
  obtain ⟨Wc, hWc⟩ : ∃ x, x = W.alloc (.cells #[.string nm, .string su, .slice ai K capi, .int .i64 fl, .int .i64 ld, .slice am M capm] 25) := ⟨_, rfl⟩
  have HWc : Hid (Below W.heap.size W Wc) := by rw [hWc]; exact (Below.refl _ _).alloc (Nat.le_refl _) _
  have HCc : Hid (CB Wc W.heap.size nm su (.slice ai K capi) fl ld (.slice am M capm)) := by rw [hWc]; exact ⟨by simp, by simp [go_sem], by simp [go_sem], by simp [go_sem], by simp [go_sem], by simp [go_sem], by simp [go_sem]⟩
  have HWE : Hid (Wc = W.alloc (.cells #[.string nm, .string su, .slice ai K capi, .int .i64 fl, .int .i64 ld, .slice am M capm] 25)) := hWc
  clear hWc
  go_enter Tryz.func5, Tryz.ntmps5
  go_wp2_with (first
    | (go_at_call 7; rw [← HWE.out]; refine (HA.out _ HWc.out).mono ?_; rintro e w1 ⟨rfl, hb1⟩; have B1 : Hid (Below Wc.heap.size Wc w1) := hb1; obtain ⟨g9, g0, g1, g2, g3, g4, g5⟩ := HCc.out.keep hb1; clear hb1 HWE HA)
    | (go_at_call 14; refine (HP.out _ (Below.step HWc.out B1.out)).mono ?_; rintro e w2 ⟨rfl, hb2⟩; have B2 : Hid (Below Wc.heap.size Wc w2) := Below.step B1.out hb2; clear hb2 g0 g1 g2 g3 g4 g5 g9 HP; obtain ⟨g9, g0, g1, g2, g3, g4, g5⟩ := HCc.out.keep B2.out)
    | (go_at_call 8; refine (HK.out _ (Below.step HWc.out B2.out)).mono ?_; rintro e w3 ⟨rfl, hb3⟩; have B3 : Hid (Below Wc.heap.size Wc w3) := Below.step B2.out hb3; clear hb3 g0 g1 g2 g3 g4 g5 g9 HK; obtain ⟨g9, g0, g1, g2, g3, g4, g5⟩ := HCc.out.keep B3.out)
    | (go_at_call 16; refine (HX.out _ (Below.step HWc.out B3.out)).mono ?_; rintro e w4 ⟨ui, um, rfl, hui, hum, hb4⟩; have B4 : Hid (Below Wc.heap.size Wc w4) := Below.step B3.out hb4; have HUI : Hid (IsStrs w4 ui ifs) := hui; have HUM : Hid (IsMths w4 um ms) := hum; obtain ⟨bi, copi, rfl, _, _, _⟩ := hui; obtain ⟨bm, copm, rfl, _, _, _⟩ := hum; have hs4 := B4.out.size; clear hb4 g0 g1 g2 g3 g4 g5 g9 HX; obtain ⟨g9, g0, g1, g2, g3, g4, g5⟩ := HCc.out.keep B4.out)
    | (go_at_call 18; refine (HS.out _ _ _ (Below.step HWc.out (B4.out.alloc B4.out.size _)) (HUI.out.keep ((Below.refl _ _).alloc (Nat.le_refl _) _)) (HUM.out.keep ((Below.refl _ _).alloc (Nat.le_refl _) _))).mono ?_; rintro e w5 ⟨rfl, hb5⟩; have B5 : Hid (Below Wc.heap.size Wc w5) := Below.step (B4.out.alloc B4.out.size _) hb5; clear hb5 g0 g1 g2 g3 g4 g5 g9 HS HUI HUM)
    | (go_at_call 16; refine (HY.out _ (Below.step HWc.out B5.out)).mono ?_; rintro e w6 ⟨vi6, vm6, rfl, hvi6, hvm6, hb6⟩; have B6 : Hid (Below Wc.heap.size Wc w6) := Below.step B5.out hb6; have HVI : Hid (IsStrs w6 vi6 difs) := hvi6; have HVM : Hid (IsMths w6 vm6 dms) := hvm6; obtain ⟨ci, cipi, rfl, _, _, _⟩ := hvi6; obtain ⟨cm, cipm, rfl, _, _, _⟩ := hvm6; have hs6 := B6.out.size; clear hb6 HY))
  go_loop [15, 16] (fun lv iv => ∃ i : Nat, iv = .int .i64 i ∧ i ≤ s.size ∧ lv = .int .i64 (((s.data.toList.take i).count 10 + 1 : Nat) : Int)) (fun _ iv => s.size - (intOf iv).toNat)
  case atStart => exact ⟨0, rfl, Nat.zero_le _, rfl⟩
  case round =>
    obtain ⟨i, rfl, hi, rfl⟩ := hrel
    have hcl : (s.data.toList.take i).count 10 ≤ s.size := by
      have h1 := List.count_le_length (a := (10 : UInt8)) (l := s.data.toList.take i)
      rw [List.length_take] at h1
      omega
    by_cases hlt : i < s.size
    · have hcs := count_step s i hlt
      have HCS : Hid _ := hcs
      clear hcs
      obtain ⟨q, hq⟩ : ∃ q, (s.data.toList.take i).count 10 = q := ⟨_, rfl⟩
      rw [hq] at hcl HCS ⊢
      clear hq
      cases he : (((s[i]).toNat : Int) == 10) with
      | true =>
        have HN : Hid ((s.data.toList.take (i + 1)).count 10 = q + 1) := by have := HCS.out; rw [he] at this; exact this
        clear HCS
        go_wp2
        go_round
        case rel => exact ⟨i + 1, by go_num, by omega, by rw [HN.out]; go_num⟩
        case measure => simp [intOf]; omega
      | false =>
        have HN : Hid ((s.data.toList.take (i + 1)).count 10 = q) := by have := HCS.out; rw [he] at this; exact this
        clear HCS
        go_wp2
        go_round
        case rel => exact ⟨i + 1, by go_num, by omega, by rw [HN.out]⟩
        case measure => simp [intOf]; omega
    · have e : i = s.size := by omega
      have hct : (s.data.toList.take i).count 10 = s.data.toList.count 10 := by rw [e, List.take_of_length_le (by rw [bsize]; exact Nat.le_refl _)]
      obtain ⟨q, hq⟩ : ∃ q, (s.data.toList.take i).count 10 = q := ⟨_, rfl⟩
      rw [hq] at hcl hct ⊢
      rw [← hct] at hn2
      have j1 : (1 : Int) ≤ (n : Int) := by omega
      have j2 : (n : Int) ≤ ((q + 1 : Nat) : Int) := by omega
      have j3 : (n : Int) ≤ (q : Int) + 1 := by omega
      clear hq hct
      go_wp2_with (go_at_call 18; refine (HZ.out _ _ _ (HVI.out.keep ((Below.refl _ _).alloc (Nat.le_refl _) _)) (HVM.out.keep ((Below.refl _ _).alloc (Nat.le_refl _) _))).mono ?_; rintro e w7 ⟨rfl, hb7⟩; have B7 : Hid (Below Wc.heap.size Wc w7) := Below.step (B6.out.alloc B6.out.size _) hb7; clear hb7 HZ)
      go_ret
      exact ⟨rfl, Below.step HWc.out B7.out⟩

set_option maxRecDepth 100000 in
set_option maxHeartbeats 2000000 in
theorem back_good_form (c D : Cls) (vi vm : Value) (W : World) (hi : IsStrs W vi c.ifs) (hm : IsMths W vm c.ms) (s PT : ByteArray) (hPT : PT.size ≤ 40000) (hsz : s.size ≤ 140737488351232)
    (HA : ∀ w', Below W.heap.size W w' → Calls Tryz.prog 7 #[] w' fun e w'' => e = .returned (.bool true) ∧ Below w'.heap.size w' w'')
    (HP : ∀ w', Below W.heap.size W w' → Calls Tryz.prog 14 #[clsV c vi vm] w' fun e w'' => e = .returned (.tuple #[.string PT, .int .i64 0]) ∧ Below w'.heap.size w' w'')
    (HK : ∀ w', Below W.heap.size W w' → Calls Tryz.prog 8 #[clsV c vi vm] w' fun e w'' => e = .returned (.int .i64 0) ∧ Below w'.heap.size w' w'')
    (HX : ∀ w', Below W.heap.size W w' → Calls Tryz.prog 16 #[.string PT] w' fun e w'' => ∃ ui um, e = .returned (.tuple #[clsV c ui um, .int .i64 0, .int .i64 0]) ∧ IsStrs w'' ui c.ifs ∧ IsMths w'' um c.ms ∧ Below w'.heap.size w' w'')
    (HS : ∀ (ui um : Value) (w' : World), Below W.heap.size W w' → IsStrs w' ui c.ifs → IsMths w' um c.ms → Calls Tryz.prog 18 #[clsV c vi vm, clsV c ui um] w' fun e w'' => e = .returned (.bool true) ∧ Below w'.heap.size w' w'')
    (HY : ∀ w', Below W.heap.size W w' → Calls Tryz.prog 16 #[.string s] w' fun e w'' => ∃ ui um, e = .returned (.tuple #[clsV D ui um, .int .i64 0, .int .i64 1]) ∧ IsStrs w'' ui D.ifs ∧ IsMths w'' um D.ms ∧ Below w'.heap.size w' w'')
    (HZ : ∀ (ui um : Value) (w' : World), IsStrs w' ui D.ifs → IsMths w' um D.ms → Calls Tryz.prog 18 #[clsV D ui um, .agg #[.string ⟨#[]⟩, .string ⟨#[]⟩, .slice none 0 0, .int .i64 0, .int .i64 0, .slice none 0 0]] w' fun e w'' => e = .returned (.bool true) ∧ Below w'.heap.size w' w'') :
    Calls Tryz.prog 5 #[clsV c vi vm, .string s] W fun e w' => e = .returned (.bool true) ∧ Below W.heap.size W w' := by
  have HA : Hid _ := HA
  have HP : Hid _ := HP
  have HK : Hid _ := HK
  have HX : Hid _ := HX
  have HS : Hid _ := HS
  have HY : Hid _ := HY
  have HZ : Hid _ := HZ
  have h1 : (PT.size : Int) ≤ 40000 := by omega
  obtain ⟨ai, capi, rfl, _, _, _⟩ := hi
  obtain ⟨am, capm, rfl, _, _, _⟩ := hm
  obtain ⟨nm, su, ifs, fl, ld, ms⟩ := c
  obtain ⟨dn, du, difs, df, dl, dms⟩ := D
  simp only [clsV] at *
  generalize ifs.length = K at *
  generalize ms.length = M at *
  obtain ⟨Wc, hWc⟩ : ∃ x, x = W.alloc (.cells #[.string nm, .string su, .slice ai K capi, .int .i64 fl, .int .i64 ld, .slice am M capm] 25) := ⟨_, rfl⟩
  have HWc : Hid (Below W.heap.size W Wc) := by rw [hWc]; exact (Below.refl _ _).alloc (Nat.le_refl _) _
  have HCc : Hid (CB Wc W.heap.size nm su (.slice ai K capi) fl ld (.slice am M capm)) := by rw [hWc]; exact ⟨by simp, by simp [go_sem], by simp [go_sem], by simp [go_sem], by simp [go_sem], by simp [go_sem], by simp [go_sem]⟩
  have HWE : Hid (Wc = W.alloc (.cells #[.string nm, .string su, .slice ai K capi, .int .i64 fl, .int .i64 ld, .slice am M capm] 25)) := hWc
  clear hWc
  go_enter Tryz.func5, Tryz.ntmps5
  go_wp2_with (first
    | (go_at_call 7; rw [← HWE.out]; refine (HA.out _ HWc.out).mono ?_; rintro e w1 ⟨rfl, hb1⟩; have B1 : Hid (Below Wc.heap.size Wc w1) := hb1; obtain ⟨g9, g0, g1, g2, g3, g4, g5⟩ := HCc.out.keep hb1; clear hb1 HWE HA)
    | (go_at_call 14; refine (HP.out _ (Below.step HWc.out B1.out)).mono ?_; rintro e w2 ⟨rfl, hb2⟩; have B2 : Hid (Below Wc.heap.size Wc w2) := Below.step B1.out hb2; clear hb2 g0 g1 g2 g3 g4 g5 g9 HP; obtain ⟨g9, g0, g1, g2, g3, g4, g5⟩ := HCc.out.keep B2.out)
    | (go_at_call 8; refine (HK.out _ (Below.step HWc.out B2.out)).mono ?_; rintro e w3 ⟨rfl, hb3⟩; have B3 : Hid (Below Wc.heap.size Wc w3) := Below.step B2.out hb3; clear hb3 g0 g1 g2 g3 g4 g5 g9 HK; obtain ⟨g9, g0, g1, g2, g3, g4, g5⟩ := HCc.out.keep B3.out)
    | (go_at_call 16; refine (HX.out _ (Below.step HWc.out B3.out)).mono ?_; rintro e w4 ⟨ui, um, rfl, hui, hum, hb4⟩; have B4 : Hid (Below Wc.heap.size Wc w4) := Below.step B3.out hb4; have HUI : Hid (IsStrs w4 ui ifs) := hui; have HUM : Hid (IsMths w4 um ms) := hum; obtain ⟨bi, copi, rfl, _, _, _⟩ := hui; obtain ⟨bm, copm, rfl, _, _, _⟩ := hum; have hs4 := B4.out.size; clear hb4 g0 g1 g2 g3 g4 g5 g9 HX; obtain ⟨g9, g0, g1, g2, g3, g4, g5⟩ := HCc.out.keep B4.out)
    | (go_at_call 18; refine (HS.out _ _ _ (Below.step HWc.out (B4.out.alloc B4.out.size _)) (HUI.out.keep ((Below.refl _ _).alloc (Nat.le_refl _) _)) (HUM.out.keep ((Below.refl _ _).alloc (Nat.le_refl _) _))).mono ?_; rintro e w5 ⟨rfl, hb5⟩; have B5 : Hid (Below Wc.heap.size Wc w5) := Below.step (B4.out.alloc B4.out.size _) hb5; clear hb5 g0 g1 g2 g3 g4 g5 g9 HS HUI HUM)
    | (go_at_call 16; refine (HY.out _ (Below.step HWc.out B5.out)).mono ?_; rintro e w6 ⟨vi6, vm6, rfl, hvi6, hvm6, hb6⟩; have B6 : Hid (Below Wc.heap.size Wc w6) := Below.step B5.out hb6; have HVI : Hid (IsStrs w6 vi6 difs) := hvi6; have HVM : Hid (IsMths w6 vm6 dms) := hvm6; obtain ⟨ci, cipi, rfl, _, _, _⟩ := hvi6; obtain ⟨cm, cipm, rfl, _, _, _⟩ := hvm6; have hs6 := B6.out.size; clear hb6 HY))
  go_loop [15, 16] (fun lv iv => ∃ i : Nat, iv = .int .i64 i ∧ i ≤ s.size ∧ lv = .int .i64 (((s.data.toList.take i).count 10 + 1 : Nat) : Int)) (fun _ iv => s.size - (intOf iv).toNat)
  case atStart => exact ⟨0, rfl, Nat.zero_le _, rfl⟩
  case round =>
    obtain ⟨i, rfl, hi, rfl⟩ := hrel
    have hcl : (s.data.toList.take i).count 10 ≤ s.size := by
      have h1 := List.count_le_length (a := (10 : UInt8)) (l := s.data.toList.take i)
      rw [List.length_take] at h1
      omega
    by_cases hlt : i < s.size
    · have hcs := count_step s i hlt
      have HCS : Hid _ := hcs
      clear hcs
      obtain ⟨q, hq⟩ : ∃ q, (s.data.toList.take i).count 10 = q := ⟨_, rfl⟩
      rw [hq] at hcl HCS ⊢
      clear hq
      cases he : (((s[i]).toNat : Int) == 10) with
      | true =>
        have HN : Hid ((s.data.toList.take (i + 1)).count 10 = q + 1) := by have := HCS.out; rw [he] at this; exact this
        clear HCS
        go_wp2
        go_round
        case rel => exact ⟨i + 1, by go_num, by omega, by rw [HN.out]; go_num⟩
        case measure => simp [intOf]; omega
      | false =>
        have HN : Hid ((s.data.toList.take (i + 1)).count 10 = q) := by have := HCS.out; rw [he] at this; exact this
        clear HCS
        go_wp2
        go_round
        case rel => exact ⟨i + 1, by go_num, by omega, by rw [HN.out]⟩
        case measure => simp [intOf]; omega
    · have e : i = s.size := by omega
      have hct : (s.data.toList.take i).count 10 = s.data.toList.count 10 := by rw [e, List.take_of_length_le (by rw [bsize]; exact Nat.le_refl _)]
      obtain ⟨q, hq⟩ : ∃ q, (s.data.toList.take i).count 10 = q := ⟨_, rfl⟩
      rw [hq] at hcl hct ⊢
      clear hq hct
      go_wp2_with (go_at_call 18; refine (HZ.out _ _ _ (HVI.out.keep ((Below.refl _ _).alloc (Nat.le_refl _) _)) (HVM.out.keep ((Below.refl _ _).alloc (Nat.le_refl _) _))).mono ?_; rintro e w7 ⟨rfl, hb7⟩; have B7 : Hid (Below Wc.heap.size Wc w7) := Below.step (B6.out.alloc B6.out.size _) hb7; clear hb7 HZ)
      go_ret
      exact ⟨rfl, Below.step HWc.out B7.out⟩

set_option maxRecDepth 100000 in
set_option maxHeartbeats 2000000 in
theorem back_good_large (c D : Cls) (vi vm : Value) (W : World) (hi : IsStrs W vi c.ifs) (hm : IsMths W vm c.ms) (s PT : ByteArray) (hPT : PT.size ≤ 40000) (hsz : s.size ≤ 140737488351232)
    (HA : ∀ w', Below W.heap.size W w' → Calls Tryz.prog 7 #[] w' fun e w'' => e = .returned (.bool true) ∧ Below w'.heap.size w' w'')
    (HP : ∀ w', Below W.heap.size W w' → Calls Tryz.prog 14 #[clsV c vi vm] w' fun e w'' => e = .returned (.tuple #[.string PT, .int .i64 0]) ∧ Below w'.heap.size w' w'')
    (HK : ∀ w', Below W.heap.size W w' → Calls Tryz.prog 8 #[clsV c vi vm] w' fun e w'' => e = .returned (.int .i64 0) ∧ Below w'.heap.size w' w'')
    (HX : ∀ w', Below W.heap.size W w' → Calls Tryz.prog 16 #[.string PT] w' fun e w'' => ∃ ui um, e = .returned (.tuple #[clsV c ui um, .int .i64 0, .int .i64 0]) ∧ IsStrs w'' ui c.ifs ∧ IsMths w'' um c.ms ∧ Below w'.heap.size w' w'')
    (HS : ∀ (ui um : Value) (w' : World), Below W.heap.size W w' → IsStrs w' ui c.ifs → IsMths w' um c.ms → Calls Tryz.prog 18 #[clsV c vi vm, clsV c ui um] w' fun e w'' => e = .returned (.bool true) ∧ Below w'.heap.size w' w'')
    (HY : ∀ w', Below W.heap.size W w' → Calls Tryz.prog 16 #[.string s] w' fun e w'' => ∃ ui um, e = .returned (.tuple #[clsV D ui um, .int .i64 0, .int .i64 5]) ∧ IsStrs w'' ui D.ifs ∧ IsMths w'' um D.ms ∧ Below w'.heap.size w' w'')
    (HZ : ∀ (ui um : Value) (w' : World), IsStrs w' ui D.ifs → IsMths w' um D.ms → Calls Tryz.prog 18 #[clsV D ui um, .agg #[.string ⟨#[]⟩, .string ⟨#[]⟩, .slice none 0 0, .int .i64 0, .int .i64 0, .slice none 0 0]] w' fun e w'' => e = .returned (.bool true) ∧ Below w'.heap.size w' w'') :
    Calls Tryz.prog 5 #[clsV c vi vm, .string s] W fun e w' => e = .returned (.bool true) ∧ Below W.heap.size W w' := by
  have HA : Hid _ := HA
  have HP : Hid _ := HP
  have HK : Hid _ := HK
  have HX : Hid _ := HX
  have HS : Hid _ := HS
  have HY : Hid _ := HY
  have HZ : Hid _ := HZ
  have h1 : (PT.size : Int) ≤ 40000 := by omega
  obtain ⟨ai, capi, rfl, _, _, _⟩ := hi
  obtain ⟨am, capm, rfl, _, _, _⟩ := hm
  obtain ⟨nm, su, ifs, fl, ld, ms⟩ := c
  obtain ⟨dn, du, difs, df, dl, dms⟩ := D
  simp only [clsV] at *
  generalize ifs.length = K at *
  generalize ms.length = M at *
  obtain ⟨Wc, hWc⟩ : ∃ x, x = W.alloc (.cells #[.string nm, .string su, .slice ai K capi, .int .i64 fl, .int .i64 ld, .slice am M capm] 25) := ⟨_, rfl⟩
  have HWc : Hid (Below W.heap.size W Wc) := by rw [hWc]; exact (Below.refl _ _).alloc (Nat.le_refl _) _
  have HCc : Hid (CB Wc W.heap.size nm su (.slice ai K capi) fl ld (.slice am M capm)) := by rw [hWc]; exact ⟨by simp, by simp [go_sem], by simp [go_sem], by simp [go_sem], by simp [go_sem], by simp [go_sem], by simp [go_sem]⟩
  have HWE : Hid (Wc = W.alloc (.cells #[.string nm, .string su, .slice ai K capi, .int .i64 fl, .int .i64 ld, .slice am M capm] 25)) := hWc
  clear hWc
  go_enter Tryz.func5, Tryz.ntmps5
  go_wp2_with (first
    | (go_at_call 7; rw [← HWE.out]; refine (HA.out _ HWc.out).mono ?_; rintro e w1 ⟨rfl, hb1⟩; have B1 : Hid (Below Wc.heap.size Wc w1) := hb1; obtain ⟨g9, g0, g1, g2, g3, g4, g5⟩ := HCc.out.keep hb1; clear hb1 HWE HA)
    | (go_at_call 14; refine (HP.out _ (Below.step HWc.out B1.out)).mono ?_; rintro e w2 ⟨rfl, hb2⟩; have B2 : Hid (Below Wc.heap.size Wc w2) := Below.step B1.out hb2; clear hb2 g0 g1 g2 g3 g4 g5 g9 HP; obtain ⟨g9, g0, g1, g2, g3, g4, g5⟩ := HCc.out.keep B2.out)
    | (go_at_call 8; refine (HK.out _ (Below.step HWc.out B2.out)).mono ?_; rintro e w3 ⟨rfl, hb3⟩; have B3 : Hid (Below Wc.heap.size Wc w3) := Below.step B2.out hb3; clear hb3 g0 g1 g2 g3 g4 g5 g9 HK; obtain ⟨g9, g0, g1, g2, g3, g4, g5⟩ := HCc.out.keep B3.out)
    | (go_at_call 16; refine (HX.out _ (Below.step HWc.out B3.out)).mono ?_; rintro e w4 ⟨ui, um, rfl, hui, hum, hb4⟩; have B4 : Hid (Below Wc.heap.size Wc w4) := Below.step B3.out hb4; have HUI : Hid (IsStrs w4 ui ifs) := hui; have HUM : Hid (IsMths w4 um ms) := hum; obtain ⟨bi, copi, rfl, _, _, _⟩ := hui; obtain ⟨bm, copm, rfl, _, _, _⟩ := hum; have hs4 := B4.out.size; clear hb4 g0 g1 g2 g3 g4 g5 g9 HX; obtain ⟨g9, g0, g1, g2, g3, g4, g5⟩ := HCc.out.keep B4.out)
    | (go_at_call 18; refine (HS.out _ _ _ (Below.step HWc.out (B4.out.alloc B4.out.size _)) (HUI.out.keep ((Below.refl _ _).alloc (Nat.le_refl _) _)) (HUM.out.keep ((Below.refl _ _).alloc (Nat.le_refl _) _))).mono ?_; rintro e w5 ⟨rfl, hb5⟩; have B5 : Hid (Below Wc.heap.size Wc w5) := Below.step (B4.out.alloc B4.out.size _) hb5; clear hb5 g0 g1 g2 g3 g4 g5 g9 HS HUI HUM)
    | (go_at_call 16; refine (HY.out _ (Below.step HWc.out B5.out)).mono ?_; rintro e w6 ⟨vi6, vm6, rfl, hvi6, hvm6, hb6⟩; have B6 : Hid (Below Wc.heap.size Wc w6) := Below.step B5.out hb6; have HVI : Hid (IsStrs w6 vi6 difs) := hvi6; have HVM : Hid (IsMths w6 vm6 dms) := hvm6; obtain ⟨ci, cipi, rfl, _, _, _⟩ := hvi6; obtain ⟨cm, cipm, rfl, _, _, _⟩ := hvm6; have hs6 := B6.out.size; clear hb6 HY))
  go_loop [15, 16] (fun lv iv => ∃ i : Nat, iv = .int .i64 i ∧ i ≤ s.size ∧ lv = .int .i64 (((s.data.toList.take i).count 10 + 1 : Nat) : Int)) (fun _ iv => s.size - (intOf iv).toNat)
  case atStart => exact ⟨0, rfl, Nat.zero_le _, rfl⟩
  case round =>
    obtain ⟨i, rfl, hi, rfl⟩ := hrel
    have hcl : (s.data.toList.take i).count 10 ≤ s.size := by
      have h1 := List.count_le_length (a := (10 : UInt8)) (l := s.data.toList.take i)
      rw [List.length_take] at h1
      omega
    by_cases hlt : i < s.size
    · have hcs := count_step s i hlt
      have HCS : Hid _ := hcs
      clear hcs
      obtain ⟨q, hq⟩ : ∃ q, (s.data.toList.take i).count 10 = q := ⟨_, rfl⟩
      rw [hq] at hcl HCS ⊢
      clear hq
      cases he : (((s[i]).toNat : Int) == 10) with
      | true =>
        have HN : Hid ((s.data.toList.take (i + 1)).count 10 = q + 1) := by have := HCS.out; rw [he] at this; exact this
        clear HCS
        go_wp2
        go_round
        case rel => exact ⟨i + 1, by go_num, by omega, by rw [HN.out]; go_num⟩
        case measure => simp [intOf]; omega
      | false =>
        have HN : Hid ((s.data.toList.take (i + 1)).count 10 = q) := by have := HCS.out; rw [he] at this; exact this
        clear HCS
        go_wp2
        go_round
        case rel => exact ⟨i + 1, by go_num, by omega, by rw [HN.out]⟩
        case measure => simp [intOf]; omega
    · have e : i = s.size := by omega
      have hct : (s.data.toList.take i).count 10 = s.data.toList.count 10 := by rw [e, List.take_of_length_le (by rw [bsize]; exact Nat.le_refl _)]
      obtain ⟨q, hq⟩ : ∃ q, (s.data.toList.take i).count 10 = q := ⟨_, rfl⟩
      rw [hq] at hcl hct ⊢
      clear hq hct
      go_wp2_with (go_at_call 18; refine (HZ.out _ _ _ (HVI.out.keep ((Below.refl _ _).alloc (Nat.le_refl _) _)) (HVM.out.keep ((Below.refl _ _).alloc (Nat.le_refl _) _))).mono ?_; rintro e w7 ⟨rfl, hb7⟩; have B7 : Hid (Below Wc.heap.size Wc w7) := Below.step (B6.out.alloc B6.out.size _) hb7; clear hb7 HZ)
      go_ret
      exact ⟨rfl, Below.step HWc.out B7.out⟩

set_option maxRecDepth 100000 in
set_option maxHeartbeats 2000000 in
theorem back_long_ok (c D : Cls) (vi vm : Value) (W : World) (hi : IsStrs W vi c.ifs) (hm : IsMths W vm c.ms) (s PT : ByteArray) (hPT : ¬ PT.size ≤ 40000) 
    (HA : ∀ w', Below W.heap.size W w' → Calls Tryz.prog 7 #[] w' fun e w'' => e = .returned (.bool true) ∧ Below w'.heap.size w' w'')
    (HP : ∀ w', Below W.heap.size W w' → Calls Tryz.prog 14 #[clsV c vi vm] w' fun e w'' => e = .returned (.tuple #[.string PT, .int .i64 0]) ∧ Below w'.heap.size w' w'')
    (HK : ∀ w', Below W.heap.size W w' → Calls Tryz.prog 8 #[clsV c vi vm] w' fun e w'' => e = .returned (.int .i64 0) ∧ Below w'.heap.size w' w'')
    (HY : ∀ w', Below W.heap.size W w' → Calls Tryz.prog 16 #[.string s] w' fun e w'' => ∃ ui um, e = .returned (.tuple #[clsV D ui um, .int .i64 0, .int .i64 0]) ∧ IsStrs w'' ui D.ifs ∧ IsMths w'' um D.ms ∧ Below w'.heap.size w' w'')
    (HPD : ∀ (ui um : Value) (w' : World), Below W.heap.size W w' → IsStrs w' ui D.ifs → IsMths w' um D.ms → Calls Tryz.prog 14 #[clsV D ui um] w' fun e w'' => e = .returned (.tuple #[.string s, .int .i64 0]) ∧ Below w'.heap.size w' w'')
    (HKD : ∀ (ui um : Value) (w' : World), Below W.heap.size W w' → IsStrs w' ui D.ifs → IsMths w' um D.ms → Calls Tryz.prog 8 #[clsV D ui um] w' fun e w'' => e = .returned (.int .i64 0) ∧ Below w'.heap.size w' w'') :
    Calls Tryz.prog 5 #[clsV c vi vm, .string s] W fun e w' => e = .returned (.bool true) ∧ Below W.heap.size W w' := by
  have HA : Hid _ := HA
  have HP : Hid _ := HP
  have HK : Hid _ := HK
  have HY : Hid _ := HY
  have HPD : Hid _ := HPD
  have HKD : Hid _ := HKD
  have h1 : ¬ (PT.size : Int) ≤ 40000 := by omega
  obtain ⟨ai, capi, rfl, _, _, _⟩ := hi
  obtain ⟨am, capm, rfl, _, _, _⟩ := hm
  obtain ⟨nm, su, ifs, fl, ld, ms⟩ := c
  obtain ⟨dn, du, difs, df, dl, dms⟩ := D
  simp only [clsV] at *
  generalize ifs.length = K at *
  generalize ms.length = M at *
  obtain ⟨Wc, hWc⟩ : ∃ x, x = W.alloc (.cells #[.string nm, .string su, .slice ai K capi, .int .i64 fl, .int .i64 ld, .slice am M capm] 25) := ⟨_, rfl⟩
  have HWc : Hid (Below W.heap.size W Wc) := by rw [hWc]; exact (Below.refl _ _).alloc (Nat.le_refl _) _
  have HCc : Hid (CB Wc W.heap.size nm su (.slice ai K capi) fl ld (.slice am M capm)) := by rw [hWc]; exact ⟨by simp, by simp [go_sem], by simp [go_sem], by simp [go_sem], by simp [go_sem], by simp [go_sem], by simp [go_sem]⟩
  have HWE : Hid (Wc = W.alloc (.cells #[.string nm, .string su, .slice ai K capi, .int .i64 fl, .int .i64 ld, .slice am M capm] 25)) := hWc
  clear hWc
  go_enter Tryz.func5, Tryz.ntmps5
  have ks : (s.toList == s.toList) = true := by simp
  go_wp2_with (first
    | (go_at_call 7; rw [← HWE.out]; refine (HA.out _ HWc.out).mono ?_; rintro e w1 ⟨rfl, hb1⟩; have B1 : Hid (Below Wc.heap.size Wc w1) := hb1; obtain ⟨g9, g0, g1, g2, g3, g4, g5⟩ := HCc.out.keep hb1; clear hb1 HWE HA)
    | (go_at_call 14; refine (HP.out _ (Below.step HWc.out B1.out)).mono ?_; rintro e w2 ⟨rfl, hb2⟩; have B2 : Hid (Below Wc.heap.size Wc w2) := Below.step B1.out hb2; clear hb2 g0 g1 g2 g3 g4 g5 g9 HP; obtain ⟨g9, g0, g1, g2, g3, g4, g5⟩ := HCc.out.keep B2.out)
    | (go_at_call 8; refine (HK.out _ (Below.step HWc.out B2.out)).mono ?_; rintro e w3 ⟨rfl, hb3⟩; have B3 : Hid (Below Wc.heap.size Wc w3) := Below.step B2.out hb3; clear hb3 g0 g1 g2 g3 g4 g5 g9 HK; obtain ⟨g9, g0, g1, g2, g3, g4, g5⟩ := HCc.out.keep B3.out)
    | (go_at_call 16; refine (HY.out _ (Below.step HWc.out B3.out)).mono ?_; rintro e w6 ⟨vi6, vm6, rfl, hvi6, hvm6, hb6⟩; have B6 : Hid (Below Wc.heap.size Wc w6) := Below.step B3.out hb6; have HVI : Hid (IsStrs w6 vi6 difs) := hvi6; have HVM : Hid (IsMths w6 vm6 dms) := hvm6; obtain ⟨ci, cipi, rfl, _, _, _⟩ := hvi6; obtain ⟨cm, cipm, rfl, _, _, _⟩ := hvm6; have hs6 := B6.out.size; clear hb6 HY)
    | (go_at_call 14; refine (HPD.out _ _ _ (Below.step HWc.out (B6.out.alloc B6.out.size _)) (HVI.out.keep ((Below.refl _ _).alloc (Nat.le_refl _) _)) (HVM.out.keep ((Below.refl _ _).alloc (Nat.le_refl _) _))).mono ?_; rintro e w7 ⟨rfl, hb7⟩; have B7 : Hid (Below Wc.heap.size Wc w7) := Below.step (B6.out.alloc B6.out.size _) hb7; have KI : Hid (IsStrs w7 _ difs) := (HVI.out.keep ((Below.refl _ _).alloc (Nat.le_refl _) _)).keep hb7; have KM : Hid (IsMths w7 _ dms) := (HVM.out.keep ((Below.refl _ _).alloc (Nat.le_refl _) _)).keep hb7; have rk := (hb7.block w6.heap.size (by simp)).trans (heap_alloc_new w6 _); have d0 := cell_of_row w7 w6.heap.size 0 _ _ _ rk; have d1 := cell_of_row w7 w6.heap.size 1 _ _ _ rk; have d2 := cell_of_row w7 w6.heap.size 2 _ _ _ rk; have d3 := cell_of_row w7 w6.heap.size 3 _ _ _ rk; have d4 := cell_of_row w7 w6.heap.size 4 _ _ _ rk; have d5 := cell_of_row w7 w6.heap.size 5 _ _ _ rk; simp only [List.getElem?_toArray, List.getElem?_cons_zero, List.getElem?_cons_succ] at d0 d1 d2 d3 d4 d5; clear rk; clear hb7 HPD HVI HVM)
    | (go_at_call 8; refine (HKD.out _ _ _ (Below.step HWc.out B7.out) KI.out KM.out).mono ?_; rintro e w8 ⟨rfl, hb8⟩; have B8 : Hid (Below Wc.heap.size Wc w8) := Below.step B7.out hb8; clear hb8 HKD))
  go_ret
  exact ⟨rfl, Below.step HWc.out B8.out⟩

set_option maxRecDepth 100000 in
set_option maxHeartbeats 2000000 in
theorem back_long_text (c D : Cls) (vi vm : Value) (W : World) (hi : IsStrs W vi c.ifs) (hm : IsMths W vm c.ms) (s PT : ByteArray) (hPT : ¬ PT.size ≤ 40000) (n : Nat) (hn1 : 1 ≤ n) (hn2 : n ≤ s.data.toList.count 10 + 1) (hsz : s.size ≤ 140737488351232)
    (HA : ∀ w', Below W.heap.size W w' → Calls Tryz.prog 7 #[] w' fun e w'' => e = .returned (.bool true) ∧ Below w'.heap.size w' w'')
    (HP : ∀ w', Below W.heap.size W w' → Calls Tryz.prog 14 #[clsV c vi vm] w' fun e w'' => e = .returned (.tuple #[.string PT, .int .i64 0]) ∧ Below w'.heap.size w' w'')
    (HK : ∀ w', Below W.heap.size W w' → Calls Tryz.prog 8 #[clsV c vi vm] w' fun e w'' => e = .returned (.int .i64 0) ∧ Below w'.heap.size w' w'')
    (HY : ∀ w', Below W.heap.size W w' → Calls Tryz.prog 16 #[.string s] w' fun e w'' => ∃ ui um, e = .returned (.tuple #[clsV D ui um, .int .i64 (n : Int), .int .i64 4]) ∧ IsStrs w'' ui D.ifs ∧ IsMths w'' um D.ms ∧ Below w'.heap.size w' w'')
    (HZ : ∀ (ui um : Value) (w' : World), IsStrs w' ui D.ifs → IsMths w' um D.ms → Calls Tryz.prog 18 #[clsV D ui um, .agg #[.string ⟨#[]⟩, .string ⟨#[]⟩, .slice none 0 0, .int .i64 0, .int .i64 0, .slice none 0 0]] w' fun e w'' => e = .returned (.bool true) ∧ Below w'.heap.size w' w'') :
    Calls Tryz.prog 5 #[clsV c vi vm, .string s] W fun e w' => e = .returned (.bool true) ∧ Below W.heap.size W w' := by
  have HA : Hid _ := HA
  have HP : Hid _ := HP
  have HK : Hid _ := HK
  have HY : Hid _ := HY
  have HZ : Hid _ := HZ
  have h1 : ¬ (PT.size : Int) ≤ 40000 := by omega
  obtain ⟨ai, capi, rfl, _, _, _⟩ := hi
  obtain ⟨am, capm, rfl, _, _, _⟩ := hm
  obtain ⟨nm, su, ifs, fl, ld, ms⟩ := c
  obtain ⟨dn, du, difs, df, dl, dms⟩ := D
  simp only [clsV] at *
  generalize ifs.length = K at *
  generalize ms.length = M at *
  obtain ⟨Wc, hWc⟩ : ∃ x, x = W.alloc (.cells #[.string nm, .string su, .slice ai K capi, .int .i64 fl, .int .i64 ld, .slice am M capm] 25) := ⟨_, rfl⟩
  have HWc : Hid (Below W.heap.size W Wc) := by rw [hWc]; exact (Below.refl _ _).alloc (Nat.le_refl _) _
  have HCc : Hid (CB Wc W.heap.size nm su (.slice ai K capi) fl ld (.slice am M capm)) := by rw [hWc]; exact ⟨by simp, by simp [go_sem], by simp [go_sem], by simp [go_sem], by simp [go_sem], by simp [go_sem], by simp [go_sem]⟩
  have HWE : Hid (Wc = W.alloc (.cells #[.string nm, .string su, .slice ai K capi, .int .i64 fl, .int .i64 ld, .slice am M capm] 25)) := hWc
  clear hWc
  go_enter Tryz.func5, Tryz.ntmps5
  go_wp2_with (first
    | (go_at_call 7; rw [← HWE.out]; refine (HA.out _ HWc.out).mono ?_; rintro e w1 ⟨rfl, hb1⟩; have B1 : Hid (Below Wc.heap.size Wc w1) := hb1; obtain ⟨g9, g0, g1, g2, g3, g4, g5⟩ := HCc.out.keep hb1; clear hb1 HWE HA)
    | (go_at_call 14; refine (HP.out _ (Below.step HWc.out B1.out)).mono ?_; rintro e w2 ⟨rfl, hb2⟩; have B2 : Hid (Below Wc.heap.size Wc w2) := Below.step B1.out hb2; clear hb2 g0 g1 g2 g3 g4 g5 g9 HP; obtain ⟨g9, g0, g1, g2, g3, g4, g5⟩ := HCc.out.keep B2.out)
    | (go_at_call 8; refine (HK.out _ (Below.step HWc.out B2.out)).mono ?_; rintro e w3 ⟨rfl, hb3⟩; have B3 : Hid (Below Wc.heap.size Wc w3) := Below.step B2.out hb3; clear hb3 g0 g1 g2 g3 g4 g5 g9 HK; obtain ⟨g9, g0, g1, g2, g3, g4, g5⟩ := HCc.out.keep B3.out)
    | (go_at_call 16; refine (HY.out _ (Below.step HWc.out B3.out)).mono ?_; rintro e w6 ⟨vi6, vm6, rfl, hvi6, hvm6, hb6⟩; have B6 : Hid (Below Wc.heap.size Wc w6) := Below.step B3.out hb6; have HVI : Hid (IsStrs w6 vi6 difs) := hvi6; have HVM : Hid (IsMths w6 vm6 dms) := hvm6; obtain ⟨ci, cipi, rfl, _, _, _⟩ := hvi6; obtain ⟨cm, cipm, rfl, _, _, _⟩ := hvm6; have hs6 := B6.out.size; clear hb6 HY))
  go_loop [15, 16] (fun lv iv => ∃ i : Nat, iv = .int .i64 i ∧ i ≤ s.size ∧ lv = .int .i64 (((s.data.toList.take i).count 10 + 1 : Nat) : Int)) (fun _ iv => s.size - (intOf iv).toNat)
  case atStart => exact ⟨0, rfl, Nat.zero_le _, rfl⟩
  case round =>
    obtain ⟨i, rfl, hi, rfl⟩ := hrel
    have hcl : (s.data.toList.take i).count 10 ≤ s.size := by
      have h1 := List.count_le_length (a := (10 : UInt8)) (l := s.data.toList.take i)
      rw [List.length_take] at h1
      omega
    by_cases hlt : i < s.size
    · have hcs := count_step s i hlt
      have HCS : Hid _ := hcs
      clear hcs
      obtain ⟨q, hq⟩ : ∃ q, (s.data.toList.take i).count 10 = q := ⟨_, rfl⟩
      rw [hq] at hcl HCS ⊢
      clear hq
      cases he : (((s[i]).toNat : Int) == 10) with
      | true =>
        have HN : Hid ((s.data.toList.take (i + 1)).count 10 = q + 1) := by have := HCS.out; rw [he] at this; exact this
        clear HCS
        go_wp2
        go_round
        case rel => exact ⟨i + 1, by go_num, by omega, by rw [HN.out]; go_num⟩
        case measure => simp [intOf]; omega
      | false =>
        have HN : Hid ((s.data.toList.take (i + 1)).count 10 = q) := by have := HCS.out; rw [he] at this; exact this
        clear HCS
        go_wp2
        go_round
        case rel => exact ⟨i + 1, by go_num, by omega, by rw [HN.out]⟩
        case measure => simp [intOf]; omega
    · have e : i = s.size := by omega
      have hct : (s.data.toList.take i).count 10 = s.data.toList.count 10 := by rw [e, List.take_of_length_le (by rw [bsize]; exact Nat.le_refl _)]
      obtain ⟨q, hq⟩ : ∃ q, (s.data.toList.take i).count 10 = q := ⟨_, rfl⟩
      rw [hq] at hcl hct ⊢
      rw [← hct] at hn2
      have j1 : (1 : Int) ≤ (n : Int) := by omega
      have j2 : (n : Int) ≤ ((q + 1 : Nat) : Int) := by omega
      have j3 : (n : Int) ≤ (q : Int) + 1 := by omega
      clear hq hct
      go_wp2_with (go_at_call 18; refine (HZ.out _ _ _ (HVI.out.keep ((Below.refl _ _).alloc (Nat.le_refl _) _)) (HVM.out.keep ((Below.refl _ _).alloc (Nat.le_refl _) _))).mono ?_; rintro e w7 ⟨rfl, hb7⟩; have B7 : Hid (Below Wc.heap.size Wc w7) := Below.step (B6.out.alloc B6.out.size _) hb7; clear hb7 HZ)
      go_ret
      exact ⟨rfl, Below.step HWc.out B7.out⟩

set_option maxRecDepth 100000 in
set_option maxHeartbeats 2000000 in
theorem back_long_form (c D : Cls) (vi vm : Value) (W : World) (hi : IsStrs W vi c.ifs) (hm : IsMths W vm c.ms) (s PT : ByteArray) (hPT : ¬ PT.size ≤ 40000) (hsz : s.size ≤ 140737488351232)
    (HA : ∀ w', Below W.heap.size W w' → Calls Tryz.prog 7 #[] w' fun e w'' => e = .returned (.bool true) ∧ Below w'.heap.size w' w'')
    (HP : ∀ w', Below W.heap.size W w' → Calls Tryz.prog 14 #[clsV c vi vm] w' fun e w'' => e = .returned (.tuple #[.string PT, .int .i64 0]) ∧ Below w'.heap.size w' w'')
    (HK : ∀ w', Below W.heap.size W w' → Calls Tryz.prog 8 #[clsV c vi vm] w' fun e w'' => e = .returned (.int .i64 0) ∧ Below w'.heap.size w' w'')
    (HY : ∀ w', Below W.heap.size W w' → Calls Tryz.prog 16 #[.string s] w' fun e w'' => ∃ ui um, e = .returned (.tuple #[clsV D ui um, .int .i64 0, .int .i64 1]) ∧ IsStrs w'' ui D.ifs ∧ IsMths w'' um D.ms ∧ Below w'.heap.size w' w'')
    (HZ : ∀ (ui um : Value) (w' : World), IsStrs w' ui D.ifs → IsMths w' um D.ms → Calls Tryz.prog 18 #[clsV D ui um, .agg #[.string ⟨#[]⟩, .string ⟨#[]⟩, .slice none 0 0, .int .i64 0, .int .i64 0, .slice none 0 0]] w' fun e w'' => e = .returned (.bool true) ∧ Below w'.heap.size w' w'') :
    Calls Tryz.prog 5 #[clsV c vi vm, .string s] W fun e w' => e = .returned (.bool true) ∧ Below W.heap.size W w' := by
  have HA : Hid _ := HA
  have HP : Hid _ := HP
  have HK : Hid _ := HK
  have HY : Hid _ := HY
  have HZ : Hid _ := HZ
  have h1 : ¬ (PT.size : Int) ≤ 40000 := by omega
  obtain ⟨ai, capi, rfl, _, _, _⟩ := hi
  obtain ⟨am, capm, rfl, _, _, _⟩ := hm
  obtain ⟨nm, su, ifs, fl, ld, ms⟩ := c
  obtain ⟨dn, du, difs, df, dl, dms⟩ := D
  simp only [clsV] at *
  generalize ifs.length = K at *
  generalize ms.length = M at *
  obtain ⟨Wc, hWc⟩ : ∃ x, x = W.alloc (.cells #[.string nm, .string su, .slice ai K capi, .int .i64 fl, .int .i64 ld, .slice am M capm] 25) := ⟨_, rfl⟩
  have HWc : Hid (Below W.heap.size W Wc) := by rw [hWc]; exact (Below.refl _ _).alloc (Nat.le_refl _) _
  have HCc : Hid (CB Wc W.heap.size nm su (.slice ai K capi) fl ld (.slice am M capm)) := by rw [hWc]; exact ⟨by simp, by simp [go_sem], by simp [go_sem], by simp [go_sem], by simp [go_sem], by simp [go_sem], by simp [go_sem]⟩
  have HWE : Hid (Wc = W.alloc (.cells #[.string nm, .string su, .slice ai K capi, .int .i64 fl, .int .i64 ld, .slice am M capm] 25)) := hWc
  clear hWc
  go_enter Tryz.func5, Tryz.ntmps5
  go_wp2_with (first
    | (go_at_call 7; rw [← HWE.out]; refine (HA.out _ HWc.out).mono ?_; rintro e w1 ⟨rfl, hb1⟩; have B1 : Hid (Below Wc.heap.size Wc w1) := hb1; obtain ⟨g9, g0, g1, g2, g3, g4, g5⟩ := HCc.out.keep hb1; clear hb1 HWE HA)
    | (go_at_call 14; refine (HP.out _ (Below.step HWc.out B1.out)).mono ?_; rintro e w2 ⟨rfl, hb2⟩; have B2 : Hid (Below Wc.heap.size Wc w2) := Below.step B1.out hb2; clear hb2 g0 g1 g2 g3 g4 g5 g9 HP; obtain ⟨g9, g0, g1, g2, g3, g4, g5⟩ := HCc.out.keep B2.out)
    | (go_at_call 8; refine (HK.out _ (Below.step HWc.out B2.out)).mono ?_; rintro e w3 ⟨rfl, hb3⟩; have B3 : Hid (Below Wc.heap.size Wc w3) := Below.step B2.out hb3; clear hb3 g0 g1 g2 g3 g4 g5 g9 HK; obtain ⟨g9, g0, g1, g2, g3, g4, g5⟩ := HCc.out.keep B3.out)
    | (go_at_call 16; refine (HY.out _ (Below.step HWc.out B3.out)).mono ?_; rintro e w6 ⟨vi6, vm6, rfl, hvi6, hvm6, hb6⟩; have B6 : Hid (Below Wc.heap.size Wc w6) := Below.step B3.out hb6; have HVI : Hid (IsStrs w6 vi6 difs) := hvi6; have HVM : Hid (IsMths w6 vm6 dms) := hvm6; obtain ⟨ci, cipi, rfl, _, _, _⟩ := hvi6; obtain ⟨cm, cipm, rfl, _, _, _⟩ := hvm6; have hs6 := B6.out.size; clear hb6 HY))
  go_loop [15, 16] (fun lv iv => ∃ i : Nat, iv = .int .i64 i ∧ i ≤ s.size ∧ lv = .int .i64 (((s.data.toList.take i).count 10 + 1 : Nat) : Int)) (fun _ iv => s.size - (intOf iv).toNat)
  case atStart => exact ⟨0, rfl, Nat.zero_le _, rfl⟩
  case round =>
    obtain ⟨i, rfl, hi, rfl⟩ := hrel
    have hcl : (s.data.toList.take i).count 10 ≤ s.size := by
      have h1 := List.count_le_length (a := (10 : UInt8)) (l := s.data.toList.take i)
      rw [List.length_take] at h1
      omega
    by_cases hlt : i < s.size
    · have hcs := count_step s i hlt
      have HCS : Hid _ := hcs
      clear hcs
      obtain ⟨q, hq⟩ : ∃ q, (s.data.toList.take i).count 10 = q := ⟨_, rfl⟩
      rw [hq] at hcl HCS ⊢
      clear hq
      cases he : (((s[i]).toNat : Int) == 10) with
      | true =>
        have HN : Hid ((s.data.toList.take (i + 1)).count 10 = q + 1) := by have := HCS.out; rw [he] at this; exact this
        clear HCS
        go_wp2
        go_round
        case rel => exact ⟨i + 1, by go_num, by omega, by rw [HN.out]; go_num⟩
        case measure => simp [intOf]; omega
      | false =>
        have HN : Hid ((s.data.toList.take (i + 1)).count 10 = q) := by have := HCS.out; rw [he] at this; exact this
        clear HCS
        go_wp2
        go_round
        case rel => exact ⟨i + 1, by go_num, by omega, by rw [HN.out]⟩
        case measure => simp [intOf]; omega
    · have e : i = s.size := by omega
      have hct : (s.data.toList.take i).count 10 = s.data.toList.count 10 := by rw [e, List.take_of_length_le (by rw [bsize]; exact Nat.le_refl _)]
      obtain ⟨q, hq⟩ : ∃ q, (s.data.toList.take i).count 10 = q := ⟨_, rfl⟩
      rw [hq] at hcl hct ⊢
      clear hq hct
      go_wp2_with (go_at_call 18; refine (HZ.out _ _ _ (HVI.out.keep ((Below.refl _ _).alloc (Nat.le_refl _) _)) (HVM.out.keep ((Below.refl _ _).alloc (Nat.le_refl _) _))).mono ?_; rintro e w7 ⟨rfl, hb7⟩; have B7 : Hid (Below Wc.heap.size Wc w7) := Below.step (B6.out.alloc B6.out.size _) hb7; clear hb7 HZ)
      go_ret
      exact ⟨rfl, Below.step HWc.out B7.out⟩

set_option maxRecDepth 100000 in
set_option maxHeartbeats 2000000 in
theorem back_long_large (c D : Cls) (vi vm : Value) (W : World) (hi : IsStrs W vi c.ifs) (hm : IsMths W vm c.ms) (s PT : ByteArray) (hPT : ¬ PT.size ≤ 40000) (hsz : s.size ≤ 140737488351232)
    (HA : ∀ w', Below W.heap.size W w' → Calls Tryz.prog 7 #[] w' fun e w'' => e = .returned (.bool true) ∧ Below w'.heap.size w' w'')
    (HP : ∀ w', Below W.heap.size W w' → Calls Tryz.prog 14 #[clsV c vi vm] w' fun e w'' => e = .returned (.tuple #[.string PT, .int .i64 0]) ∧ Below w'.heap.size w' w'')
    (HK : ∀ w', Below W.heap.size W w' → Calls Tryz.prog 8 #[clsV c vi vm] w' fun e w'' => e = .returned (.int .i64 0) ∧ Below w'.heap.size w' w'')
    (HY : ∀ w', Below W.heap.size W w' → Calls Tryz.prog 16 #[.string s] w' fun e w'' => ∃ ui um, e = .returned (.tuple #[clsV D ui um, .int .i64 0, .int .i64 5]) ∧ IsStrs w'' ui D.ifs ∧ IsMths w'' um D.ms ∧ Below w'.heap.size w' w'')
    (HZ : ∀ (ui um : Value) (w' : World), IsStrs w' ui D.ifs → IsMths w' um D.ms → Calls Tryz.prog 18 #[clsV D ui um, .agg #[.string ⟨#[]⟩, .string ⟨#[]⟩, .slice none 0 0, .int .i64 0, .int .i64 0, .slice none 0 0]] w' fun e w'' => e = .returned (.bool true) ∧ Below w'.heap.size w' w'') :
    Calls Tryz.prog 5 #[clsV c vi vm, .string s] W fun e w' => e = .returned (.bool true) ∧ Below W.heap.size W w' := by
  have HA : Hid _ := HA
  have HP : Hid _ := HP
  have HK : Hid _ := HK
  have HY : Hid _ := HY
  have HZ : Hid _ := HZ
  have h1 : ¬ (PT.size : Int) ≤ 40000 := by omega
  obtain ⟨ai, capi, rfl, _, _, _⟩ := hi
  obtain ⟨am, capm, rfl, _, _, _⟩ := hm
  obtain ⟨nm, su, ifs, fl, ld, ms⟩ := c
  obtain ⟨dn, du, difs, df, dl, dms⟩ := D
  simp only [clsV] at *
  generalize ifs.length = K at *
  generalize ms.length = M at *
  obtain ⟨Wc, hWc⟩ : ∃ x, x = W.alloc (.cells #[.string nm, .string su, .slice ai K capi, .int .i64 fl, .int .i64 ld, .slice am M capm] 25) := ⟨_, rfl⟩
  have HWc : Hid (Below W.heap.size W Wc) := by rw [hWc]; exact (Below.refl _ _).alloc (Nat.le_refl _) _
  have HCc : Hid (CB Wc W.heap.size nm su (.slice ai K capi) fl ld (.slice am M capm)) := by rw [hWc]; exact ⟨by simp, by simp [go_sem], by simp [go_sem], by simp [go_sem], by simp [go_sem], by simp [go_sem], by simp [go_sem]⟩
  have HWE : Hid (Wc = W.alloc (.cells #[.string nm, .string su, .slice ai K capi, .int .i64 fl, .int .i64 ld, .slice am M capm] 25)) := hWc
  clear hWc
  go_enter Tryz.func5, Tryz.ntmps5
  go_wp2_with (first
    | (go_at_call 7; rw [← HWE.out]; refine (HA.out _ HWc.out).mono ?_; rintro e w1 ⟨rfl, hb1⟩; have B1 : Hid (Below Wc.heap.size Wc w1) := hb1; obtain ⟨g9, g0, g1, g2, g3, g4, g5⟩ := HCc.out.keep hb1; clear hb1 HWE HA)
    | (go_at_call 14; refine (HP.out _ (Below.step HWc.out B1.out)).mono ?_; rintro e w2 ⟨rfl, hb2⟩; have B2 : Hid (Below Wc.heap.size Wc w2) := Below.step B1.out hb2; clear hb2 g0 g1 g2 g3 g4 g5 g9 HP; obtain ⟨g9, g0, g1, g2, g3, g4, g5⟩ := HCc.out.keep B2.out)
    | (go_at_call 8; refine (HK.out _ (Below.step HWc.out B2.out)).mono ?_; rintro e w3 ⟨rfl, hb3⟩; have B3 : Hid (Below Wc.heap.size Wc w3) := Below.step B2.out hb3; clear hb3 g0 g1 g2 g3 g4 g5 g9 HK; obtain ⟨g9, g0, g1, g2, g3, g4, g5⟩ := HCc.out.keep B3.out)
    | (go_at_call 16; refine (HY.out _ (Below.step HWc.out B3.out)).mono ?_; rintro e w6 ⟨vi6, vm6, rfl, hvi6, hvm6, hb6⟩; have B6 : Hid (Below Wc.heap.size Wc w6) := Below.step B3.out hb6; have HVI : Hid (IsStrs w6 vi6 difs) := hvi6; have HVM : Hid (IsMths w6 vm6 dms) := hvm6; obtain ⟨ci, cipi, rfl, _, _, _⟩ := hvi6; obtain ⟨cm, cipm, rfl, _, _, _⟩ := hvm6; have hs6 := B6.out.size; clear hb6 HY))
  go_loop [15, 16] (fun lv iv => ∃ i : Nat, iv = .int .i64 i ∧ i ≤ s.size ∧ lv = .int .i64 (((s.data.toList.take i).count 10 + 1 : Nat) : Int)) (fun _ iv => s.size - (intOf iv).toNat)
  case atStart => exact ⟨0, rfl, Nat.zero_le _, rfl⟩
  case round =>
    obtain ⟨i, rfl, hi, rfl⟩ := hrel
    have hcl : (s.data.toList.take i).count 10 ≤ s.size := by
      have h1 := List.count_le_length (a := (10 : UInt8)) (l := s.data.toList.take i)
      rw [List.length_take] at h1
      omega
    by_cases hlt : i < s.size
    · have hcs := count_step s i hlt
      have HCS : Hid _ := hcs
      clear hcs
      obtain ⟨q, hq⟩ : ∃ q, (s.data.toList.take i).count 10 = q := ⟨_, rfl⟩
      rw [hq] at hcl HCS ⊢
      clear hq
      cases he : (((s[i]).toNat : Int) == 10) with
      | true =>
        have HN : Hid ((s.data.toList.take (i + 1)).count 10 = q + 1) := by have := HCS.out; rw [he] at this; exact this
        clear HCS
        go_wp2
        go_round
        case rel => exact ⟨i + 1, by go_num, by omega, by rw [HN.out]; go_num⟩
        case measure => simp [intOf]; omega
      | false =>
        have HN : Hid ((s.data.toList.take (i + 1)).count 10 = q) := by have := HCS.out; rw [he] at this; exact this
        clear HCS
        go_wp2
        go_round
        case rel => exact ⟨i + 1, by go_num, by omega, by rw [HN.out]⟩
        case measure => simp [intOf]; omega
    · have e : i = s.size := by omega
      have hct : (s.data.toList.take i).count 10 = s.data.toList.count 10 := by rw [e, List.take_of_length_le (by rw [bsize]; exact Nat.le_refl _)]
      obtain ⟨q, hq⟩ : ∃ q, (s.data.toList.take i).count 10 = q := ⟨_, rfl⟩
      rw [hq] at hcl hct ⊢
      clear hq hct
      go_wp2_with (go_at_call 18; refine (HZ.out _ _ _ (HVI.out.keep ((Below.refl _ _).alloc (Nat.le_refl _) _)) (HVM.out.keep ((Below.refl _ _).alloc (Nat.le_refl _) _))).mono ?_; rintro e w7 ⟨rfl, hb7⟩; have B7 : Hid (Below Wc.heap.size Wc w7) := Below.step (B6.out.alloc B6.out.size _) hb7; clear hb7 HZ)
      go_ret
      exact ⟨rfl, Below.step HWc.out B7.out⟩

set_option maxRecDepth 100000 in
set_option maxHeartbeats 2000000 in
theorem back_bad_ok (c D : Cls) (vi vm : Value) (W : World) (hi : IsStrs W vi c.ifs) (hm : IsMths W vm c.ms) (s PT : ByteArray)  
    (HA : ∀ w', Below W.heap.size W w' → Calls Tryz.prog 7 #[] w' fun e w'' => e = .returned (.bool true) ∧ Below w'.heap.size w' w'')
    (HP : ∀ w', Below W.heap.size W w' → Calls Tryz.prog 14 #[clsV c vi vm] w' fun e w'' => e = .returned (.tuple #[.string PT, .int .i64 1]) ∧ Below w'.heap.size w' w'')
    (HK : ∀ w', Below W.heap.size W w' → Calls Tryz.prog 8 #[clsV c vi vm] w' fun e w'' => e = .returned (.int .i64 1) ∧ Below w'.heap.size w' w'')
    (HY : ∀ w', Below W.heap.size W w' → Calls Tryz.prog 16 #[.string s] w' fun e w'' => ∃ ui um, e = .returned (.tuple #[clsV D ui um, .int .i64 0, .int .i64 0]) ∧ IsStrs w'' ui D.ifs ∧ IsMths w'' um D.ms ∧ Below w'.heap.size w' w'')
    (HPD : ∀ (ui um : Value) (w' : World), Below W.heap.size W w' → IsStrs w' ui D.ifs → IsMths w' um D.ms → Calls Tryz.prog 14 #[clsV D ui um] w' fun e w'' => e = .returned (.tuple #[.string s, .int .i64 0]) ∧ Below w'.heap.size w' w'')
    (HKD : ∀ (ui um : Value) (w' : World), Below W.heap.size W w' → IsStrs w' ui D.ifs → IsMths w' um D.ms → Calls Tryz.prog 8 #[clsV D ui um] w' fun e w'' => e = .returned (.int .i64 0) ∧ Below w'.heap.size w' w'') :
    Calls Tryz.prog 5 #[clsV c vi vm, .string s] W fun e w' => e = .returned (.bool true) ∧ Below W.heap.size W w' := by
  have HA : Hid _ := HA
  have HP : Hid _ := HP
  have HK : Hid _ := HK
  have HY : Hid _ := HY
  have HPD : Hid _ := HPD
  have HKD : Hid _ := HKD
  obtain ⟨ai, capi, rfl, _, _, _⟩ := hi
  obtain ⟨am, capm, rfl, _, _, _⟩ := hm
  obtain ⟨nm, su, ifs, fl, ld, ms⟩ := c
  obtain ⟨dn, du, difs, df, dl, dms⟩ := D
  simp only [clsV] at *
  generalize ifs.length = K at *
  generalize ms.length = M at *
  obtain ⟨Wc, hWc⟩ : ∃ x, x = W.alloc (.cells #[.string nm, .string su, .slice ai K capi, .int .i64 fl, .int .i64 ld, .slice am M capm] 25) := ⟨_, rfl⟩
  have HWc : Hid (Below W.heap.size W Wc) := by rw [hWc]; exact (Below.refl _ _).alloc (Nat.le_refl _) _
  have HCc : Hid (CB Wc W.heap.size nm su (.slice ai K capi) fl ld (.slice am M capm)) := by rw [hWc]; exact ⟨by simp, by simp [go_sem], by simp [go_sem], by simp [go_sem], by simp [go_sem], by simp [go_sem], by simp [go_sem]⟩
  have HWE : Hid (Wc = W.alloc (.cells #[.string nm, .string su, .slice ai K capi, .int .i64 fl, .int .i64 ld, .slice am M capm] 25)) := hWc
  clear hWc
  go_enter Tryz.func5, Tryz.ntmps5
  have ks : (s.toList == s.toList) = true := by simp
  go_wp2_with (first
    | (go_at_call 7; rw [← HWE.out]; refine (HA.out _ HWc.out).mono ?_; rintro e w1 ⟨rfl, hb1⟩; have B1 : Hid (Below Wc.heap.size Wc w1) := hb1; obtain ⟨g9, g0, g1, g2, g3, g4, g5⟩ := HCc.out.keep hb1; clear hb1 HWE HA)
    | (go_at_call 14; refine (HP.out _ (Below.step HWc.out B1.out)).mono ?_; rintro e w2 ⟨rfl, hb2⟩; have B2 : Hid (Below Wc.heap.size Wc w2) := Below.step B1.out hb2; clear hb2 g0 g1 g2 g3 g4 g5 g9 HP; obtain ⟨g9, g0, g1, g2, g3, g4, g5⟩ := HCc.out.keep B2.out)
    | (go_at_call 8; refine (HK.out _ (Below.step HWc.out B2.out)).mono ?_; rintro e w3 ⟨rfl, hb3⟩; have B3 : Hid (Below Wc.heap.size Wc w3) := Below.step B2.out hb3; clear hb3 g0 g1 g2 g3 g4 g5 g9 HK; obtain ⟨g9, g0, g1, g2, g3, g4, g5⟩ := HCc.out.keep B3.out)
    | (go_at_call 16; refine (HY.out _ (Below.step HWc.out B3.out)).mono ?_; rintro e w6 ⟨vi6, vm6, rfl, hvi6, hvm6, hb6⟩; have B6 : Hid (Below Wc.heap.size Wc w6) := Below.step B3.out hb6; have HVI : Hid (IsStrs w6 vi6 difs) := hvi6; have HVM : Hid (IsMths w6 vm6 dms) := hvm6; obtain ⟨ci, cipi, rfl, _, _, _⟩ := hvi6; obtain ⟨cm, cipm, rfl, _, _, _⟩ := hvm6; have hs6 := B6.out.size; clear hb6 HY)
    | (go_at_call 14; refine (HPD.out _ _ _ (Below.step HWc.out (B6.out.alloc B6.out.size _)) (HVI.out.keep ((Below.refl _ _).alloc (Nat.le_refl _) _)) (HVM.out.keep ((Below.refl _ _).alloc (Nat.le_refl _) _))).mono ?_; rintro e w7 ⟨rfl, hb7⟩; have B7 : Hid (Below Wc.heap.size Wc w7) := Below.step (B6.out.alloc B6.out.size _) hb7; have KI : Hid (IsStrs w7 _ difs) := (HVI.out.keep ((Below.refl _ _).alloc (Nat.le_refl _) _)).keep hb7; have KM : Hid (IsMths w7 _ dms) := (HVM.out.keep ((Below.refl _ _).alloc (Nat.le_refl _) _)).keep hb7; have rk := (hb7.block w6.heap.size (by simp)).trans (heap_alloc_new w6 _); have d0 := cell_of_row w7 w6.heap.size 0 _ _ _ rk; have d1 := cell_of_row w7 w6.heap.size 1 _ _ _ rk; have d2 := cell_of_row w7 w6.heap.size 2 _ _ _ rk; have d3 := cell_of_row w7 w6.heap.size 3 _ _ _ rk; have d4 := cell_of_row w7 w6.heap.size 4 _ _ _ rk; have d5 := cell_of_row w7 w6.heap.size 5 _ _ _ rk; simp only [List.getElem?_toArray, List.getElem?_cons_zero, List.getElem?_cons_succ] at d0 d1 d2 d3 d4 d5; clear rk; clear hb7 HPD HVI HVM)
    | (go_at_call 8; refine (HKD.out _ _ _ (Below.step HWc.out B7.out) KI.out KM.out).mono ?_; rintro e w8 ⟨rfl, hb8⟩; have B8 : Hid (Below Wc.heap.size Wc w8) := Below.step B7.out hb8; clear hb8 HKD))
  go_ret
  exact ⟨rfl, Below.step HWc.out B8.out⟩

set_option maxRecDepth 100000 in
set_option maxHeartbeats 2000000 in
theorem back_bad_text (c D : Cls) (vi vm : Value) (W : World) (hi : IsStrs W vi c.ifs) (hm : IsMths W vm c.ms) (s PT : ByteArray)  (n : Nat) (hn1 : 1 ≤ n) (hn2 : n ≤ s.data.toList.count 10 + 1) (hsz : s.size ≤ 140737488351232)
    (HA : ∀ w', Below W.heap.size W w' → Calls Tryz.prog 7 #[] w' fun e w'' => e = .returned (.bool true) ∧ Below w'.heap.size w' w'')
    (HP : ∀ w', Below W.heap.size W w' → Calls Tryz.prog 14 #[clsV c vi vm] w' fun e w'' => e = .returned (.tuple #[.string PT, .int .i64 1]) ∧ Below w'.heap.size w' w'')
    (HK : ∀ w', Below W.heap.size W w' → Calls Tryz.prog 8 #[clsV c vi vm] w' fun e w'' => e = .returned (.int .i64 1) ∧ Below w'.heap.size w' w'')
    (HY : ∀ w', Below W.heap.size W w' → Calls Tryz.prog 16 #[.string s] w' fun e w'' => ∃ ui um, e = .returned (.tuple #[clsV D ui um, .int .i64 (n : Int), .int .i64 4]) ∧ IsStrs w'' ui D.ifs ∧ IsMths w'' um D.ms ∧ Below w'.heap.size w' w'')
    (HZ : ∀ (ui um : Value) (w' : World), IsStrs w' ui D.ifs → IsMths w' um D.ms → Calls Tryz.prog 18 #[clsV D ui um, .agg #[.string ⟨#[]⟩, .string ⟨#[]⟩, .slice none 0 0, .int .i64 0, .int .i64 0, .slice none 0 0]] w' fun e w'' => e = .returned (.bool true) ∧ Below w'.heap.size w' w'') :
    Calls Tryz.prog 5 #[clsV c vi vm, .string s] W fun e w' => e = .returned (.bool true) ∧ Below W.heap.size W w' := by
  have HA : Hid _ := HA
  have HP : Hid _ := HP
  have HK : Hid _ := HK
  have HY : Hid _ := HY
  have HZ : Hid _ := HZ
  obtain ⟨ai, capi, rfl, _, _, _⟩ := hi
  obtain ⟨am, capm, rfl, _, _, _⟩ := hm
  obtain ⟨nm, su, ifs, fl, ld, ms⟩ := c
  obtain ⟨dn, du, difs, df, dl, dms⟩ := D
  simp only [clsV] at *
  generalize ifs.length = K at *
  generalize ms.length = M at *
  obtain ⟨Wc, hWc⟩ : ∃ x, x = W.alloc (.cells #[.string nm, .string su, .slice ai K capi, .int .i64 fl, .int .i64 ld, .slice am M capm] 25) := ⟨_, rfl⟩
  have HWc : Hid (Below W.heap.size W Wc) := by rw [hWc]; exact (Below.refl _ _).alloc (Nat.le_refl _) _
  have HCc : Hid (CB Wc W.heap.size nm su (.slice ai K capi) fl ld (.slice am M capm)) := by rw [hWc]; exact ⟨by simp, by simp [go_sem], by simp [go_sem], by simp [go_sem], by simp [go_sem], by simp [go_sem], by simp [go_sem]⟩
  have HWE : Hid (Wc = W.alloc (.cells #[.string nm, .string su, .slice ai K capi, .int .i64 fl, .int .i64 ld, .slice am M capm] 25)) := hWc
  clear hWc
  go_enter Tryz.func5, Tryz.ntmps5
  go_wp2_with (first
    | (go_at_call 7; rw [← HWE.out]; refine (HA.out _ HWc.out).mono ?_; rintro e w1 ⟨rfl, hb1⟩; have B1 : Hid (Below Wc.heap.size Wc w1) := hb1; obtain ⟨g9, g0, g1, g2, g3, g4, g5⟩ := HCc.out.keep hb1; clear hb1 HWE HA)
    | (go_at_call 14; refine (HP.out _ (Below.step HWc.out B1.out)).mono ?_; rintro e w2 ⟨rfl, hb2⟩; have B2 : Hid (Below Wc.heap.size Wc w2) := Below.step B1.out hb2; clear hb2 g0 g1 g2 g3 g4 g5 g9 HP; obtain ⟨g9, g0, g1, g2, g3, g4, g5⟩ := HCc.out.keep B2.out)
    | (go_at_call 8; refine (HK.out _ (Below.step HWc.out B2.out)).mono ?_; rintro e w3 ⟨rfl, hb3⟩; have B3 : Hid (Below Wc.heap.size Wc w3) := Below.step B2.out hb3; clear hb3 g0 g1 g2 g3 g4 g5 g9 HK; obtain ⟨g9, g0, g1, g2, g3, g4, g5⟩ := HCc.out.keep B3.out)
    | (go_at_call 16; refine (HY.out _ (Below.step HWc.out B3.out)).mono ?_; rintro e w6 ⟨vi6, vm6, rfl, hvi6, hvm6, hb6⟩; have B6 : Hid (Below Wc.heap.size Wc w6) := Below.step B3.out hb6; have HVI : Hid (IsStrs w6 vi6 difs) := hvi6; have HVM : Hid (IsMths w6 vm6 dms) := hvm6; obtain ⟨ci, cipi, rfl, _, _, _⟩ := hvi6; obtain ⟨cm, cipm, rfl, _, _, _⟩ := hvm6; have hs6 := B6.out.size; clear hb6 HY))
  go_loop [15, 16] (fun lv iv => ∃ i : Nat, iv = .int .i64 i ∧ i ≤ s.size ∧ lv = .int .i64 (((s.data.toList.take i).count 10 + 1 : Nat) : Int)) (fun _ iv => s.size - (intOf iv).toNat)
  case atStart => exact ⟨0, rfl, Nat.zero_le _, rfl⟩
  case round =>
    obtain ⟨i, rfl, hi, rfl⟩ := hrel
    have hcl : (s.data.toList.take i).count 10 ≤ s.size := by
      have h1 := List.count_le_length (a := (10 : UInt8)) (l := s.data.toList.take i)
      rw [List.length_take] at h1
      omega
    by_cases hlt : i < s.size
    · have hcs := count_step s i hlt
      have HCS : Hid _ := hcs
      clear hcs
      obtain ⟨q, hq⟩ : ∃ q, (s.data.toList.take i).count 10 = q := ⟨_, rfl⟩
      rw [hq] at hcl HCS ⊢
      clear hq
      cases he : (((s[i]).toNat : Int) == 10) with
      | true =>
        have HN : Hid ((s.data.toList.take (i + 1)).count 10 = q + 1) := by have := HCS.out; rw [he] at this; exact this
        clear HCS
        go_wp2
        go_round
        case rel => exact ⟨i + 1, by go_num, by omega, by rw [HN.out]; go_num⟩
        case measure => simp [intOf]; omega
      | false =>
        have HN : Hid ((s.data.toList.take (i + 1)).count 10 = q) := by have := HCS.out; rw [he] at this; exact this
        clear HCS
        go_wp2
        go_round
        case rel => exact ⟨i + 1, by go_num, by omega, by rw [HN.out]⟩
        case measure => simp [intOf]; omega
    · have e : i = s.size := by omega
      have hct : (s.data.toList.take i).count 10 = s.data.toList.count 10 := by rw [e, List.take_of_length_le (by rw [bsize]; exact Nat.le_refl _)]
      obtain ⟨q, hq⟩ : ∃ q, (s.data.toList.take i).count 10 = q := ⟨_, rfl⟩
      rw [hq] at hcl hct ⊢
      rw [← hct] at hn2
      have j1 : (1 : Int) ≤ (n : Int) := by omega
      have j2 : (n : Int) ≤ ((q + 1 : Nat) : Int) := by omega
      have j3 : (n : Int) ≤ (q : Int) + 1 := by omega
      clear hq hct
      go_wp2_with (go_at_call 18; refine (HZ.out _ _ _ (HVI.out.keep ((Below.refl _ _).alloc (Nat.le_refl _) _)) (HVM.out.keep ((Below.refl _ _).alloc (Nat.le_refl _) _))).mono ?_; rintro e w7 ⟨rfl, hb7⟩; have B7 : Hid (Below Wc.heap.size Wc w7) := Below.step (B6.out.alloc B6.out.size _) hb7; clear hb7 HZ)
      go_ret
      exact ⟨rfl, Below.step HWc.out B7.out⟩

set_option maxRecDepth 100000 in
set_option maxHeartbeats 2000000 in
theorem back_bad_form (c D : Cls) (vi vm : Value) (W : World) (hi : IsStrs W vi c.ifs) (hm : IsMths W vm c.ms) (s PT : ByteArray)  (hsz : s.size ≤ 140737488351232)
    (HA : ∀ w', Below W.heap.size W w' → Calls Tryz.prog 7 #[] w' fun e w'' => e = .returned (.bool true) ∧ Below w'.heap.size w' w'')
    (HP : ∀ w', Below W.heap.size W w' → Calls Tryz.prog 14 #[clsV c vi vm] w' fun e w'' => e = .returned (.tuple #[.string PT, .int .i64 1]) ∧ Below w'.heap.size w' w'')
    (HK : ∀ w', Below W.heap.size W w' → Calls Tryz.prog 8 #[clsV c vi vm] w' fun e w'' => e = .returned (.int .i64 1) ∧ Below w'.heap.size w' w'')
    (HY : ∀ w', Below W.heap.size W w' → Calls Tryz.prog 16 #[.string s] w' fun e w'' => ∃ ui um, e = .returned (.tuple #[clsV D ui um, .int .i64 0, .int .i64 1]) ∧ IsStrs w'' ui D.ifs ∧ IsMths w'' um D.ms ∧ Below w'.heap.size w' w'')
    (HZ : ∀ (ui um : Value) (w' : World), IsStrs w' ui D.ifs → IsMths w' um D.ms → Calls Tryz.prog 18 #[clsV D ui um, .agg #[.string ⟨#[]⟩, .string ⟨#[]⟩, .slice none 0 0, .int .i64 0, .int .i64 0, .slice none 0 0]] w' fun e w'' => e = .returned (.bool true) ∧ Below w'.heap.size w' w'') :
    Calls Tryz.prog 5 #[clsV c vi vm, .string s] W fun e w' => e = .returned (.bool true) ∧ Below W.heap.size W w' := by
  have HA : Hid _ := HA
  have HP : Hid _ := HP
  have HK : Hid _ := HK
  have HY : Hid _ := HY
  have HZ : Hid _ := HZ
  obtain ⟨ai, capi, rfl, _, _, _⟩ := hi
  obtain ⟨am, capm, rfl, _, _, _⟩ := hm
  obtain ⟨nm, su, ifs, fl, ld, ms⟩ := c
  obtain ⟨dn, du, difs, df, dl, dms⟩ := D
  simp only [clsV] at *
  generalize ifs.length = K at *
  generalize ms.length = M at *
  obtain ⟨Wc, hWc⟩ : ∃ x, x = W.alloc (.cells #[.string nm, .string su, .slice ai K capi, .int .i64 fl, .int .i64 ld, .slice am M capm] 25) := ⟨_, rfl⟩
  have HWc : Hid (Below W.heap.size W Wc) := by rw [hWc]; exact (Below.refl _ _).alloc (Nat.le_refl _) _
  have HCc : Hid (CB Wc W.heap.size nm su (.slice ai K capi) fl ld (.slice am M capm)) := by rw [hWc]; exact ⟨by simp, by simp [go_sem], by simp [go_sem], by simp [go_sem], by simp [go_sem], by simp [go_sem], by simp [go_sem]⟩
  have HWE : Hid (Wc = W.alloc (.cells #[.string nm, .string su, .slice ai K capi, .int .i64 fl, .int .i64 ld, .slice am M capm] 25)) := hWc
  clear hWc
  go_enter Tryz.func5, Tryz.ntmps5
  go_wp2_with (first
    | (go_at_call 7; rw [← HWE.out]; refine (HA.out _ HWc.out).mono ?_; rintro e w1 ⟨rfl, hb1⟩; have B1 : Hid (Below Wc.heap.size Wc w1) := hb1; obtain ⟨g9, g0, g1, g2, g3, g4, g5⟩ := HCc.out.keep hb1; clear hb1 HWE HA)
    | (go_at_call 14; refine (HP.out _ (Below.step HWc.out B1.out)).mono ?_; rintro e w2 ⟨rfl, hb2⟩; have B2 : Hid (Below Wc.heap.size Wc w2) := Below.step B1.out hb2; clear hb2 g0 g1 g2 g3 g4 g5 g9 HP; obtain ⟨g9, g0, g1, g2, g3, g4, g5⟩ := HCc.out.keep B2.out)
    | (go_at_call 8; refine (HK.out _ (Below.step HWc.out B2.out)).mono ?_; rintro e w3 ⟨rfl, hb3⟩; have B3 : Hid (Below Wc.heap.size Wc w3) := Below.step B2.out hb3; clear hb3 g0 g1 g2 g3 g4 g5 g9 HK; obtain ⟨g9, g0, g1, g2, g3, g4, g5⟩ := HCc.out.keep B3.out)
    | (go_at_call 16; refine (HY.out _ (Below.step HWc.out B3.out)).mono ?_; rintro e w6 ⟨vi6, vm6, rfl, hvi6, hvm6, hb6⟩; have B6 : Hid (Below Wc.heap.size Wc w6) := Below.step B3.out hb6; have HVI : Hid (IsStrs w6 vi6 difs) := hvi6; have HVM : Hid (IsMths w6 vm6 dms) := hvm6; obtain ⟨ci, cipi, rfl, _, _, _⟩ := hvi6; obtain ⟨cm, cipm, rfl, _, _, _⟩ := hvm6; have hs6 := B6.out.size; clear hb6 HY))
  go_loop [15, 16] (fun lv iv => ∃ i : Nat, iv = .int .i64 i ∧ i ≤ s.size ∧ lv = .int .i64 (((s.data.toList.take i).count 10 + 1 : Nat) : Int)) (fun _ iv => s.size - (intOf iv).toNat)
  case atStart => exact ⟨0, rfl, Nat.zero_le _, rfl⟩
  case round =>
    obtain ⟨i, rfl, hi, rfl⟩ := hrel
    have hcl : (s.data.toList.take i).count 10 ≤ s.size := by
      have h1 := List.count_le_length (a := (10 : UInt8)) (l := s.data.toList.take i)
      rw [List.length_take] at h1
      omega
    by_cases hlt : i < s.size
    · have hcs := count_step s i hlt
      have HCS : Hid _ := hcs
      clear hcs
      obtain ⟨q, hq⟩ : ∃ q, (s.data.toList.take i).count 10 = q := ⟨_, rfl⟩
      rw [hq] at hcl HCS ⊢
      clear hq
      cases he : (((s[i]).toNat : Int) == 10) with
      | true =>
        have HN : Hid ((s.data.toList.take (i + 1)).count 10 = q + 1) := by have := HCS.out; rw [he] at this; exact this
        clear HCS
        go_wp2
        go_round
        case rel => exact ⟨i + 1, by go_num, by omega, by rw [HN.out]; go_num⟩
        case measure => simp [intOf]; omega
      | false =>
        have HN : Hid ((s.data.toList.take (i + 1)).count 10 = q) := by have := HCS.out; rw [he] at this; exact this
        clear HCS
        go_wp2
        go_round
        case rel => exact ⟨i + 1, by go_num, by omega, by rw [HN.out]⟩
        case measure => simp [intOf]; omega
    · have e : i = s.size := by omega
      have hct : (s.data.toList.take i).count 10 = s.data.toList.count 10 := by rw [e, List.take_of_length_le (by rw [bsize]; exact Nat.le_refl _)]
      obtain ⟨q, hq⟩ : ∃ q, (s.data.toList.take i).count 10 = q := ⟨_, rfl⟩
      rw [hq] at hcl hct ⊢
      clear hq hct
      go_wp2_with (go_at_call 18; refine (HZ.out _ _ _ (HVI.out.keep ((Below.refl _ _).alloc (Nat.le_refl _) _)) (HVM.out.keep ((Below.refl _ _).alloc (Nat.le_refl _) _))).mono ?_; rintro e w7 ⟨rfl, hb7⟩; have B7 : Hid (Below Wc.heap.size Wc w7) := Below.step (B6.out.alloc B6.out.size _) hb7; clear hb7 HZ)
      go_ret
      exact ⟨rfl, Below.step HWc.out B7.out⟩

set_option maxRecDepth 100000 in
set_option maxHeartbeats 2000000 in
theorem back_bad_large (c D : Cls) (vi vm : Value) (W : World) (hi : IsStrs W vi c.ifs) (hm : IsMths W vm c.ms) (s PT : ByteArray)  (hsz : s.size ≤ 140737488351232)
    (HA : ∀ w', Below W.heap.size W w' → Calls Tryz.prog 7 #[] w' fun e w'' => e = .returned (.bool true) ∧ Below w'.heap.size w' w'')
    (HP : ∀ w', Below W.heap.size W w' → Calls Tryz.prog 14 #[clsV c vi vm] w' fun e w'' => e = .returned (.tuple #[.string PT, .int .i64 1]) ∧ Below w'.heap.size w' w'')
    (HK : ∀ w', Below W.heap.size W w' → Calls Tryz.prog 8 #[clsV c vi vm] w' fun e w'' => e = .returned (.int .i64 1) ∧ Below w'.heap.size w' w'')
    (HY : ∀ w', Below W.heap.size W w' → Calls Tryz.prog 16 #[.string s] w' fun e w'' => ∃ ui um, e = .returned (.tuple #[clsV D ui um, .int .i64 0, .int .i64 5]) ∧ IsStrs w'' ui D.ifs ∧ IsMths w'' um D.ms ∧ Below w'.heap.size w' w'')
    (HZ : ∀ (ui um : Value) (w' : World), IsStrs w' ui D.ifs → IsMths w' um D.ms → Calls Tryz.prog 18 #[clsV D ui um, .agg #[.string ⟨#[]⟩, .string ⟨#[]⟩, .slice none 0 0, .int .i64 0, .int .i64 0, .slice none 0 0]] w' fun e w'' => e = .returned (.bool true) ∧ Below w'.heap.size w' w'') :
    Calls Tryz.prog 5 #[clsV c vi vm, .string s] W fun e w' => e = .returned (.bool true) ∧ Below W.heap.size W w' := by
  have HA : Hid _ := HA
  have HP : Hid _ := HP
  have HK : Hid _ := HK
  have HY : Hid _ := HY
  have HZ : Hid _ := HZ
  obtain ⟨ai, capi, rfl, _, _, _⟩ := hi
  obtain ⟨am, capm, rfl, _, _, _⟩ := hm
  obtain ⟨nm, su, ifs, fl, ld, ms⟩ := c
  obtain ⟨dn, du, difs, df, dl, dms⟩ := D
  simp only [clsV] at *
  generalize ifs.length = K at *
  generalize ms.length = M at *
  obtain ⟨Wc, hWc⟩ : ∃ x, x = W.alloc (.cells #[.string nm, .string su, .slice ai K capi, .int .i64 fl, .int .i64 ld, .slice am M capm] 25) := ⟨_, rfl⟩
  have HWc : Hid (Below W.heap.size W Wc) := by rw [hWc]; exact (Below.refl _ _).alloc (Nat.le_refl _) _
  have HCc : Hid (CB Wc W.heap.size nm su (.slice ai K capi) fl ld (.slice am M capm)) := by rw [hWc]; exact ⟨by simp, by simp [go_sem], by simp [go_sem], by simp [go_sem], by simp [go_sem], by simp [go_sem], by simp [go_sem]⟩
  have HWE : Hid (Wc = W.alloc (.cells #[.string nm, .string su, .slice ai K capi, .int .i64 fl, .int .i64 ld, .slice am M capm] 25)) := hWc
  clear hWc
  go_enter Tryz.func5, Tryz.ntmps5
  go_wp2_with (first
    | (go_at_call 7; rw [← HWE.out]; refine (HA.out _ HWc.out).mono ?_; rintro e w1 ⟨rfl, hb1⟩; have B1 : Hid (Below Wc.heap.size Wc w1) := hb1; obtain ⟨g9, g0, g1, g2, g3, g4, g5⟩ := HCc.out.keep hb1; clear hb1 HWE HA)
    | (go_at_call 14; refine (HP.out _ (Below.step HWc.out B1.out)).mono ?_; rintro e w2 ⟨rfl, hb2⟩; have B2 : Hid (Below Wc.heap.size Wc w2) := Below.step B1.out hb2; clear hb2 g0 g1 g2 g3 g4 g5 g9 HP; obtain ⟨g9, g0, g1, g2, g3, g4, g5⟩ := HCc.out.keep B2.out)
    | (go_at_call 8; refine (HK.out _ (Below.step HWc.out B2.out)).mono ?_; rintro e w3 ⟨rfl, hb3⟩; have B3 : Hid (Below Wc.heap.size Wc w3) := Below.step B2.out hb3; clear hb3 g0 g1 g2 g3 g4 g5 g9 HK; obtain ⟨g9, g0, g1, g2, g3, g4, g5⟩ := HCc.out.keep B3.out)
    | (go_at_call 16; refine (HY.out _ (Below.step HWc.out B3.out)).mono ?_; rintro e w6 ⟨vi6, vm6, rfl, hvi6, hvm6, hb6⟩; have B6 : Hid (Below Wc.heap.size Wc w6) := Below.step B3.out hb6; have HVI : Hid (IsStrs w6 vi6 difs) := hvi6; have HVM : Hid (IsMths w6 vm6 dms) := hvm6; obtain ⟨ci, cipi, rfl, _, _, _⟩ := hvi6; obtain ⟨cm, cipm, rfl, _, _, _⟩ := hvm6; have hs6 := B6.out.size; clear hb6 HY))
  go_loop [15, 16] (fun lv iv => ∃ i : Nat, iv = .int .i64 i ∧ i ≤ s.size ∧ lv = .int .i64 (((s.data.toList.take i).count 10 + 1 : Nat) : Int)) (fun _ iv => s.size - (intOf iv).toNat)
  case atStart => exact ⟨0, rfl, Nat.zero_le _, rfl⟩
  case round =>
    obtain ⟨i, rfl, hi, rfl⟩ := hrel
    have hcl : (s.data.toList.take i).count 10 ≤ s.size := by
      have h1 := List.count_le_length (a := (10 : UInt8)) (l := s.data.toList.take i)
      rw [List.length_take] at h1
      omega
    by_cases hlt : i < s.size
    · have hcs := count_step s i hlt
      have HCS : Hid _ := hcs
      clear hcs
      obtain ⟨q, hq⟩ : ∃ q, (s.data.toList.take i).count 10 = q := ⟨_, rfl⟩
      rw [hq] at hcl HCS ⊢
      clear hq
      cases he : (((s[i]).toNat : Int) == 10) with
      | true =>
        have HN : Hid ((s.data.toList.take (i + 1)).count 10 = q + 1) := by have := HCS.out; rw [he] at this; exact this
        clear HCS
        go_wp2
        go_round
        case rel => exact ⟨i + 1, by go_num, by omega, by rw [HN.out]; go_num⟩
        case measure => simp [intOf]; omega
      | false =>
        have HN : Hid ((s.data.toList.take (i + 1)).count 10 = q) := by have := HCS.out; rw [he] at this; exact this
        clear HCS
        go_wp2
        go_round
        case rel => exact ⟨i + 1, by go_num, by omega, by rw [HN.out]⟩
        case measure => simp [intOf]; omega
    · have e : i = s.size := by omega
      have hct : (s.data.toList.take i).count 10 = s.data.toList.count 10 := by rw [e, List.take_of_length_le (by rw [bsize]; exact Nat.le_refl _)]
      obtain ⟨q, hq⟩ : ∃ q, (s.data.toList.take i).count 10 = q := ⟨_, rfl⟩
      rw [hq] at hcl hct ⊢
      clear hq hct
      go_wp2_with (go_at_call 18; refine (HZ.out _ _ _ (HVI.out.keep ((Below.refl _ _).alloc (Nat.le_refl _) _)) (HVM.out.keep ((Below.refl _ _).alloc (Nat.le_refl _) _))).mono ?_; rintro e w7 ⟨rfl, hb7⟩; have B7 : Hid (Below Wc.heap.size Wc w7) := Below.step (B6.out.alloc B6.out.size _) hb7; clear hb7 HZ)
      go_ret
      exact ⟨rfl, Below.step HWc.out B7.out⟩

theorem par_w (s : List UInt8) : ClsW (parC s).1 := by
  unfold parC
  split
  · exact (Fit.zero 0).w
  · rename_i h
    split
    · exact (Fit.zero 0).w
    · rename_i c k hr
      split
      · exact run_fit (Fit.zero 0) (fun l hl => Nat.le_trans (cut_mem_len 10 _ l hl) (by omega)) hr
      · exact (Fit.zero 0).w

theorem nil_strs (w : World) : IsStrs w nilS [] := ⟨none, 0, rfl, Nat.le_refl _, by unfold maxLen; omega, fun h => absurd rfl h⟩
theorem nil_mths (w : World) : IsMths w nilS [] := ⟨none, 0, rfl, Nat.le_refl _, by unfold maxLen; omega, fun h => absurd rfl h⟩

theorem ShapesBack_any (c : Cls) (vi vm : Value) (W : World) (hi : IsStrs W vi c.ifs) (hm : IsMths W vm c.ms) (hw : ClsW c) (s : ByteArray) (hsz : s.size ≤ 140737488351232) (hG : GP W) (hH : Hnd W) :
    Calls Tryz.prog 5 #[clsV c vi vm, .string s] W fun e w' => e = .returned (.bool true) ∧ Below W.heap.size W w' := by
  have HA := fun (w' : World) (h : Below W.heap.size W w') => awake_any w' (hG.keep h).1
  have HPA : ∀ (b : ByteArray) (D : Cls) (n : Nat) (x : Int), parC b.data.toList = (D, n, x) → ∀ w', Below W.heap.size W w' → Calls Tryz.prog 16 #[.string b] w' fun e w'' => ∃ ui um, e = .returned (.tuple #[clsV D ui um, .int .i64 (n : Int), .int .i64 x]) ∧ IsStrs w'' ui D.ifs ∧ IsMths w'' um D.ms ∧ Below w'.heap.size w' w'' := fun b D n x hP w' h => by
    have := oParse5_any b w' (hG.keep h) (hH.keep h)
    rw [hP] at this
    exact this.mono fun e w'' ⟨ui, um, pm, B, he, hr, _, hb⟩ => ⟨ui, um, he, own_strs hr.ifs, hr.mths, hb⟩
  have hwD := par_w s.data.toList
  cases hP : parC s.data.toList with
  | mk D p =>
    obtain ⟨n, x⟩ := p
    rw [hP] at hwD
    have HY := HPA s D n x hP
    have HZ0 : D = zeroC → ∀ (ui um : Value) (w' : World), IsStrs w' ui D.ifs → IsMths w' um D.ms → Calls Tryz.prog 18 #[clsV D ui um, .agg #[.string ⟨#[]⟩, .string ⟨#[]⟩, .slice none 0 0, .int .i64 0, .int .i64 0, .slice none 0 0]] w' fun e w'' => e = .returned (.bool true) ∧ Below w'.heap.size w' w'' := fun hz ui um w' h1 h2 => by
      subst hz
      exact rSame_eq zeroC ui um nilS nilS w' h1 h2 (nil_strs w') (nil_mths w')
    have post : (x = 0 ∧ n = 0 ∧ clsB D = true ∧ clsT D = s.data.toList) ∨ (D = zeroC ∧ ((x = 4 ∧ 1 ≤ n ∧ n ≤ s.data.toList.count 10 + 1) ∨ (n = 0 ∧ (x = 1 ∨ x = 5)))) := by
      by_cases hx : x = 0
      · subst hx
        obtain ⟨h1, h2, h3⟩ := par_taken hP
        exact .inl ⟨rfl, h3, h1, h2⟩
      · exact .inr (par_err hP hx)
    have HPD : clsB D = true → clsT D = s.data.toList → ∀ (ui um : Value) (w' : World), Below W.heap.size W w' → IsStrs w' ui D.ifs → IsMths w' um D.ms → Calls Tryz.prog 14 #[clsV D ui um] w' fun e w'' => e = .returned (.tuple #[.string s, .int .i64 0]) ∧ Below w'.heap.size w' w'' := fun hb ht ui um w' h h1 h2 => by
      have := print_good D ui um w' h1 h2 hwD hb (hG.keep h).1
      rw [ht] at this
      exact this
    have HKD : clsB D = true → ∀ (ui um : Value) (w' : World), Below W.heap.size W w' → IsStrs w' ui D.ifs → IsMths w' um D.ms → Calls Tryz.prog 8 #[clsV D ui um] w' fun e w'' => e = .returned (.int .i64 0) ∧ Below w'.heap.size w' w'' := fun hb ui um w' _ h1 h2 => by
      have := checkW_any D ui um w' h1 h2 hwD
      rw [clsE, hb] at this
      exact this
    cases hb : clsB c with
    | false =>
      have HP := fun (w' : World) (h : Below W.heap.size W w') => print_bad c vi vm w' (hi.keep h) (hm.keep h) hw hb
      have HK : ∀ w', Below W.heap.size W w' → Calls Tryz.prog 8 #[clsV c vi vm] w' fun e w'' => e = .returned (.int .i64 1) ∧ Below w'.heap.size w' w'' := fun w' h => by
        have := checkW_any c vi vm w' (hi.keep h) (hm.keep h) hw
        rw [clsE, hb] at this
        exact this
      rcases post with ⟨rfl, rfl, h1, h2⟩ | ⟨hz, ⟨rfl, h1, h2⟩ | ⟨rfl, rfl | rfl⟩⟩
      · exact back_bad_ok c D vi vm W hi hm s _ HA HP HK HY (HPD h1 h2) (HKD h1)
      · exact back_bad_text c D vi vm W hi hm s _ n h1 h2 hsz HA HP HK HY (HZ0 hz)
      · exact back_bad_form c D vi vm W hi hm s _ hsz HA HP HK HY (HZ0 hz)
      · exact back_bad_large c D vi vm W hi hm s _ hsz HA HP HK HY (HZ0 hz)
    | true =>
      have HP := fun (w' : World) (h : Below W.heap.size W w') => print_good c vi vm w' (hi.keep h) (hm.keep h) hw hb (hG.keep h).1
      have HK : ∀ w', Below W.heap.size W w' → Calls Tryz.prog 8 #[clsV c vi vm] w' fun e w'' => e = .returned (.int .i64 0) ∧ Below w'.heap.size w' w'' := fun w' h => by
        have := checkW_any c vi vm w' (hi.keep h) (hm.keep h) hw
        rw [clsE, hb] at this
        exact this
      by_cases hl : (⟨(clsT c).toArray⟩ : ByteArray).size ≤ 40000
      · have hl2 : (clsT c).length ≤ 40000 := by rw [mk_size] at hl; exact hl
        have HX := HPA ⟨(clsT c).toArray⟩ c 0 0 (par_back hb hl2)
        have HS : ∀ (ui um : Value) (w' : World), Below W.heap.size W w' → IsStrs w' ui c.ifs → IsMths w' um c.ms → Calls Tryz.prog 18 #[clsV c vi vm, clsV c ui um] w' fun e w'' => e = .returned (.bool true) ∧ Below w'.heap.size w' w'' := fun ui um w' h h1 h2 => rSame_eq c vi vm ui um w' (hi.keep h) (hm.keep h) h1 h2
        rcases post with ⟨rfl, rfl, h1, h2⟩ | ⟨hz, ⟨rfl, h1, h2⟩ | ⟨rfl, rfl | rfl⟩⟩
        · exact back_good_ok c D vi vm W hi hm s _ hl HA HP HK HX HS HY (HPD h1 h2) (HKD h1)
        · exact back_good_text c D vi vm W hi hm s _ hl n h1 h2 hsz HA HP HK HX HS HY (HZ0 hz)
        · exact back_good_form c D vi vm W hi hm s _ hl hsz HA HP HK HX HS HY (HZ0 hz)
        · exact back_good_large c D vi vm W hi hm s _ hl hsz HA HP HK HX HS HY (HZ0 hz)
      · rcases post with ⟨rfl, rfl, h1, h2⟩ | ⟨hz, ⟨rfl, h1, h2⟩ | ⟨rfl, rfl | rfl⟩⟩
        · exact back_long_ok c D vi vm W hi hm s _ hl HA HP HK HY (HPD h1 h2) (HKD h1)
        · exact back_long_text c D vi vm W hi hm s _ hl n h1 h2 hsz HA HP HK HY (HZ0 hz)
        · exact back_long_form c D vi vm W hi hm s _ hl hsz HA HP HK HY (HZ0 hz)
        · exact back_long_large c D vi vm W hi hm s _ hl hsz HA HP HK HY (HZ0 hz)
end Go.Proofs.YtfbhjfpkhofifaaGreatDoor
