/- The law of what takes a class or a method (ShapesPlays): the walk. -/
import Derived.Test.YtfbhjfpkhofifaaGreatDoorLawW
import Derived.Test.YtfbhjfpkhofifaaGreatDoorShpR
namespace Go.Proofs.YtfbhjfpkhofifaaGreatDoor
open Go.RowKit

set_option maxRecDepth 100000 in
set_option maxHeartbeats 2000000 in
theorem plays_walk (c : Cls) (vi vm : Value) (W : World) (hi : IsStrs W vi c.ifs) (hm : IsMths W vm c.ms) (hw : ClsW c) (nn dd : ByteArray) (hG : GAll W) (PT : ByteArray) (PE : Int)
    (HP1 : ∀ w', Below W.heap.size W w' → Calls Tryz.prog 14 #[clsV c vi vm] w' fun e w'' => e = .returned (.tuple #[.string PT, .int .i64 PE]) ∧ Below w'.heap.size w' w'')
    (HP2 : ∀ w', Below W.heap.size W w' → Calls Tryz.prog 15 #[clsV c vi vm] w' fun e w'' => e = .returned (.tuple #[.string PT, .int .i64 PE]) ∧ Below w'.heap.size w' w'') :
    Calls Tryz.prog 3 #[clsV c vi vm, .string nn, .string dd] W fun e w' => e = .returned (.bool true) ∧ Below W.heap.size W w' := by
  have HA : Hid (∀ w', Below W.heap.size W w' → Calls Tryz.prog 7 #[] w' fun e w'' => e = .returned (.bool true) ∧ Below w'.heap.size w' w'') := fun w' h => awake_any w' (hG.keep h)
  have HP1 : Hid _ := HP1
  have HP2 : Hid _ := HP2
  obtain ⟨CE, hCE⟩ : ∃ x, clsE c = x := ⟨_, rfl⟩
  obtain ⟨FE, hFE⟩ : ∃ x, findM nn dd c.ms 0 = x := ⟨_, rfl⟩
  have HC1 : Hid (∀ w', Below W.heap.size W w' → Calls Tryz.prog 8 #[clsV c vi vm] w' fun e w'' => e = .returned (.int .i64 CE) ∧ Below w'.heap.size w' w'') := fun w' h => by rw [← hCE]; exact checkW_any c vi vm w' (hi.keep h) (hm.keep h) hw
  have HC2 : Hid (∀ w', Below W.heap.size W w' → Calls Tryz.prog 9 #[clsV c vi vm] w' fun e w'' => e = .returned (.int .i64 CE) ∧ Below w'.heap.size w' w'') := fun w' h => by rw [← hCE]; exact rcheckW_any c vi vm w' (hi.keep h) (hm.keep h) hw
  have HF1 : Hid (∀ w', Below W.heap.size W w' → Calls Tryz.prog 10 #[clsV c vi vm, .string nn, .string dd] w' fun e w'' => e = .returned (.int .i64 FE) ∧ Below w'.heap.size w' w'') := fun w' h => by rw [← hFE]; exact find_any c.nm c.su vi c.fl c.ld vm c.ms nn dd w' (hm.keep h)
  have HF2 : Hid (∀ w', Below W.heap.size W w' → Calls Tryz.prog 11 #[clsV c vi vm, .string nn, .string dd] w' fun e w'' => e = .returned (.int .i64 FE) ∧ Below w'.heap.size w' w'') := fun w' h => by rw [← hFE]; exact rFind_any c.nm c.su vi c.fl c.ld vm c.ms nn dd w' (hm.keep h)
  have HMW : Hid _ := hw.2.2.2.2.2
  obtain ⟨ai, capi, rfl, _, _, _⟩ := hi
  obtain ⟨am, capm, rfl, m1, m2, m3⟩ := hm
  have HMA : Hid _ := m3
  unfold maxLen at m2
  clear hw hG m3 hCE hFE
  obtain ⟨nm, su, ifs, fl, ld, ms⟩ := c
  simp only [clsV] at *
  obtain ⟨M, hM⟩ : ∃ M, ms.length = M := ⟨_, rfl⟩
  rw [hM] at m1 HC1 HC2 HF1 HF2 HP1 HP2 ⊢
  have HL : Hid (ms.length = M) := hM
  clear hM
  generalize ifs.length = K at *
  have k1 : (CE != CE) = false := by simp
  have k2 : (FE != FE) = false := by simp
  obtain ⟨Wc, hWc⟩ : ∃ x, x = W.alloc (.cells #[.string nm, .string su, .slice ai K capi, .int .i64 fl, .int .i64 ld, .slice am M capm] 25) := ⟨_, rfl⟩
  have HWc : Hid (Below W.heap.size W Wc) := by rw [hWc]; exact (Below.refl _ _).alloc (Nat.le_refl _) _
  have HCc : Hid (CB Wc W.heap.size nm su (.slice ai K capi) fl ld (.slice am M capm)) := by rw [hWc]; exact ⟨by simp, by simp [go_sem], by simp [go_sem], by simp [go_sem], by simp [go_sem], by simp [go_sem], by simp [go_sem]⟩
  have HWE : Hid (Wc = W.alloc (.cells #[.string nm, .string su, .slice ai K capi, .int .i64 fl, .int .i64 ld, .slice am M capm] 25)) := hWc
  clear hWc
  go_enter Tryz.func3, Tryz.ntmps3
  go_wp2_with ((go_at_call 7; rw [← HWE.out]; refine (HA.out _ HWc.out).mono ?_; rintro e w1 ⟨rfl, hb1⟩; have B1 : Hid (Below Wc.heap.size Wc w1) := hb1; obtain ⟨g9, g0, g1, g2, g3, g4, g5⟩ := HCc.out.keep hb1; clear hb1 HWE HA))
  go_region_held3 (fun w' => w'.cell? ⟨W.heap.size, 0, none⟩ = some (.string nm) ∧ w'.cell? ⟨W.heap.size, 1, none⟩ = some (.string su) ∧ w'.cell? ⟨W.heap.size, 2, none⟩ = some (.slice ai K capi) ∧ w'.cell? ⟨W.heap.size, 3, none⟩ = some (.int .i64 fl) ∧ w'.cell? ⟨W.heap.size, 4, none⟩ = some (.int .i64 ld) ∧ w'.cell? ⟨W.heap.size, 5, none⟩ = some (.slice am M capm)) (go_keep)
    (first
      | (go_at_call 8; refine (HC1.out _ (Below.step HWc.out B1.out.drew)).mono ?_; rintro e w2 ⟨rfl, hb2⟩; have B2 : Hid (Below Wc.heap.size Wc w2) := Below.step B1.out.drew hb2; clear hb2 g0 g1 g2 g3 g4 g5 g9 HC1; obtain ⟨g9, g0, g1, g2, g3, g4, g5⟩ := HCc.out.keep B2.out)
      | (go_at_call 9; refine (HC2.out _ (Below.step HWc.out B2.out)).mono ?_; rintro e w3 ⟨rfl, hb3⟩; have B3 : Hid (Below Wc.heap.size Wc w3) := Below.step B2.out hb3; clear hb3 g0 g1 g2 g3 g4 g5 g9 HC2; obtain ⟨g9, g0, g1, g2, g3, g4, g5⟩ := HCc.out.keep B3.out)
      | (go_at_call 10; refine (HF1.out _ (Below.step HWc.out B3.out)).mono ?_; rintro e w4 ⟨rfl, hb4⟩; have B4 : Hid (Below Wc.heap.size Wc w4) := Below.step B3.out hb4; clear hb4 g0 g1 g2 g3 g4 g5 g9 HF1; obtain ⟨g9, g0, g1, g2, g3, g4, g5⟩ := HCc.out.keep B4.out)
      | (go_at_call 11; refine (HF2.out _ (Below.step HWc.out B4.out)).mono ?_; rintro e w5 ⟨rfl, hb5⟩; have B5 : Hid (Below Wc.heap.size Wc w5) := Below.step B4.out hb5; clear hb5 g0 g1 g2 g3 g4 g5 g9 HF2; obtain ⟨g9, g0, g1, g2, g3, g4, g5⟩ := HCc.out.keep B5.out))
  go_wp2
  clear g0 g1 g2 g3 g4 g5 g9
  go_loopw [7] (fun iv wr => ∃ k : Nat, iv = .int .i64 k ∧ k ≤ M ∧ Hid (Below Wc.heap.size Wc wr)) (fun iv _ => M - (intOf iv).toNat)
  case atStart => exact ⟨0, rfl, Nat.zero_le _, B5⟩
  case round =>
    obtain ⟨k, rfl, hk, hb⟩ := hrel
    clear B1 B2 B3 B4 B5
    obtain ⟨g9, g0, g1, g2, g3, g4, g5⟩ := HCc.out.keep hb.out
    by_cases hlt : k < M
    · obtain ⟨bk, o, hao, hbk, hc⟩ := HMA.out (by intro e; have := HL.out; rw [e] at this; simp at this; omega)
      obtain ⟨x, hx⟩ : ∃ x, ms[k]? = some x := ⟨_, List.getElem?_eq_getElem (by rw [HL.out]; exact hlt)⟩
      subst hao
      obtain ⟨t1, t2, t3, t4, t5, t6⟩ := HMW.out x (List.mem_of_getElem? hx)
      have hcx := hc k x hx
      obtain ⟨xn, xd, xf, xl, xs, xc⟩ := x
      obtain ⟨p0, p1, p2, p3, p4, vc, p5, hI⟩ := hcx
      simp only at t2 p0 p1 p2 p3 p4 p5 hI
      obtain ⟨va, vcap, rfl, v1, v2, _⟩ := hI
      have keepc : ∀ (w' : World) (j : Nat) (v : Value), Below Wc.heap.size Wc w' → W.cell? ⟨bk, j, none⟩ = some v → w'.cell? ⟨bk, j, none⟩ = some v := fun w' j v hb h => (hb.cell (p := ⟨bk, j, none⟩) (Nat.lt_of_lt_of_le hbk HWc.out.size)).trans ((HWc.out.cell (p := ⟨bk, j, none⟩) hbk).trans h)
      have HKC : Hid (∀ w' : World, Below Wc.heap.size Wc w' → w'.cell? ⟨bk, o + k * 6, none⟩ = some (.string xn) ∧ w'.cell? ⟨bk, o + k * 6 + 1, none⟩ = some (.string xd) ∧ w'.cell? ⟨bk, o + k * 6 + 2, none⟩ = some (.int .i64 xf) ∧ w'.cell? ⟨bk, o + k * 6 + 3, none⟩ = some (.int .i64 xl) ∧ w'.cell? ⟨bk, o + k * 6 + 4, none⟩ = some (.int .i64 xs) ∧ w'.cell? ⟨bk, o + k * 6 + 5, none⟩ = some (.slice va xc.length vcap)) := fun w' h => ⟨keepc w' _ _ h p0, keepc w' _ _ h p1, keepc w' _ _ h p2, keepc w' _ _ h p3, keepc w' _ _ h p4, keepc w' _ _ h p5⟩
      obtain ⟨WN, hWN⟩ : ∃ y, wdsN xd.data.toList xf = y := ⟨_, rfl⟩
      obtain ⟨WE, hWE⟩ : ∃ y, wdsE xd.data.toList = y := ⟨_, rfl⟩
      have HW1 : Hid (∀ w' : World, Calls Tryz.prog 12 #[.agg #[.string xn, .string xd, .int .i64 xf, .int .i64 xl, .int .i64 xs, .slice va xc.length vcap]] w' fun e w'' => e = .returned (.tuple #[.int .i64 WN, .int .i64 WE]) ∧ Below w'.heap.size w' w'') := fun w' => by rw [← hWN, ← hWE]; exact words_any xn xd xf xl xs _ t2 w'
      have HW2 : Hid (∀ w' : World, Calls Tryz.prog 13 #[.agg #[.string xn, .string xd, .int .i64 xf, .int .i64 xl, .int .i64 xs, .slice va xc.length vcap]] w' fun e w'' => e = .returned (.tuple #[.int .i64 WN, .int .i64 WE]) ∧ Below w'.heap.size w' w'') := fun w' => by rw [← hWN, ← hWE]; exact rWordsM_any xn xd xf xl xs _ t2 w'
      have k3 : (WN != WN) = false := by simp
      have k4 : (WE != WE) = false := by simp
      generalize xc.length = XL at *
      obtain ⟨a0, a1, a2, a3, a4, a5⟩ := HKC.out wr hb.out
      clear t1 t2 t3 t4 t5 t6 keepc hc hx HMA HMW p0 p1 p2 p3 p4 p5 hWN hWE
      go_wp2_with (first
        | (go_at_call 12; refine (HW1.out _).mono ?_; rintro e w3 ⟨rfl, hb3⟩; have B3 : Hid (Below Wc.heap.size Wc w3) := Below.step hb.out hb3; clear hb3 g0 g1 g2 g3 g4 g5 g9 a0 a1 a2 a3 a4 a5; obtain ⟨g9, g0, g1, g2, g3, g4, g5⟩ := HCc.out.keep B3.out; obtain ⟨a0, a1, a2, a3, a4, a5⟩ := HKC.out w3 B3.out)
        | (go_at_call 13; refine (HW2.out _).mono ?_; rintro e w4 ⟨rfl, hb4⟩; have B4 : Hid (Below Wc.heap.size Wc w4) := Below.step B3.out hb4; clear hb4 g0 g1 g2 g3 g4 g5 g9 a0 a1 a2 a3 a4 a5))
      go_roundw
      case rel => exact ⟨k + 1, by go_num, by omega, B4⟩
      case measure => simp [intOf]; omega
    · have e : k = M := by omega
      subst e
      clear HMA HMW
      have k5 : (PT.toList == PT.toList) = true := by simp
      have k6 : (PE == PE) = true := by simp
      go_wp2_with (first
        | (go_at_call 14; refine (HP1.out _ (Below.step HWc.out hb.out)).mono ?_; rintro e w2 ⟨rfl, hb2⟩; have B2 : Hid (Below Wc.heap.size Wc w2) := Below.step hb.out hb2; clear hb2 g0 g1 g2 g3 g4 g5 g9; obtain ⟨g9, g0, g1, g2, g3, g4, g5⟩ := HCc.out.keep B2.out)
        | (go_at_call 15; refine (HP2.out _ (Below.step HWc.out B2.out)).mono ?_; rintro e w3 ⟨rfl, hb3⟩; have B3 : Hid (Below Wc.heap.size Wc w3) := Below.step B2.out hb3; clear hb3 g0 g1 g2 g3 g4 g5 g9))
      go_ret
      exact ⟨rfl, Below.step HWc.out B3.out⟩

theorem ShapesPlays_any (c : Cls) (vi vm : Value) (W : World) (hi : IsStrs W vi c.ifs) (hm : IsMths W vm c.ms) (hw : ClsW c) (nn dd : ByteArray) (hG : GAll W) :
    Calls Tryz.prog 3 #[clsV c vi vm, .string nn, .string dd] W fun e w' => e = .returned (.bool true) ∧ Below W.heap.size W w' := by
  cases hb : clsB c with
  | false => exact plays_walk c vi vm W hi hm hw nn dd hG _ _ (fun w' h => print_bad c vi vm w' (hi.keep h) (hm.keep h) hw hb) (fun w' h => rprint_bad c vi vm w' (hi.keep h) (hm.keep h) hw hb)
  | true =>
    have ht := cls_text (cls_sound hb)
    refine plays_walk c vi vm W hi hm hw nn dd hG ⟨(tCls c).toArray⟩ 0 (fun w' h => ?_) (fun w' h => ?_)
    · have := print_good c vi vm w' (hi.keep h) (hm.keep h) hw hb (hG.keep h)
      rw [ht] at this
      exact this
    · cases hq : (textF c.fl clsP == []) with
      | true => exact rprint_e c vi vm w' (hi.keep h) (hm.keep h) hw hb hq
      | false => exact rprint_n c vi vm w' (hi.keep h) (hm.keep h) hw hb hq

end Go.Proofs.YtfbhjfpkhofifaaGreatDoor
