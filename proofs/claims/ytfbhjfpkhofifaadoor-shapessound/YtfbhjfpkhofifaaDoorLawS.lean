/- The law of sound classes (ShapesSound): the walk. -/
import Derived.Test.YtfbhjfpkhofifaaDoorLawW
namespace Go.Proofs.YtfbhjfpkhofifaaDoor
open Go.RowKit

set_option maxRecDepth 100000 in
set_option maxHeartbeats 1000000 in
theorem sound_bad (c : Cls) (vi vm : Value) (W : World) (hi : IsStrs W vi c.ifs) (hm : IsMths W vm c.ms) (hw : ClsW c) (hb : clsB c = false) (hG : GAll W) :
    Calls Tryd.prog 3 #[clsV c vi vm] W fun e w' => e = .returned (.bool true) ∧ Below W.heap.size W w' := by
  have HA : Hid (∀ w', Below W.heap.size W w' → Calls Tryd.prog 4 #[] w' fun e w'' => e = .returned (.bool true) ∧ Below w'.heap.size w' w'') := fun w' h => awake_any w' (hG.keep h)
  have HC : Hid (∀ w', Below W.heap.size W w' → Calls Tryd.prog 5 #[clsV c vi vm] w' fun e w'' => e = .returned (.int .i64 1) ∧ Below w'.heap.size w' w'') := fun w' h => by
    have := checkW_any c vi vm w' (hi.keep h) (hm.keep h) hw
    rw [clsE, hb] at this
    exact this
  obtain ⟨ai, capi, rfl, _, _, _⟩ := hi
  obtain ⟨am, capm, rfl, _, _, _⟩ := hm
  clear hb hw hG
  obtain ⟨nm, su, ifs, fl, ld, ms⟩ := c
  simp only [clsV] at *
  generalize ifs.length = K at *
  generalize ms.length = M at *
  obtain ⟨Wc, hWc⟩ : ∃ x, x = W.alloc (.cells #[.string nm, .string su, .slice ai K capi, .int .i64 fl, .int .i64 ld, .slice am M capm] 25) := ⟨_, rfl⟩
  have HWc : Hid (Below W.heap.size W Wc) := by rw [hWc]; exact (Below.refl _ _).alloc (Nat.le_refl _) _
  have HCc : Hid (CB Wc W.heap.size nm su (.slice ai K capi) fl ld (.slice am M capm)) := by rw [hWc]; exact ⟨by simp, by simp [go_sem], by simp [go_sem], by simp [go_sem], by simp [go_sem], by simp [go_sem], by simp [go_sem]⟩
  have HWE : Hid (Wc = W.alloc (.cells #[.string nm, .string su, .slice ai K capi, .int .i64 fl, .int .i64 ld, .slice am M capm] 25)) := hWc
  clear hWc
  go_enter Tryd.func3, Tryd.ntmps3
  go_wp2_with (first
    | (go_at_call 4; rw [← HWE.out]; refine (HA.out _ HWc.out).mono ?_; rintro e w1 ⟨rfl, hb1⟩; have B1 : Hid (Below Wc.heap.size Wc w1) := hb1; obtain ⟨g9, g0, g1, g2, g3, g4, g5⟩ := HCc.out.keep hb1; clear hb1 HWE)
    | (go_at_call 5; refine (HC.out _ (Below.step HWc.out B1.out)).mono ?_; rintro e w2 ⟨rfl, hb2⟩; have B2 : Hid (Below Wc.heap.size Wc w2) := Below.step B1.out hb2; clear hb2))
  go_ret
  exact ⟨rfl, Below.step HWc.out B2.out⟩

set_option maxRecDepth 100000 in
set_option maxHeartbeats 2000000 in
theorem sound_good (c : Cls) (vi vm : Value) (W : World) (hi : IsStrs W vi c.ifs) (hm : IsMths W vm c.ms) (hw : ClsW c) (hb : clsB c = true) (hG : GAll W) :
    Calls Tryd.prog 3 #[clsV c vi vm] W fun e w' => e = .returned (.bool true) ∧ Below W.heap.size W w' := by
  have HA : Hid (∀ w', Below W.heap.size W w' → Calls Tryd.prog 4 #[] w' fun e w'' => e = .returned (.bool true) ∧ Below w'.heap.size w' w'') := fun w' h => awake_any w' (hG.keep h)
  have HC : Hid (∀ w', Below W.heap.size W w' → Calls Tryd.prog 5 #[clsV c vi vm] w' fun e w'' => e = .returned (.int .i64 0) ∧ Below w'.heap.size w' w'') := fun w' h => by
    have := checkW_any c vi vm w' (hi.keep h) (hm.keep h) hw
    rw [clsE, hb] at this
    exact this
  have hS := cls_sound hb
  have HV1 : Hid (∀ w' : World, Calls Tryd.prog 6 #[.string c.nm] w' fun e w'' => e = .returned (.bool true) ∧ Below w'.heap.size w' w'') := fun w' => by
    have := valid_any c.nm hw.1 w'
    rw [hS.nm] at this
    exact this
  have HV2 : Hid (∀ w' : World, Calls Tryd.prog 6 #[.string c.su] w' fun e w'' => e = .returned (.bool true) ∧ Below w'.heap.size w' w'') := fun w' => by
    have := valid_any c.su hw.2.1 w'
    rw [hS.su] at this
    exact this
  have HCC : Hid (∀ w' : World, Calls Tryd.prog 7 #[.int .i64 c.fl] w' fun e w'' => e = .returned (.int .i64 0) ∧ w'' = w') := fun w' => by
    have := Fl.CheckClass_any c.fl hw.2.2.2.1 w'
    rw [cls_chk hb] at this
    exact this
  have HFN : Hid (∀ w', Below W.heap.size W w' → Calls Tryd.prog 11 #[clsV c vi vm, .string ⟨#[110, 111, 32, 115, 117, 99, 104, 47, 110, 97, 109, 101]⟩, .string ⟨#[]⟩] w' fun e w'' => e = .returned (.int .i64 (-1)) ∧ Below w'.heap.size w' w'') := fun w' h => by
    have := find_any c.nm c.su vi c.fl c.ld vm c.ms noSuch ⟨#[]⟩ w' (hm.keep h)
    rw [no_such hb] at this
    exact this
  have HLW : Hid _ := cls_law hb
  have HMW : Hid _ := hw.2.2.2.2.2
  have HM : Hid (IsMths W vm c.ms) := hm
  obtain ⟨ai, capi, rfl, _, _, _⟩ := hi
  obtain ⟨am, capm, rfl, m1, m2, m3⟩ := hm
  have HMA : Hid _ := m3
  unfold maxLen at m2
  clear hb hw hG hS m3
  obtain ⟨nm, su, ifs, fl, ld, ms⟩ := c
  simp only [clsV] at *
  obtain ⟨M, hM⟩ : ∃ M, ms.length = M := ⟨_, rfl⟩
  rw [hM] at m1 HC HFN HM ⊢
  have HL : Hid (ms.length = M) := hM
  clear hM
  generalize ifs.length = K at *
  have hh5 : (bits .and .i64 fl 512 != 0) = hasI fl 512 := rfl
  generalize hasI fl 512 = hh at *
  obtain ⟨Wc, hWc⟩ : ∃ x, x = W.alloc (.cells #[.string nm, .string su, .slice ai K capi, .int .i64 fl, .int .i64 ld, .slice am M capm] 25) := ⟨_, rfl⟩
  have HWc : Hid (Below W.heap.size W Wc) := by rw [hWc]; exact (Below.refl _ _).alloc (Nat.le_refl _) _
  have HCc : Hid (CB Wc W.heap.size nm su (.slice ai K capi) fl ld (.slice am M capm)) := by rw [hWc]; exact ⟨by simp, by simp [go_sem], by simp [go_sem], by simp [go_sem], by simp [go_sem], by simp [go_sem], by simp [go_sem]⟩
  have HWE : Hid (Wc = W.alloc (.cells #[.string nm, .string su, .slice ai K capi, .int .i64 fl, .int .i64 ld, .slice am M capm] 25)) := hWc
  clear hWc
  go_enter Tryd.func3, Tryd.ntmps3
  go_wp2_with (first
    | (go_at_call 4; rw [← HWE.out]; refine (HA.out _ HWc.out).mono ?_; rintro e w1 ⟨rfl, hb1⟩; have B1 : Hid (Below Wc.heap.size Wc w1) := hb1; obtain ⟨g9, g0, g1, g2, g3, g4, g5⟩ := HCc.out.keep hb1; clear hb1 HWE HA)
    | (go_at_call 5; refine (HC.out _ (Below.step HWc.out B1.out)).mono ?_; rintro e w2 ⟨rfl, hb2⟩; have B2 : Hid (Below Wc.heap.size Wc w2) := Below.step B1.out hb2; clear hb2 g0 g1 g2 g3 g4 g5 g9 HC; obtain ⟨g9, g0, g1, g2, g3, g4, g5⟩ := HCc.out.keep B2.out)
    | (go_at_call 6; refine (HV1.out _).mono ?_; rintro e w3 ⟨rfl, hb3⟩; have B3 : Hid (Below Wc.heap.size Wc w3) := Below.step B2.out hb3; clear hb3 g0 g1 g2 g3 g4 g5 g9 HV1; obtain ⟨g9, g0, g1, g2, g3, g4, g5⟩ := HCc.out.keep B3.out)
    | (go_at_call 6; refine (HV2.out _).mono ?_; rintro e w4 ⟨rfl, hb4⟩; have B4 : Hid (Below Wc.heap.size Wc w4) := Below.step B3.out hb4; clear hb4 g0 g1 g2 g3 g4 g5 g9 HV2; obtain ⟨g9, g0, g1, g2, g3, g4, g5⟩ := HCc.out.keep B4.out)
    | (go_at_call 7; refine (HCC.out _).mono ?_; rintro e w5 ⟨rfl, hw5⟩; rw [hw5]; clear hw5 HCC))
  clear g0 g1 g2 g3 g4 g5 g9 B1 B2 B3
  go_loopw [4] (fun iv wr => ∃ k : Nat, iv = .int .i64 k ∧ k ≤ M ∧ Hid (Below Wc.heap.size Wc wr)) (fun iv _ => M - (intOf iv).toNat)
  case atStart => exact ⟨0, rfl, Nat.zero_le _, B4⟩
  case round =>
    obtain ⟨k, rfl, hk, hb⟩ := hrel
    clear B4
    obtain ⟨g9, g0, g1, g2, g3, g4, g5⟩ := HCc.out.keep hb.out
    by_cases hlt : k < M
    · obtain ⟨bk, o, hao, hbk, hc⟩ := HMA.out (by intro e; have := HL.out; rw [e] at this; simp at this; omega)
      obtain ⟨x, hx⟩ : ∃ x, ms[k]? = some x := ⟨_, List.getElem?_eq_getElem (by rw [HL.out]; exact hlt)⟩
      subst hao
      obtain ⟨l1, l2, l3, l4, l5, l6⟩ := HLW.out k x hx
      obtain ⟨t1, t2, t3, t4, t5, t6⟩ := HMW.out x (List.mem_of_getElem? hx)
      have hcx := hc k x hx
      obtain ⟨xn, xd, xf, xl, xs, xc⟩ := x
      obtain ⟨p0, p1, p2, p3, p4, vc, p5, hI⟩ := hcx
      simp only at l1 l2 l3 l4 l5 l6 t1 t2 t3 t4 t5 t6 p0 p1 p2 p3 p4 p5 hI
      have HI2 : Hid (IsInss W vc xc) := hI
      obtain ⟨va, vcap, rfl, v1, v2, _⟩ := hI
      have keepc : ∀ (j : Nat) (v : Value), W.cell? ⟨bk, j, none⟩ = some v → wr.cell? ⟨bk, j, none⟩ = some v := fun j v h => (hb.out.cell (p := ⟨bk, j, none⟩) (Nat.lt_of_lt_of_le hbk HWc.out.size)).trans ((HWc.out.cell (p := ⟨bk, j, none⟩) hbk).trans h)
      replace p0 := keepc _ _ p0
      replace p1 := keepc _ _ p1
      replace p2 := keepc _ _ p2
      replace p3 := keepc _ _ p3
      replace p4 := keepc _ _ p4
      replace p5 := keepc _ _ p5
      have HWD : Hid (∀ w' : World, Calls Tryd.prog 8 #[.agg #[.string xn, .string xd, .int .i64 xf, .int .i64 xl, .int .i64 xs, .slice va xc.length vcap]] w' fun e w'' => e = .returned (.tuple #[.int .i64 (wdsN xd.data.toList xf), .int .i64 0]) ∧ Below w'.heap.size w' w'') := fun w' => by
        have := words_any xn xd xf xl xs (.slice va xc.length vcap) t2 w'
        rw [wdsE, if_pos l2] at this
        exact this
      have HMB : Hid (∀ w' : World, Calls Tryd.prog 9 #[.string xn] w' fun e w'' => e = .returned (.bool true) ∧ w'' = w') := fun w' => by
        have := member_any xn t1 w'
        rw [l1] at this
        exact this
      have HCM : Hid (∀ w' : World, Calls Tryd.prog 10 #[.int .i64 xf, .bool hh, .string xn] w' fun e w'' => e = .returned (.int .i64 0) ∧ w'' = w') := fun w' => by
        have := Fl.CheckMethod_any xf t3 hh xn w'
        rw [l3] at this
        exact this
      have HFD : Hid (∀ w', Below W.heap.size W w' → Calls Tryd.prog 11 #[.agg #[.string nm, .string su, .slice ai K capi, .int .i64 fl, .int .i64 ld, .slice (some ⟨bk, o, none⟩) M capm], .string xn, .string xd] w' fun e w'' => e = .returned (.int .i64 k) ∧ Below w'.heap.size w' w'') := fun w' h => by
        have := find_any nm su (.slice ai K capi) fl ld (.slice (some ⟨bk, o, none⟩) M capm) ms xn xd w' (HM.out.keep h)
        rw [l4] at this
        exact this
      have HCA : Hid (∀ w', Below W.heap.size W w' → Calls Tryd.prog 12 #[.slice va xc.length vcap, .int .i64 xl] w' fun e w'' => e = .returned (.int .i64 (allE xc xl)) ∧ Below w'.heap.size w' w'') := fun w' h => checkAll_any _ xc xl w' (HI2.out.keep h) fun i hi => (t6 i hi).2
      have hha : (bits .and .i64 xf 1024 != 0) = hasI xf 1024 := rfl
      generalize wdsN xd.data.toList xf = wn at *
      generalize allE xc xl = al at *
      have hkk : ((k : Int) != (k : Int)) = false := by simp
      generalize hasI xf 1024 = ab at *
      generalize xc.length = XL at *
      clear l1 l2 l3 l4 t1 t2 t3 t4 t5 t6 keepc hc hx HMA HLW HMW HFN
      cases ab with
      | true =>
        have hx0 := l5 rfl
        subst hx0
        clear l5 l6
        go_wp2_with (first
          | (go_at_call 8; refine (HWD.out _).mono ?_; rintro e w3 ⟨rfl, hb3⟩; have B3 : Hid (Below Wc.heap.size Wc w3) := Below.step (bal hb.out _) hb3; have z9 : wr.heap.size < w3.heap.size := (by have := hb3.size; simp at this; omega); have z0 : w3.cell? ⟨wr.heap.size, 0, none⟩ = some (.string xn) := (hb3.cell (p := ⟨wr.heap.size, 0, none⟩) (by simp)).trans (by simp [go_sem, *]); have z1 : w3.cell? ⟨wr.heap.size, 1, none⟩ = some (.string xd) := (hb3.cell (p := ⟨wr.heap.size, 1, none⟩) (by simp)).trans (by simp [go_sem, *]); have z2 : w3.cell? ⟨wr.heap.size, 2, none⟩ = some (.int .i64 xf) := (hb3.cell (p := ⟨wr.heap.size, 2, none⟩) (by simp)).trans (by simp [go_sem, *]); have z3 : w3.cell? ⟨wr.heap.size, 3, none⟩ = some (.int .i64 xl) := (hb3.cell (p := ⟨wr.heap.size, 3, none⟩) (by simp)).trans (by simp [go_sem, *]); have z4 : w3.cell? ⟨wr.heap.size, 4, none⟩ = some (.int .i64 xs) := (hb3.cell (p := ⟨wr.heap.size, 4, none⟩) (by simp)).trans (by simp [go_sem, *]); have z5 : w3.cell? ⟨wr.heap.size, 5, none⟩ = some (.slice va 0 vcap) := (hb3.cell (p := ⟨wr.heap.size, 5, none⟩) (by simp)).trans (by simp [go_sem, *]); clear hb3 g0 g1 g2 g3 g4 g5 g9; obtain ⟨g9, g0, g1, g2, g3, g4, g5⟩ := HCc.out.keep B3.out)
          | (go_at_call 9; refine (HMB.out _).mono ?_; rintro e w9 ⟨rfl, hw9⟩; rw [hw9]; clear hw9)
          | (go_at_call 10; refine (HCM.out _).mono ?_; rintro e w9 ⟨rfl, hw9⟩; rw [hw9]; clear hw9)
          | (go_at_call 11; refine (HFD.out _ (Below.step HWc.out B3.out)).mono ?_; rintro e w4 ⟨rfl, hb4⟩; have B4 : Hid (Below Wc.heap.size Wc w4) := Below.step B3.out hb4; have x9 : wr.heap.size < w4.heap.size := (by have := hb4.size; omega); have x0 : w4.cell? ⟨wr.heap.size, 0, none⟩ = some (.string xn) := (hb4.cell (p := ⟨wr.heap.size, 0, none⟩) z9).trans (by simp [go_sem, *]); have x1 : w4.cell? ⟨wr.heap.size, 1, none⟩ = some (.string xd) := (hb4.cell (p := ⟨wr.heap.size, 1, none⟩) z9).trans (by simp [go_sem, *]); have x2 : w4.cell? ⟨wr.heap.size, 2, none⟩ = some (.int .i64 xf) := (hb4.cell (p := ⟨wr.heap.size, 2, none⟩) z9).trans (by simp [go_sem, *]); have x3 : w4.cell? ⟨wr.heap.size, 3, none⟩ = some (.int .i64 xl) := (hb4.cell (p := ⟨wr.heap.size, 3, none⟩) z9).trans (by simp [go_sem, *]); have x4 : w4.cell? ⟨wr.heap.size, 4, none⟩ = some (.int .i64 xs) := (hb4.cell (p := ⟨wr.heap.size, 4, none⟩) z9).trans (by simp [go_sem, *]); have x5 : w4.cell? ⟨wr.heap.size, 5, none⟩ = some (.slice va 0 vcap) := (hb4.cell (p := ⟨wr.heap.size, 5, none⟩) z9).trans (by simp [go_sem, *]); clear hb4 z0 z1 z2 z3 z4 z5))
        go_roundw
        case rel => exact ⟨k + 1, by go_num, by omega, B4⟩
        case measure => simp [intOf]; omega
      | false =>
        obtain ⟨hx1, hx2⟩ := l6 rfl
        subst hx1
        clear l5 l6
        go_wp2_with (first
          | (go_at_call 8; refine (HWD.out _).mono ?_; rintro e w3 ⟨rfl, hb3⟩; have B3 : Hid (Below Wc.heap.size Wc w3) := Below.step (bal hb.out _) hb3; have z9 : wr.heap.size < w3.heap.size := (by have := hb3.size; simp at this; omega); have z0 : w3.cell? ⟨wr.heap.size, 0, none⟩ = some (.string xn) := (hb3.cell (p := ⟨wr.heap.size, 0, none⟩) (by simp)).trans (by simp [go_sem, *]); have z1 : w3.cell? ⟨wr.heap.size, 1, none⟩ = some (.string xd) := (hb3.cell (p := ⟨wr.heap.size, 1, none⟩) (by simp)).trans (by simp [go_sem, *]); have z2 : w3.cell? ⟨wr.heap.size, 2, none⟩ = some (.int .i64 xf) := (hb3.cell (p := ⟨wr.heap.size, 2, none⟩) (by simp)).trans (by simp [go_sem, *]); have z3 : w3.cell? ⟨wr.heap.size, 3, none⟩ = some (.int .i64 xl) := (hb3.cell (p := ⟨wr.heap.size, 3, none⟩) (by simp)).trans (by simp [go_sem, *]); have z4 : w3.cell? ⟨wr.heap.size, 4, none⟩ = some (.int .i64 xs) := (hb3.cell (p := ⟨wr.heap.size, 4, none⟩) (by simp)).trans (by simp [go_sem, *]); have z5 : w3.cell? ⟨wr.heap.size, 5, none⟩ = some (.slice va XL vcap) := (hb3.cell (p := ⟨wr.heap.size, 5, none⟩) (by simp)).trans (by simp [go_sem, *]); clear hb3 g0 g1 g2 g3 g4 g5 g9; obtain ⟨g9, g0, g1, g2, g3, g4, g5⟩ := HCc.out.keep B3.out)
          | (go_at_call 9; refine (HMB.out _).mono ?_; rintro e w9 ⟨rfl, hw9⟩; rw [hw9]; clear hw9)
          | (go_at_call 10; refine (HCM.out _).mono ?_; rintro e w9 ⟨rfl, hw9⟩; rw [hw9]; clear hw9)
          | (go_at_call 11; refine (HFD.out _ (Below.step HWc.out B3.out)).mono ?_; rintro e w4 ⟨rfl, hb4⟩; have B4 : Hid (Below Wc.heap.size Wc w4) := Below.step B3.out hb4; have x9 : wr.heap.size < w4.heap.size := (by have := hb4.size; omega); have x0 : w4.cell? ⟨wr.heap.size, 0, none⟩ = some (.string xn) := (hb4.cell (p := ⟨wr.heap.size, 0, none⟩) z9).trans (by simp [go_sem, *]); have x1 : w4.cell? ⟨wr.heap.size, 1, none⟩ = some (.string xd) := (hb4.cell (p := ⟨wr.heap.size, 1, none⟩) z9).trans (by simp [go_sem, *]); have x2 : w4.cell? ⟨wr.heap.size, 2, none⟩ = some (.int .i64 xf) := (hb4.cell (p := ⟨wr.heap.size, 2, none⟩) z9).trans (by simp [go_sem, *]); have x3 : w4.cell? ⟨wr.heap.size, 3, none⟩ = some (.int .i64 xl) := (hb4.cell (p := ⟨wr.heap.size, 3, none⟩) z9).trans (by simp [go_sem, *]); have x4 : w4.cell? ⟨wr.heap.size, 4, none⟩ = some (.int .i64 xs) := (hb4.cell (p := ⟨wr.heap.size, 4, none⟩) z9).trans (by simp [go_sem, *]); have x5 : w4.cell? ⟨wr.heap.size, 5, none⟩ = some (.slice va XL vcap) := (hb4.cell (p := ⟨wr.heap.size, 5, none⟩) z9).trans (by simp [go_sem, *]); clear hb4 z0 z1 z2 z3 z4 z5)
          | (go_at_call 12; refine (HCA.out _ (Below.step HWc.out B4.out)).mono ?_; rintro e w5 ⟨rfl, hb5⟩; have B5 : Hid (Below Wc.heap.size Wc w5) := Below.step B4.out hb5; have y3 : w5.cell? ⟨wr.heap.size, 3, none⟩ = some (.int .i64 xl) := (hb5.cell (p := ⟨wr.heap.size, 3, none⟩) x9).trans x3; clear hb5))
        go_roundw
        case rel => exact ⟨k + 1, by go_num, by omega, B5⟩
        case measure => simp [intOf]; omega
    · have e : k = M := by omega
      subst e
      clear HMA HLW HMW
      go_wp2_with (go_at_call 11; refine (HFN.out _ (Below.step HWc.out hb.out)).mono ?_; rintro e w2 ⟨rfl, hb2⟩; have B2 : Hid (Below Wc.heap.size Wc w2) := Below.step hb.out hb2; clear hb2)
      go_ret
      exact ⟨rfl, Below.step HWc.out B2.out⟩

theorem ShapesSound_any (c : Cls) (vi vm : Value) (W : World) (hi : IsStrs W vi c.ifs) (hm : IsMths W vm c.ms) (hw : ClsW c) (hG : GAll W) :
    Calls Tryd.prog 3 #[clsV c vi vm] W fun e w' => e = .returned (.bool true) ∧ Below W.heap.size W w' := by
  cases hb : clsB c with
  | false => exact sound_bad c vi vm W hi hm hw hb hG
  | true => exact sound_good c vi vm W hi hm hw hb hG
end Go.Proofs.YtfbhjfpkhofifaaDoor
