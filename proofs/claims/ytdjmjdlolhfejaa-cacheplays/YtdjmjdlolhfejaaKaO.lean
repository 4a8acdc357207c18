/- Package cache: Get, Put, Keys, Len, Hits, Clear, New of a cache that is there. -/
import Derived.Test.YtdjmjdlolhfejaaKaN
import Derived.Handy
namespace Go.Proofs.Ytdjmjdlolhfejaa
open Go.RowKit Go.Maps

theorem up1 : wrap32 (0 + 1) = 1 := by unfold wrap32; omega
theorem dn1 : wrap32 (1 + -1) = 0 := by unfold wrap32; omega
set_option maxRecDepth 100000 in
set_option maxHeartbeats 4000000 in
theorem cget_c {W : World} {N p : Nat} {K : Sk} {cap : Nat} {ss : List (List (Int × Int))} {h m : Int} (H : CaK W N p K cap ss h m 0 0) (key : Int) :
    Calls Try.prog 14 #[.pointer (some ⟨p, 0, none⟩), .int .i64 key] W fun e w' => e = .returned (.tuple #[.int .i64 (fdSS key ss).1, .bool (fdSS key ss).2.1]) ∧ CaK w' N p K cap (fdSS key ss).2.2 (if (fdSS key ss).2.1 then wrap64 (h + 1) else h) (if (fdSS key ss).2.1 then m else wrap64 (m + 1)) 0 0 ∧ TC N W w' := by
  obtain ⟨c0, c1, c2, c3, c5, c6, c7, cf, hpl⟩ := H.cells
  have HM : Hid (Calls Try.prog 24 #[.pointer (some ⟨p, 0, none⟩)] W fun e w' => e = .returned (.bool true) ∧ w' = W) := made_c p K W c0
  have HL : Hid (Calls Try.prog 25 #[.pointer (some ⟨p, 3, none⟩)] W fun e w' => e = .returned (.tuple #[]) ∧ CaK w' N p K cap ss h m 0 1 ∧ TC N W w') := by
    refine (Go.RwLone.rlock_open Try.rwRLib p 3 0 _ _ W c3 c6 c7 (cf _) (by rw [up1]; omega)).mono ?_
    rintro e w' ⟨rfl, rfl⟩
    rw [up1]
    exact ⟨rfl, H.setc 7 _ rfl, H.tcs 7 _⟩
  have HF : Hid (∀ w, CaK w N p K cap ss h m 0 1 → Calls Try.prog K.find #[K.r, .int .i64 key] w fun e w' => e = .returned (.tuple #[.int .i64 (fdSS key ss).1, .bool (fdSS key ss).2.1]) ∧ CaK w' N p K cap (fdSS key ss).2.2 h m 0 1 ∧ TC N w w') := by
    intro w Hw
    refine (skfind_c K Hw.st key).mono ?_
    rintro e w' ⟨rfl, hs, ht⟩
    exact ⟨rfl, Hw.store hs ht, ht.tc⟩
  have HA : Hid (∀ w k x, w.cell? ⟨p, k, none⟩ = some (.int .i64 x) → w.frozen? ⟨p, k, none⟩ = false → Calls Try.prog 27 #[.pointer (some ⟨p, k, none⟩), .int .i64 1] w fun e w' => e = .returned (.int .i64 (wrap64 (x + 1))) ∧ w' = w.setCell ⟨p, k, none⟩ (.int .i64 (wrap64 (x + 1)))) := fun w k x h1 h2 => iadd_c p k x 1 w h1 h2
  generalize fdSS key ss = F at *
  obtain ⟨F1, F2, F3⟩ := F
  simp only at HF ⊢
  clear c1 c2 c3 c5 c6 c7 cf H c0
  cases F2
  · cases K using Sk.elim with
    | no =>
      simp only [Sk.find, Sk.r] at HF
      go_enter_defers Try.func14, Try.ntmps14
      go_wp2_with (first
        | (go_at_call 24; refine HM.out.mono ?_; rintro e w' ⟨rfl, hw⟩; obtain rfl := hw.symm; clear HM)
        | (go_at_call 25; refine HL.out.mono ?_; rintro e w1 ⟨rfl, h1, t1⟩; have C1 : Hid (CaK w1 N p Sk.no cap ss h m 0 1) := h1; have T1 : Hid (TC N W w1) := t1; have v1 : w1.cell? ⟨p, 0, none⟩ = some (Sk.no).v := h1.cells.1; simp only [Sk.v] at v1; clear h1 t1 HL)
        | (go_at_call 82; refine (HF.out _ C1.out).mono ?_; rintro e w2 ⟨rfl, h2, t2⟩; have C2 : Hid (CaK w2 N p Sk.no cap F3 h m 0 1) := h2; have T2 : Hid (TC N W w2) := T1.out.trans t2; clear h2 t2 HF v1 C1 T1)
        | (go_at_call 27; refine (HA.out _ 2 m C2.out.cells.2.2.1 (C2.out.cells.2.2.2.2.2.2.2.1 2)).mono ?_; rintro e w3 ⟨rfl, rfl⟩; have C3 : Hid (CaK (w2.setCell ⟨p, 2, none⟩ (.int .i64 (wrap64 (m + 1)))) N p Sk.no cap F3 (h) (wrap64 (m + 1)) 0 1) := C2.out.setc 2 _ rfl; have T3 : Hid (TC N W (w2.setCell ⟨p, 2, none⟩ (.int .i64 (wrap64 (m + 1))))) := T2.out.trans (C2.out.tcs 2 _); clear C2 T2 HA))
      obtain ⟨d0, d1, d2, d3, d5, d6, d7, df, dp⟩ := C3.out.cells
      refine leaves_cons (f := 26) (args := #[.pointer (some ⟨p, 3, none⟩)]) (by simp) (by simp [go_sem]) ?_
      refine (Go.RwLone.runlock_deferred Try.rwRLib p 3 1 _ _ .returning _ d3 d5 d7 (df _) (by rw [dn1]; omega)).mono ?_
      rintro e u' w'' ⟨rfl, rfl, rfl⟩
      rw [dn1]
      exact ⟨_, results_tmp2 rfl _ _ _, rfl, C3.out.setc 7 _ rfl, T3.out.trans (C3.out.tcs 7 _)⟩
    | one q =>
      simp only [Sk.find, Sk.r] at HF
      go_enter_defers Try.func14, Try.ntmps14
      go_wp2_with (first
        | (go_at_call 24; refine HM.out.mono ?_; rintro e w' ⟨rfl, hw⟩; obtain rfl := hw.symm; clear HM)
        | (go_at_call 25; refine HL.out.mono ?_; rintro e w1 ⟨rfl, h1, t1⟩; have C1 : Hid (CaK w1 N p (Sk.one q) cap ss h m 0 1) := h1; have T1 : Hid (TC N W w1) := t1; have v1 : w1.cell? ⟨p, 0, none⟩ = some ((Sk.one q)).v := h1.cells.1; simp only [Sk.v] at v1; clear h1 t1 HL)
        | (go_at_call 86; refine (HF.out _ C1.out).mono ?_; rintro e w2 ⟨rfl, h2, t2⟩; have C2 : Hid (CaK w2 N p (Sk.one q) cap F3 h m 0 1) := h2; have T2 : Hid (TC N W w2) := T1.out.trans t2; clear h2 t2 HF v1 C1 T1)
        | (go_at_call 27; refine (HA.out _ 2 m C2.out.cells.2.2.1 (C2.out.cells.2.2.2.2.2.2.2.1 2)).mono ?_; rintro e w3 ⟨rfl, rfl⟩; have C3 : Hid (CaK (w2.setCell ⟨p, 2, none⟩ (.int .i64 (wrap64 (m + 1)))) N p (Sk.one q) cap F3 (h) (wrap64 (m + 1)) 0 1) := C2.out.setc 2 _ rfl; have T3 : Hid (TC N W (w2.setCell ⟨p, 2, none⟩ (.int .i64 (wrap64 (m + 1))))) := T2.out.trans (C2.out.tcs 2 _); clear C2 T2 HA))
      obtain ⟨d0, d1, d2, d3, d5, d6, d7, df, dp⟩ := C3.out.cells
      refine leaves_cons (f := 26) (args := #[.pointer (some ⟨p, 3, none⟩)]) (by simp) (by simp [go_sem]) ?_
      refine (Go.RwLone.runlock_deferred Try.rwRLib p 3 1 _ _ .returning _ d3 d5 d7 (df _) (by rw [dn1]; omega)).mono ?_
      rintro e u' w'' ⟨rfl, rfl, rfl⟩
      rw [dn1]
      exact ⟨_, results_tmp2 rfl _ _ _, rfl, C3.out.setc 7 _ rfl, T3.out.trans (C3.out.tcs 7 _)⟩
    | many q a =>
      simp only [Sk.find, Sk.r] at HF
      go_enter_defers Try.func14, Try.ntmps14
      go_wp2_with (first
        | (go_at_call 24; refine HM.out.mono ?_; rintro e w' ⟨rfl, hw⟩; obtain rfl := hw.symm; clear HM)
        | (go_at_call 25; refine HL.out.mono ?_; rintro e w1 ⟨rfl, h1, t1⟩; have C1 : Hid (CaK w1 N p (Sk.many q a) cap ss h m 0 1) := h1; have T1 : Hid (TC N W w1) := t1; have v1 : w1.cell? ⟨p, 0, none⟩ = some ((Sk.many q a)).v := h1.cells.1; simp only [Sk.v] at v1; clear h1 t1 HL)
        | (go_at_call 96; refine (HF.out _ C1.out).mono ?_; rintro e w2 ⟨rfl, h2, t2⟩; have C2 : Hid (CaK w2 N p (Sk.many q a) cap F3 h m 0 1) := h2; have T2 : Hid (TC N W w2) := T1.out.trans t2; clear h2 t2 HF v1 C1 T1)
        | (go_at_call 27; refine (HA.out _ 2 m C2.out.cells.2.2.1 (C2.out.cells.2.2.2.2.2.2.2.1 2)).mono ?_; rintro e w3 ⟨rfl, rfl⟩; have C3 : Hid (CaK (w2.setCell ⟨p, 2, none⟩ (.int .i64 (wrap64 (m + 1)))) N p (Sk.many q a) cap F3 (h) (wrap64 (m + 1)) 0 1) := C2.out.setc 2 _ rfl; have T3 : Hid (TC N W (w2.setCell ⟨p, 2, none⟩ (.int .i64 (wrap64 (m + 1))))) := T2.out.trans (C2.out.tcs 2 _); clear C2 T2 HA))
      obtain ⟨d0, d1, d2, d3, d5, d6, d7, df, dp⟩ := C3.out.cells
      refine leaves_cons (f := 26) (args := #[.pointer (some ⟨p, 3, none⟩)]) (by simp) (by simp [go_sem]) ?_
      refine (Go.RwLone.runlock_deferred Try.rwRLib p 3 1 _ _ .returning _ d3 d5 d7 (df _) (by rw [dn1]; omega)).mono ?_
      rintro e u' w'' ⟨rfl, rfl, rfl⟩
      rw [dn1]
      exact ⟨_, results_tmp2 rfl _ _ _, rfl, C3.out.setc 7 _ rfl, T3.out.trans (C3.out.tcs 7 _)⟩
  · cases K using Sk.elim with
    | no =>
      simp only [Sk.find, Sk.r] at HF
      go_enter_defers Try.func14, Try.ntmps14
      go_wp2_with (first
        | (go_at_call 24; refine HM.out.mono ?_; rintro e w' ⟨rfl, hw⟩; obtain rfl := hw.symm; clear HM)
        | (go_at_call 25; refine HL.out.mono ?_; rintro e w1 ⟨rfl, h1, t1⟩; have C1 : Hid (CaK w1 N p Sk.no cap ss h m 0 1) := h1; have T1 : Hid (TC N W w1) := t1; have v1 : w1.cell? ⟨p, 0, none⟩ = some (Sk.no).v := h1.cells.1; simp only [Sk.v] at v1; clear h1 t1 HL)
        | (go_at_call 82; refine (HF.out _ C1.out).mono ?_; rintro e w2 ⟨rfl, h2, t2⟩; have C2 : Hid (CaK w2 N p Sk.no cap F3 h m 0 1) := h2; have T2 : Hid (TC N W w2) := T1.out.trans t2; clear h2 t2 HF v1 C1 T1)
        | (go_at_call 27; refine (HA.out _ 1 h C2.out.cells.2.1 (C2.out.cells.2.2.2.2.2.2.2.1 1)).mono ?_; rintro e w3 ⟨rfl, rfl⟩; have C3 : Hid (CaK (w2.setCell ⟨p, 1, none⟩ (.int .i64 (wrap64 (h + 1)))) N p Sk.no cap F3 (wrap64 (h + 1)) (m) 0 1) := C2.out.setc 1 _ rfl; have T3 : Hid (TC N W (w2.setCell ⟨p, 1, none⟩ (.int .i64 (wrap64 (h + 1))))) := T2.out.trans (C2.out.tcs 1 _); clear C2 T2 HA))
      obtain ⟨d0, d1, d2, d3, d5, d6, d7, df, dp⟩ := C3.out.cells
      refine leaves_cons (f := 26) (args := #[.pointer (some ⟨p, 3, none⟩)]) (by simp) (by simp [go_sem]) ?_
      refine (Go.RwLone.runlock_deferred Try.rwRLib p 3 1 _ _ .returning _ d3 d5 d7 (df _) (by rw [dn1]; omega)).mono ?_
      rintro e u' w'' ⟨rfl, rfl, rfl⟩
      rw [dn1]
      exact ⟨_, results_tmp2 rfl _ _ _, rfl, C3.out.setc 7 _ rfl, T3.out.trans (C3.out.tcs 7 _)⟩
    | one q =>
      simp only [Sk.find, Sk.r] at HF
      go_enter_defers Try.func14, Try.ntmps14
      go_wp2_with (first
        | (go_at_call 24; refine HM.out.mono ?_; rintro e w' ⟨rfl, hw⟩; obtain rfl := hw.symm; clear HM)
        | (go_at_call 25; refine HL.out.mono ?_; rintro e w1 ⟨rfl, h1, t1⟩; have C1 : Hid (CaK w1 N p (Sk.one q) cap ss h m 0 1) := h1; have T1 : Hid (TC N W w1) := t1; have v1 : w1.cell? ⟨p, 0, none⟩ = some ((Sk.one q)).v := h1.cells.1; simp only [Sk.v] at v1; clear h1 t1 HL)
        | (go_at_call 86; refine (HF.out _ C1.out).mono ?_; rintro e w2 ⟨rfl, h2, t2⟩; have C2 : Hid (CaK w2 N p (Sk.one q) cap F3 h m 0 1) := h2; have T2 : Hid (TC N W w2) := T1.out.trans t2; clear h2 t2 HF v1 C1 T1)
        | (go_at_call 27; refine (HA.out _ 1 h C2.out.cells.2.1 (C2.out.cells.2.2.2.2.2.2.2.1 1)).mono ?_; rintro e w3 ⟨rfl, rfl⟩; have C3 : Hid (CaK (w2.setCell ⟨p, 1, none⟩ (.int .i64 (wrap64 (h + 1)))) N p (Sk.one q) cap F3 (wrap64 (h + 1)) (m) 0 1) := C2.out.setc 1 _ rfl; have T3 : Hid (TC N W (w2.setCell ⟨p, 1, none⟩ (.int .i64 (wrap64 (h + 1))))) := T2.out.trans (C2.out.tcs 1 _); clear C2 T2 HA))
      obtain ⟨d0, d1, d2, d3, d5, d6, d7, df, dp⟩ := C3.out.cells
      refine leaves_cons (f := 26) (args := #[.pointer (some ⟨p, 3, none⟩)]) (by simp) (by simp [go_sem]) ?_
      refine (Go.RwLone.runlock_deferred Try.rwRLib p 3 1 _ _ .returning _ d3 d5 d7 (df _) (by rw [dn1]; omega)).mono ?_
      rintro e u' w'' ⟨rfl, rfl, rfl⟩
      rw [dn1]
      exact ⟨_, results_tmp2 rfl _ _ _, rfl, C3.out.setc 7 _ rfl, T3.out.trans (C3.out.tcs 7 _)⟩
    | many q a =>
      simp only [Sk.find, Sk.r] at HF
      go_enter_defers Try.func14, Try.ntmps14
      go_wp2_with (first
        | (go_at_call 24; refine HM.out.mono ?_; rintro e w' ⟨rfl, hw⟩; obtain rfl := hw.symm; clear HM)
        | (go_at_call 25; refine HL.out.mono ?_; rintro e w1 ⟨rfl, h1, t1⟩; have C1 : Hid (CaK w1 N p (Sk.many q a) cap ss h m 0 1) := h1; have T1 : Hid (TC N W w1) := t1; have v1 : w1.cell? ⟨p, 0, none⟩ = some ((Sk.many q a)).v := h1.cells.1; simp only [Sk.v] at v1; clear h1 t1 HL)
        | (go_at_call 96; refine (HF.out _ C1.out).mono ?_; rintro e w2 ⟨rfl, h2, t2⟩; have C2 : Hid (CaK w2 N p (Sk.many q a) cap F3 h m 0 1) := h2; have T2 : Hid (TC N W w2) := T1.out.trans t2; clear h2 t2 HF v1 C1 T1)
        | (go_at_call 27; refine (HA.out _ 1 h C2.out.cells.2.1 (C2.out.cells.2.2.2.2.2.2.2.1 1)).mono ?_; rintro e w3 ⟨rfl, rfl⟩; have C3 : Hid (CaK (w2.setCell ⟨p, 1, none⟩ (.int .i64 (wrap64 (h + 1)))) N p (Sk.many q a) cap F3 (wrap64 (h + 1)) (m) 0 1) := C2.out.setc 1 _ rfl; have T3 : Hid (TC N W (w2.setCell ⟨p, 1, none⟩ (.int .i64 (wrap64 (h + 1))))) := T2.out.trans (C2.out.tcs 1 _); clear C2 T2 HA))
      obtain ⟨d0, d1, d2, d3, d5, d6, d7, df, dp⟩ := C3.out.cells
      refine leaves_cons (f := 26) (args := #[.pointer (some ⟨p, 3, none⟩)]) (by simp) (by simp [go_sem]) ?_
      refine (Go.RwLone.runlock_deferred Try.rwRLib p 3 1 _ _ .returning _ d3 d5 d7 (df _) (by rw [dn1]; omega)).mono ?_
      rintro e u' w'' ⟨rfl, rfl, rfl⟩
      rw [dn1]
      exact ⟨_, results_tmp2 rfl _ _ _, rfl, C3.out.setc 7 _ rfl, T3.out.trans (C3.out.tcs 7 _)⟩
set_option maxRecDepth 100000 in
set_option maxHeartbeats 4000000 in
theorem cput_c {W : World} {N p : Nat} {K : Sk} {cap : Nat} {ss : List (List (Int × Int))} {h m : Int} (H : CaK W N p K cap ss h m 0 0) (e1 e2 : Int) :
    Calls Try.prog 11 #[.pointer (some ⟨p, 0, none⟩), .int .i64 e1, .int .i64 e2] W fun e w' => e = .returned (.tuple #[.int .i64 (ptSS cap (e1, e2) ss).1.1, .int .i64 (ptSS cap (e1, e2) ss).1.2, .bool (ptSS cap (e1, e2) ss).2.1]) ∧ CaK w' N p K cap (ptSS cap (e1, e2) ss).2.2 h m 0 0 ∧ TC N W w' := by
  have c0 := H.cells.1
  have HM : Hid (Calls Try.prog 24 #[.pointer (some ⟨p, 0, none⟩)] W fun e w' => e = .returned (.bool true) ∧ w' = W) := made_c p K W c0
  have HF : Hid (Calls Try.prog K.put #[K.r, .agg #[.int .i64 e1, .int .i64 e2]] W fun e w' => e = .returned (.tuple #[.agg #[.int .i64 (ptSS cap (e1, e2) ss).1.1, .int .i64 (ptSS cap (e1, e2) ss).1.2], .bool (ptSS cap (e1, e2) ss).2.1]) ∧ CaK w' N p K cap (ptSS cap (e1, e2) ss).2.2 h m 0 0 ∧ TC N W w') := by
    refine (skput_c K H.st e1 e2).mono ?_
    rintro e w' ⟨rfl, hs, ht⟩
    exact ⟨rfl, H.store hs ht, ht.tc⟩
  generalize ptSS cap (e1, e2) ss = F at *
  obtain ⟨⟨z1, z2⟩, F2, F3⟩ := F
  simp only at HF ⊢
  clear H
  cases K using Sk.elim with
  | no =>
    simp only [Sk.put, Sk.r] at HF
    simp only [Sk.v] at c0
    go_enter Try.func11, Try.ntmps11
    go_wp2_with (first
      | (go_at_call 24; refine HM.out.mono ?_; rintro e w' ⟨rfl, hw⟩; obtain rfl := hw.symm; clear HM)
      | (go_at_call 84; refine HF.out.mono ?_; rintro e w2 ⟨rfl, h2, t2⟩; have C2 : Hid (CaK w2 N p Sk.no cap F3 h m 0 0) := h2; have T2 : Hid (TC N W w2) := t2; clear h2 t2 HF))
    go_region
    all_goals go_wp2
    all_goals go_ret3
    all_goals exact ⟨rfl, C2.out.store (Sk.tch C2.out.st ((Tch.refl _ w2).alloc _).drew) (TK.of0 ((Tch.refl _ w2).alloc _).drew), T2.out.trans (TC.of ((Tch.refl _ w2).alloc _).drew)⟩
  | one q =>
    simp only [Sk.put, Sk.r] at HF
    simp only [Sk.v] at c0
    go_enter Try.func11, Try.ntmps11
    go_wp2_with (first
      | (go_at_call 24; refine HM.out.mono ?_; rintro e w' ⟨rfl, hw⟩; obtain rfl := hw.symm; clear HM)
      | (go_at_call 88; refine HF.out.mono ?_; rintro e w2 ⟨rfl, h2, t2⟩; have C2 : Hid (CaK w2 N p (Sk.one q) cap F3 h m 0 0) := h2; have T2 : Hid (TC N W w2) := t2; clear h2 t2 HF))
    go_region
    all_goals go_wp2
    all_goals go_ret3
    all_goals exact ⟨rfl, C2.out.store (Sk.tch C2.out.st ((Tch.refl _ w2).alloc _).drew) (TK.of0 ((Tch.refl _ w2).alloc _).drew), T2.out.trans (TC.of ((Tch.refl _ w2).alloc _).drew)⟩
  | many q a =>
    simp only [Sk.put, Sk.r] at HF
    simp only [Sk.v] at c0
    go_enter Try.func11, Try.ntmps11
    go_wp2_with (first
      | (go_at_call 24; refine HM.out.mono ?_; rintro e w' ⟨rfl, hw⟩; obtain rfl := hw.symm; clear HM)
      | (go_at_call 98; refine HF.out.mono ?_; rintro e w2 ⟨rfl, h2, t2⟩; have C2 : Hid (CaK w2 N p (Sk.many q a) cap F3 h m 0 0) := h2; have T2 : Hid (TC N W w2) := t2; clear h2 t2 HF))
    go_region
    all_goals go_wp2
    all_goals go_ret3
    all_goals exact ⟨rfl, C2.out.store (Sk.tch C2.out.st ((Tch.refl _ w2).alloc _).drew) (TK.of0 ((Tch.refl _ w2).alloc _).drew), T2.out.trans (TC.of ((Tch.refl _ w2).alloc _).drew)⟩
set_option maxRecDepth 100000 in
set_option maxHeartbeats 4000000 in
theorem ckeys_c {W : World} {N p : Nat} {K : Sk} {cap : Nat} {ss : List (List (Int × Int))} {h m : Int} (H : CaK W N p K cap ss h m 0 0) :
    Calls Try.prog 13 #[.pointer (some ⟨p, 0, none⟩)] W fun e w' => ∃ v', e = .returned v' ∧ w'.ownsRow W.heap.size 3 1 v' (ksL ss).length (intC (ksL ss)) ∧ CaK w' N p K cap ss h m 0 0 ∧ TC N W w' := by
  have c0 := H.cells.1
  have HM : Hid (Calls Try.prog 24 #[.pointer (some ⟨p, 0, none⟩)] W fun e w' => e = .returned (.bool true) ∧ w' = W) := made_c p K W c0
  have HF : Hid (Calls Try.prog K.keys #[K.r] W fun e w' => ∃ v', e = .returned v' ∧ w'.ownsRow W.heap.size 3 1 v' (ksL ss).length (intC (ksL ss)) ∧ CaK w' N p K cap ss h m 0 0 ∧ TC N W w') := by
    refine (skkeys_c K H.st).mono ?_
    rintro e w' ⟨v', rfl, hr, hs, ht⟩
    exact ⟨v', rfl, hr, H.store hs ht, ht.tc⟩
  clear H
  cases K using Sk.elim with
  | no =>
    simp only [Sk.keys, Sk.r] at HF
    simp only [Sk.v] at c0
    go_enter Try.func13, Try.ntmps13
    go_wp2_with (first
      | (go_at_call 24; refine HM.out.mono ?_; rintro e w' ⟨rfl, hw⟩; obtain rfl := hw.symm; clear HM)
      | (go_at_call 83; refine HF.out.mono ?_; rintro e w2 ⟨v', rfl, h2⟩; have C2 : Hid (w2.ownsRow W.heap.size 3 1 v' (ksL ss).length (intC (ksL ss)) ∧ CaK w2 N p Sk.no cap ss h m 0 0 ∧ TC N W w2) := h2; clear h2 HF))
    go_ret
    exact ⟨_, rfl, C2.out⟩
  | one q =>
    simp only [Sk.keys, Sk.r] at HF
    simp only [Sk.v] at c0
    go_enter Try.func13, Try.ntmps13
    go_wp2_with (first
      | (go_at_call 24; refine HM.out.mono ?_; rintro e w' ⟨rfl, hw⟩; obtain rfl := hw.symm; clear HM)
      | (go_at_call 87; refine HF.out.mono ?_; rintro e w2 ⟨v', rfl, h2⟩; have C2 : Hid (w2.ownsRow W.heap.size 3 1 v' (ksL ss).length (intC (ksL ss)) ∧ CaK w2 N p (Sk.one q) cap ss h m 0 0 ∧ TC N W w2) := h2; clear h2 HF))
    go_ret
    exact ⟨_, rfl, C2.out⟩
  | many q a =>
    simp only [Sk.keys, Sk.r] at HF
    simp only [Sk.v] at c0
    go_enter Try.func13, Try.ntmps13
    go_wp2_with (first
      | (go_at_call 24; refine HM.out.mono ?_; rintro e w' ⟨rfl, hw⟩; obtain rfl := hw.symm; clear HM)
      | (go_at_call 97; refine HF.out.mono ?_; rintro e w2 ⟨v', rfl, h2⟩; have C2 : Hid (w2.ownsRow W.heap.size 3 1 v' (ksL ss).length (intC (ksL ss)) ∧ CaK w2 N p (Sk.many q a) cap ss h m 0 0 ∧ TC N W w2) := h2; clear h2 HF))
    go_ret
    exact ⟨_, rfl, C2.out⟩
set_option maxRecDepth 100000 in
theorem clen_c {W : World} {N p : Nat} {K : Sk} {cap : Nat} {ss : List (List (Int × Int))} {h m : Int} (H : CaK W N p K cap ss h m 0 0) :
    Calls Try.prog 12 #[.pointer (some ⟨p, 0, none⟩)] W fun e w' => e = .returned (.int .i64 (ksL ss).length) ∧ CaK w' N p K cap ss h m 0 0 ∧ TC N W w' := by
  have HF : Hid (Calls Try.prog 13 #[.pointer (some ⟨p, 0, none⟩)] W fun e w' => ∃ a c, e = .returned (.slice a (ksL ss).length c) ∧ CaK w' N p K cap ss h m 0 0 ∧ TC N W w') := by
    refine (ckeys_c H).mono ?_
    rintro e w' ⟨v', rfl, hr, hs⟩
    obtain ⟨a, c, rfl⟩ := ownv hr
    exact ⟨a, c, rfl, hs⟩
  generalize (ksL ss).length = n at *
  clear H
  go_enter Try.func12, Try.ntmps12
  go_wp2_with (go_at_call 13; refine HF.out.mono ?_; rintro e w2 ⟨a, c, rfl, h2⟩; have C2 : Hid (CaK w2 N p K cap ss h m 0 0 ∧ TC N W w2) := h2; clear h2 HF)
  go_ret
  exact ⟨rfl, C2.out⟩
set_option maxRecDepth 100000 in
set_option maxHeartbeats 4000000 in
theorem chits_c {W : World} {N p : Nat} {K : Sk} {cap : Nat} {ss : List (List (Int × Int))} {h m : Int} (H : CaK W N p K cap ss h m 0 0) :
    Calls Try.prog 15 #[.pointer (some ⟨p, 0, none⟩)] W fun e w' => e = .returned (.tuple #[.int .i64 h, .int .i64 m]) ∧ CaK w' N p K cap ss h m 0 0 ∧ TC N W w' := by
  obtain ⟨c0, c1, c2, c3, c5, c6, c7, cf, hpl⟩ := H.cells
  have HM : Hid (Calls Try.prog 24 #[.pointer (some ⟨p, 0, none⟩)] W fun e w' => e = .returned (.bool true) ∧ w' = W) := made_c p K W c0
  have HL : Hid (Calls Try.prog 28 #[.pointer (some ⟨p, 3, none⟩)] W fun e w' => e = .returned (.tuple #[]) ∧ CaK w' N p K cap ss h m 1 (-1073741824) ∧ TC N W w') := by
    refine (Go.RwLone.wlock_free Try.rwWLib p 3 _ _ W c3 c5 c6 c7 (cf _) (cf _)).mono ?_
    rintro e w' ⟨rfl, rfl⟩
    have H1 : CaK (W.setCell ⟨p, 3, none⟩ (.int .i32 1)) N p K cap ss h m 1 0 := H.setc 3 _ rfl
    exact ⟨rfl, H1.setc 7 _ rfl, (H.tcs 3 _).trans (H1.tcs 7 _)⟩
  have HA : Hid (∀ w k x, w.cell? ⟨p, k, none⟩ = some (.int .i64 x) → Calls Try.prog 30 #[.pointer (some ⟨p, k, none⟩)] w fun e w' => e = .returned (.int .i64 x) ∧ w' = w) := fun w k x h1 => iload_c p k x w h1
  clear c1 c2 c3 c5 c6 c7 cf H c0
  go_enter_defers Try.func15, Try.ntmps15
  go_wp2_with (first
    | (go_at_call 24; refine HM.out.mono ?_; rintro e w' ⟨rfl, hw⟩; obtain rfl := hw.symm; clear HM)
    | (go_at_call 28; refine HL.out.mono ?_; rintro e w1 ⟨rfl, h1, t1⟩; have C1 : Hid (CaK w1 N p K cap ss h m 1 (-1073741824)) := h1; have T1 : Hid (TC N W w1) := t1; have v1 : w1.cell? ⟨p, 1, none⟩ = some (.int .i64 h) := h1.cells.2.1; have v2 : w1.cell? ⟨p, 2, none⟩ = some (.int .i64 m) := h1.cells.2.2.1; clear h1 t1 HL))
  refine wp_normal ?_
  go_region_with (go_at_call 30; first | (refine (HA.out w1.drew 1 h v1).mono ?_; rintro e w2 ⟨rfl, rfl⟩) | (refine (HA.out w1.drew 2 m v2).mono ?_; rintro e w2 ⟨rfl, rfl⟩))
  all_goals simp only [PostN]
  all_goals go_wp2
  all_goals
    obtain ⟨d0, d1, d2, d3, d5, d6, d7, df, dp⟩ := C1.out.cells
    refine leaves_cons (f := 29) (args := #[.pointer (some ⟨p, 3, none⟩)]) (by simp) (by simp [go_sem]) ?_
    refine (Go.RwLone.wunlock_deferred Try.rwWLib p 3 _ _ .returning w1.drew d3 d5 d6 d7 (df _) (df _)).mono ?_
    rintro e u' w'' ⟨rfl, rfl, rfl⟩
    have H1 : CaK (w1.drew.setCell ⟨p, 7, none⟩ (.int .i32 0)) N p K cap ss h m 1 0 := (C1.out.store (Sk.tch C1.out.st (Tch.refl _ w1).drew) (TK.of0 (Tch.refl _ w1).drew)).setc 7 _ rfl
    exact ⟨_, results_tmp2 rfl _ _ _, rfl, H1.setc 3 _ rfl, ((T1.out.trans (TC.of (Tch.refl _ w1).drew)).trans ((C1.out.store (Sk.tch C1.out.st (Tch.refl _ w1).drew) (TK.of0 (Tch.refl _ w1).drew)).tcs 7 _)).trans (H1.tcs 3 _)⟩
set_option maxRecDepth 100000 in
set_option maxHeartbeats 4000000 in
theorem cclear_c {W : World} {N p : Nat} {K : Sk} {cap : Nat} {ss : List (List (Int × Int))} {h m : Int} (H : CaK W N p K cap ss h m 0 0) :
    Calls Try.prog 16 #[.pointer (some ⟨p, 0, none⟩)] W fun e w' => e = .returned (.tuple #[]) ∧ CaK w' N p K cap (List.replicate ss.length []) h m 0 0 ∧ TC N W w' := by
  have c0 := H.cells.1
  have HM : Hid (Calls Try.prog 24 #[.pointer (some ⟨p, 0, none⟩)] W fun e w' => e = .returned (.bool true) ∧ w' = W) := made_c p K W c0
  have HF : Hid (Calls Try.prog K.empty #[K.r] W fun e w' => e = .returned (.tuple #[]) ∧ CaK w' N p K cap (List.replicate ss.length []) h m 0 0 ∧ TC N W w') := by
    refine (skempty_c K H.st).mono ?_
    rintro e w' ⟨rfl, hs, ht⟩
    exact ⟨rfl, H.store hs ht, ht.tc⟩
  clear H
  cases K using Sk.elim with
  | no =>
    simp only [Sk.empty, Sk.r] at HF
    simp only [Sk.v] at c0
    go_enter Try.func16, Try.ntmps16
    go_wp2_with (first
      | (go_at_call 24; refine HM.out.mono ?_; rintro e w' ⟨rfl, hw⟩; obtain rfl := hw.symm; clear HM)
      | (go_at_call 81; refine HF.out.mono ?_; rintro e w2 ⟨rfl, h2⟩; have C2 : Hid (CaK w2 N p Sk.no cap (List.replicate ss.length []) h m 0 0 ∧ TC N W w2) := h2; clear h2 HF))
    exact bodyPost_end (results_none rfl _ _ _) rfl ⟨rfl, C2.out⟩
  | one q =>
    simp only [Sk.empty, Sk.r] at HF
    simp only [Sk.v] at c0
    go_enter Try.func16, Try.ntmps16
    go_wp2_with (first
      | (go_at_call 24; refine HM.out.mono ?_; rintro e w' ⟨rfl, hw⟩; obtain rfl := hw.symm; clear HM)
      | (go_at_call 85; refine HF.out.mono ?_; rintro e w2 ⟨rfl, h2⟩; have C2 : Hid (CaK w2 N p (Sk.one q) cap (List.replicate ss.length []) h m 0 0 ∧ TC N W w2) := h2; clear h2 HF))
    exact bodyPost_end (results_none rfl _ _ _) rfl ⟨rfl, C2.out⟩
  | many q a =>
    simp only [Sk.empty, Sk.r] at HF
    simp only [Sk.v] at c0
    go_enter Try.func16, Try.ntmps16
    go_wp2_with (first
      | (go_at_call 24; refine HM.out.mono ?_; rintro e w' ⟨rfl, hw⟩; obtain rfl := hw.symm; clear HM)
      | (go_at_call 95; refine HF.out.mono ?_; rintro e w2 ⟨rfl, h2⟩; have C2 : Hid (CaK w2 N p (Sk.many q a) cap (List.replicate ss.length []) h m 0 0 ∧ TC N W w2) := h2; clear h2 HF))
    exact bodyPost_end (results_none rfl _ _ _) rfl ⟨rfl, C2.out⟩
end Go.Proofs.Ytdjmjdlolhfejaa
