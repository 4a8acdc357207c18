/- StackPlays: agrees by its kinds. Written by genskw.py. -/
import Derived.Test.YtaphlhcenelkbaaSkW
namespace Go.Proofs.Ytaphlhcenelkbaa
open Go.RowKit Go.Maps

set_option maxRecDepth 100000 in
set_option maxHeartbeats 1000000 in
theorem agr_ent {W v : World} {sb xb : Nat} {ps : List PF} (h : Tp W sb xb ps v) (a b : Int) (r : Bool) (n : Int) : Calls Try.prog 9 #[.agg #[.int .i64 1, .int .i64 a, .int .i64 b, .bool r, .int .i64 n], .pointer (some ⟨sb, 0, none⟩), .pointer (some ⟨xb, 0, none⟩)] v fun e w' => e = .returned (.bool true) ∧ ∃ qs, Tp W sb xb qs w' := by
  have T0 : Hid (Tw W sb xb v.heap.size (oB 1 a b r n) ps ps (v.alloc (oB 1 a b r n))) := h.box _
  obtain ⟨x, hx⟩ : ∃ x, enE ps a b = x := ⟨_, rfl⟩
  have HA : Hid (∀ w, Tw W sb xb v.heap.size (oB 1 a b r n) ps ps w → Calls Try.prog 15 #[.pointer (some ⟨sb, 0, none⟩), .int .i64 a, .int .i64 b] w fun e w' => e = .returned (.int .i64 x) ∧ Tw W sb xb v.heap.size (oB 1 a b r n) (enP ps a b) ps w') := fun w t => t.A (fun S o => by rw [← hx]; exact one_ent o a b)
  have HB : Hid (∀ w, Tw W sb xb v.heap.size (oB 1 a b r n) (enP ps a b) ps w → Calls Try.prog 23 #[.pointer (some ⟨xb, 0, none⟩), .int .i64 a, .int .i64 b] w fun e w' => e = .returned (.int .i64 x) ∧ Tw W sb xb v.heap.size (oB 1 a b r n) (enP ps a b) (enP ps a b) w') := fun w t => t.B (fun S o => by rw [← hx]; exact two_ent o a b)
  unfold oB at T0
  clear hx h
  go_enter Try.func9, Try.ntmps9
  go_upto_region 3 with fail
  go_region_law (first
    | (refine step_call3 rfl 23 callEnB (.tmp 29) (.tmp 31) (.tmp 33) 26 3 3 rfl (.pointer (some ⟨xb, 0, none⟩)) (.int .i64 a) (.int .i64 b) (by first | (simp [Act.eval]; done) | (simp [Act.eval, Act.put]; done)) (by first | (simp [Act.eval]; done) | (simp [Act.eval, Act.put]; done)) (by first | (simp [Act.eval]; done) | (simp [Act.eval, Act.put]; done)) (HB.out _ T1.out) ?_; rintro e w3 ⟨rfl, t2⟩; refine ⟨_, rfl, ?_⟩; have T2 : Hid _ := t2; clear t2)
    | (refine step_call3 rfl 15 callEnA (.tmp 23) (.tmp 25) (.tmp 27) 24 3 3 rfl (.pointer (some ⟨sb, 0, none⟩)) (.int .i64 a) (.int .i64 b) (by first | (simp [Act.eval]; done) | (simp [Act.eval, Act.put]; done)) (by first | (simp [Act.eval]; done) | (simp [Act.eval, Act.put]; done)) (by first | (simp [Act.eval]; done) | (simp [Act.eval, Act.put]; done)) (HA.out _ (T0.out.bel (Below.refl _ _).drew)) ?_; rintro e w2 ⟨rfl, t1⟩; refine ⟨_, rfl, ?_⟩; have T1 : Hid (Tw W sb xb v.heap.size (oB 1 a b r n) (enP ps a b) ps w2) := t1; obtain ⟨y0, y1, y2, y3, y4, yL⟩ := r5d t1.at; clear t1))
  all_goals go_wp2
  all_goals
    go_ret
    exact ⟨ret_bool (by simp), _, Tw.p T2.out⟩
set_option maxRecDepth 100000 in
set_option maxHeartbeats 1000000 in
theorem agr_lev {W v : World} {sb xb : Nat} {ps : List PF} (h : Tp W sb xb ps v) (a b : Int) (r : Bool) (n : Int) : Calls Try.prog 9 #[.agg #[.int .i64 2, .int .i64 a, .int .i64 b, .bool r, .int .i64 n], .pointer (some ⟨sb, 0, none⟩), .pointer (some ⟨xb, 0, none⟩)] v fun e w' => e = .returned (.bool true) ∧ ∃ qs, Tp W sb xb qs w' := by
  have T0 : Hid (Tw W sb xb v.heap.size (oB 2 a b r n) ps ps (v.alloc (oB 2 a b r n))) := h.box _
  obtain ⟨x, hx⟩ : ∃ x, lvE ps = x := ⟨_, rfl⟩
  have HA : Hid (∀ w, Tw W sb xb v.heap.size (oB 2 a b r n) ps ps w → Calls Try.prog 16 #[.pointer (some ⟨sb, 0, none⟩)] w fun e w' => e = .returned (.int .i64 x) ∧ Tw W sb xb v.heap.size (oB 2 a b r n) ps.tail ps w') := fun w t => t.A (fun S o => by rw [← hx]; exact one_lev o)
  have HB : Hid (∀ w, Tw W sb xb v.heap.size (oB 2 a b r n) ps.tail ps w → Calls Try.prog 24 #[.pointer (some ⟨xb, 0, none⟩)] w fun e w' => e = .returned (.int .i64 x) ∧ Tw W sb xb v.heap.size (oB 2 a b r n) ps.tail ps.tail w') := fun w t => t.B (fun S o => by rw [← hx]; exact two_lev o)
  unfold oB at T0
  clear hx h
  go_enter Try.func9, Try.ntmps9
  go_wp2_with (first
    | (go_at_call 24; refine (HB.out _ T1.out).mono ?_; rintro e w3 ⟨rfl, t2⟩; have T2 : Hid _ := t2; clear t2)
    | (go_at_call 16; refine (HA.out _ T0.out).mono ?_; rintro e w2 ⟨rfl, t1⟩; have T1 : Hid (Tw W sb xb v.heap.size (oB 2 a b r n) ps.tail ps w2) := t1; clear t1))
  go_ret
  exact ⟨ret_bool (by simp), _, Tw.p T2.out⟩
set_option maxRecDepth 100000 in
set_option maxHeartbeats 1000000 in
theorem agr_put {W v : World} {sb xb : Nat} {ps : List PF} (h : Tp W sb xb ps v) (a b : Int) (r : Bool) (n : Int) : Calls Try.prog 9 #[.agg #[.int .i64 3, .int .i64 a, .int .i64 b, .bool r, .int .i64 n], .pointer (some ⟨sb, 0, none⟩), .pointer (some ⟨xb, 0, none⟩)] v fun e w' => e = .returned (.bool true) ∧ ∃ qs, Tp W sb xb qs w' := by
  have T0 : Hid (Tw W sb xb v.heap.size (oB 3 a b r n) ps ps (v.alloc (oB 3 a b r n))) := h.box _
  obtain ⟨x, hx⟩ : ∃ x, puE ps = x := ⟨_, rfl⟩
  have HA : Hid (∀ w, Tw W sb xb v.heap.size (oB 3 a b r n) ps ps w → Calls Try.prog 17 #[.pointer (some ⟨sb, 0, none⟩), .agg #[.bool r, .int .i64 n]] w fun e w' => e = .returned (.int .i64 x) ∧ Tw W sb xb v.heap.size (oB 3 a b r n) (puP (r, n) ps) ps w') := fun w t => t.A (fun S o => by rw [← hx]; exact one_put o (r, n))
  have HB : Hid (∀ w, Tw W sb xb v.heap.size (oB 3 a b r n) (puP (r, n) ps) ps w → Calls Try.prog 25 #[.pointer (some ⟨xb, 0, none⟩), .agg #[.bool r, .int .i64 n]] w fun e w' => e = .returned (.int .i64 x) ∧ Tw W sb xb v.heap.size (oB 3 a b r n) (puP (r, n) ps) (puP (r, n) ps) w') := fun w t => t.B (fun S o => by rw [← hx]; exact two_put o (r, n))
  unfold oB at T0
  clear hx h
  go_enter Try.func9, Try.ntmps9
  go_upto_region 7 with fail
  go_region_law (first
    | (refine step_call2 rfl 25 callPuB (.tmp 49) (.tmp 51) 26 32 rfl (.pointer (some ⟨xb, 0, none⟩)) (.agg #[.bool r, .int .i64 n]) (by first | (simp [Act.eval]; done) | (simp [Act.eval, Act.put]; done)) (by first | (simp [Act.eval]; done) | (simp [Act.eval, Act.put]; done)) (HB.out _ T1.out) ?_; rintro e w3 ⟨rfl, t2⟩; refine ⟨_, rfl, ?_⟩; have T2 : Hid _ := t2; clear t2)
    | (refine step_call2 rfl 17 callPuA (.tmp 45) (.tmp 47) 24 32 rfl (.pointer (some ⟨sb, 0, none⟩)) (.agg #[.bool r, .int .i64 n]) (by first | (simp [Act.eval]; done) | (simp [Act.eval, Act.put]; done)) (by first | (simp [Act.eval]; done) | (simp [Act.eval, Act.put]; done)) (HA.out _ (T0.out.bel (Below.refl _ _).drew)) ?_; rintro e w2 ⟨rfl, t1⟩; refine ⟨_, rfl, ?_⟩; have T1 : Hid (Tw W sb xb v.heap.size (oB 3 a b r n) (puP (r, n) ps) ps w2) := t1; obtain ⟨y0, y1, y2, y3, y4, yL⟩ := r5d t1.at; clear t1))
  all_goals go_wp2
  all_goals
    go_ret
    exact ⟨ret_bool (by simp), _, Tw.p T2.out⟩
set_option maxRecDepth 100000 in
set_option maxHeartbeats 1000000 in
theorem agr_take {W v : World} {sb xb : Nat} {ps : List PF} (h : Tp W sb xb ps v) (a b : Int) (r : Bool) (n : Int) : Calls Try.prog 9 #[.agg #[.int .i64 4, .int .i64 a, .int .i64 b, .bool r, .int .i64 n], .pointer (some ⟨sb, 0, none⟩), .pointer (some ⟨xb, 0, none⟩)] v fun e w' => e = .returned (.bool true) ∧ ∃ qs, Tp W sb xb qs w' := by
  have T0 : Hid (Tw W sb xb v.heap.size (oB 4 a b r n) ps ps (v.alloc (oB 4 a b r n))) := h.box _
  obtain ⟨x, hx⟩ : ∃ x, tkE ps = x := ⟨_, rfl⟩
  obtain ⟨p, q, hv⟩ := oV_form (tkO ps)
  have HA : Hid (∀ w, Tw W sb xb v.heap.size (oB 4 a b r n) ps ps w → Calls Try.prog 21 #[.pointer (some ⟨sb, 0, none⟩)] w fun e w' => e = .returned (.tuple #[.agg #[.bool p, .int .i64 q], .int .i64 x]) ∧ Tw W sb xb v.heap.size (oB 4 a b r n) (tkP ps) ps w') := fun w t => t.A (fun S o => by rw [← hx, ← hv]; exact one_take o)
  have HB : Hid (∀ w ob o, Tw W sb xb ob o (tkP ps) ps w → Calls Try.prog 26 #[.pointer (some ⟨xb, 0, none⟩)] w fun e w' => e = .returned (.tuple #[.agg #[.bool p, .int .i64 q], .int .i64 x]) ∧ Tw W sb xb ob o (tkP ps) (tkP ps) w') := fun w ob o t => t.B (fun S o => by rw [← hx, ← hv]; exact two_take o)
  have HS : Hid (∀ w, Calls Try.prog 20 #[.agg #[.bool p, .int .i64 q], .agg #[.bool p, .int .i64 q]] w fun e w' => e = .returned (.bool true) ∧ Below w.heap.size w w') := fun w => by
    have := same_c (p, q) (p, q) w
    rw [decide_eq_true rfl] at this
    exact this
  unfold oB at T0
  clear hx h hv
  go_enter Try.func9, Try.ntmps9
  go_wp2_with (first
    | (go_at_call 20; refine (HS.out _).mono ?_; rintro e w4 ⟨rfl, hb⟩; have T3 : Hid (Tp W sb xb (tkP ps) w4) := (Tw.p T2.out).bel (Below.step ((Below.refl _ _).alloc (Nat.le_refl _) _) hb); clear hb)
    | (go_at_call 26; refine (HB.out _ _ _ (T1.out.sw _)).mono ?_; rintro e w3 ⟨rfl, t2⟩; have T2 : Hid (Tw W sb xb w2.heap.size (.cells #[.bool p, .int .i64 q] 32 (0, 0)) (tkP ps) (tkP ps) w3) := t2; obtain ⟨z0, z1, zf, zL⟩ := r2c t2.at; have zN : ¬ w2.heap.size = w3.heap.size := Nat.ne_of_lt zL; clear t2)
    | (go_at_call 21; refine (HA.out _ T0.out).mono ?_; rintro e w2 ⟨rfl, t1⟩; have T1 : Hid (Tw W sb xb v.heap.size (oB 4 a b r n) (tkP ps) ps w2) := t1; obtain ⟨y0, y1, y2, y3, y4, yL⟩ := r5d t1.at; have yN : ¬ v.heap.size = w2.heap.size := Nat.ne_of_lt yL; clear t1))
  go_ret
  exact ⟨rfl, _, T3.out⟩
set_option maxRecDepth 100000 in
set_option maxHeartbeats 1000000 in
theorem agr_peek {W v : World} {sb xb : Nat} {ps : List PF} (h : Tp W sb xb ps v) (a b : Int) (r : Bool) (n : Int) : Calls Try.prog 9 #[.agg #[.int .i64 5, .int .i64 a, .int .i64 b, .bool r, .int .i64 n], .pointer (some ⟨sb, 0, none⟩), .pointer (some ⟨xb, 0, none⟩)] v fun e w' => e = .returned (.bool true) ∧ ∃ qs, Tp W sb xb qs w' := by
  have T0 : Hid (Tw W sb xb v.heap.size (oB 5 a b r n) ps ps (v.alloc (oB 5 a b r n))) := h.box _
  obtain ⟨x, hx⟩ : ∃ x, peE ps a = x := ⟨_, rfl⟩
  obtain ⟨p, q, hv⟩ := oV_form (peO ps a)
  have HA : Hid (∀ w, Tw W sb xb v.heap.size (oB 5 a b r n) ps ps w → Calls Try.prog 22 #[.pointer (some ⟨sb, 0, none⟩), .int .i64 a] w fun e w' => e = .returned (.tuple #[.agg #[.bool p, .int .i64 q], .int .i64 x]) ∧ Tw W sb xb v.heap.size (oB 5 a b r n) ps ps w') := fun w t => t.RA (fun S o => by rw [← hx, ← hv]; exact one_peek o a)
  have HB : Hid (∀ w ob o, Tw W sb xb ob o ps ps w → Calls Try.prog 27 #[.pointer (some ⟨xb, 0, none⟩), .int .i64 a] w fun e w' => e = .returned (.tuple #[.agg #[.bool p, .int .i64 q], .int .i64 x]) ∧ Tw W sb xb ob o ps ps w') := fun w ob o t => t.RB (fun S o => by rw [← hx, ← hv]; exact two_peek o a)
  have HS : Hid (∀ w, Calls Try.prog 20 #[.agg #[.bool p, .int .i64 q], .agg #[.bool p, .int .i64 q]] w fun e w' => e = .returned (.bool true) ∧ Below w.heap.size w w') := fun w => by
    have := same_c (p, q) (p, q) w
    rw [decide_eq_true rfl] at this
    exact this
  unfold oB at T0
  clear hx h hv
  go_enter Try.func9, Try.ntmps9
  go_wp2_with (first
    | (go_at_call 20; refine (HS.out _).mono ?_; rintro e w4 ⟨rfl, hb⟩; have T3 : Hid (Tp W sb xb ps w4) := (Tw.p T2.out).bel (Below.step ((Below.refl _ _).alloc (Nat.le_refl _) _) hb); clear hb)
    | (go_at_call 27; refine (HB.out _ _ _ (T1.out.sw _)).mono ?_; rintro e w3 ⟨rfl, t2⟩; have T2 : Hid (Tw W sb xb w2.heap.size (.cells #[.bool p, .int .i64 q] 32 (0, 0)) ps ps w3) := t2; obtain ⟨z0, z1, zf, zL⟩ := r2c t2.at; have zN : ¬ w2.heap.size = w3.heap.size := Nat.ne_of_lt zL; clear t2)
    | (go_at_call 22; refine (HA.out _ T0.out).mono ?_; rintro e w2 ⟨rfl, t1⟩; have T1 : Hid (Tw W sb xb v.heap.size (oB 5 a b r n) ps ps w2) := t1; obtain ⟨y0, y1, y2, y3, y4, yL⟩ := r5d t1.at; have yN : ¬ v.heap.size = w2.heap.size := Nat.ne_of_lt yL; clear t1))
  go_ret
  exact ⟨rfl, _, T3.out⟩
set_option maxRecDepth 100000 in
set_option maxHeartbeats 1000000 in
theorem agr_local {W v : World} {sb xb : Nat} {ps : List PF} (h : Tp W sb xb ps v) (a b : Int) (r : Bool) (n : Int) : Calls Try.prog 9 #[.agg #[.int .i64 6, .int .i64 a, .int .i64 b, .bool r, .int .i64 n], .pointer (some ⟨sb, 0, none⟩), .pointer (some ⟨xb, 0, none⟩)] v fun e w' => e = .returned (.bool true) ∧ ∃ qs, Tp W sb xb qs w' := by
  have T0 : Hid (Tw W sb xb v.heap.size (oB 6 a b r n) ps ps (v.alloc (oB 6 a b r n))) := h.box _
  obtain ⟨x, hx⟩ : ∃ x, loE ps a = x := ⟨_, rfl⟩
  obtain ⟨p, q, hv⟩ := oV_form (loO ps a)
  have HA : Hid (∀ w, Tw W sb xb v.heap.size (oB 6 a b r n) ps ps w → Calls Try.prog 19 #[.pointer (some ⟨sb, 0, none⟩), .int .i64 a] w fun e w' => e = .returned (.tuple #[.agg #[.bool p, .int .i64 q], .int .i64 x]) ∧ Tw W sb xb v.heap.size (oB 6 a b r n) ps ps w') := fun w t => t.RA (fun S o => by rw [← hx, ← hv]; exact one_local o a)
  have HB : Hid (∀ w ob o, Tw W sb xb ob o ps ps w → Calls Try.prog 28 #[.pointer (some ⟨xb, 0, none⟩), .int .i64 a] w fun e w' => e = .returned (.tuple #[.agg #[.bool p, .int .i64 q], .int .i64 x]) ∧ Tw W sb xb ob o ps ps w') := fun w ob o t => t.RB (fun S o => by rw [← hx, ← hv]; exact two_local o a)
  have HS : Hid (∀ w, Calls Try.prog 20 #[.agg #[.bool p, .int .i64 q], .agg #[.bool p, .int .i64 q]] w fun e w' => e = .returned (.bool true) ∧ Below w.heap.size w w') := fun w => by
    have := same_c (p, q) (p, q) w
    rw [decide_eq_true rfl] at this
    exact this
  unfold oB at T0
  clear hx h hv
  go_enter Try.func9, Try.ntmps9
  go_wp2_with (first
    | (go_at_call 20; refine (HS.out _).mono ?_; rintro e w4 ⟨rfl, hb⟩; have T3 : Hid (Tp W sb xb ps w4) := (Tw.p T2.out).bel (Below.step ((Below.refl _ _).alloc (Nat.le_refl _) _) hb); clear hb)
    | (go_at_call 28; refine (HB.out _ _ _ (T1.out.sw _)).mono ?_; rintro e w3 ⟨rfl, t2⟩; have T2 : Hid (Tw W sb xb w2.heap.size (.cells #[.bool p, .int .i64 q] 32 (0, 0)) ps ps w3) := t2; obtain ⟨z0, z1, zf, zL⟩ := r2c t2.at; have zN : ¬ w2.heap.size = w3.heap.size := Nat.ne_of_lt zL; clear t2)
    | (go_at_call 19; refine (HA.out _ T0.out).mono ?_; rintro e w2 ⟨rfl, t1⟩; have T1 : Hid (Tw W sb xb v.heap.size (oB 6 a b r n) ps ps w2) := t1; obtain ⟨y0, y1, y2, y3, y4, yL⟩ := r5d t1.at; have yN : ¬ v.heap.size = w2.heap.size := Nat.ne_of_lt yL; clear t1))
  go_ret
  exact ⟨rfl, _, T3.out⟩
set_option maxRecDepth 100000 in
theorem agr_none {W v : World} {sb xb : Nat} {ps : List PF} (h : Tp W sb xb ps v) (kd a b : Int) (r : Bool) (n : Int) (k1 : ¬ kd = 1) (k2 : ¬ kd = 2) (k3 : ¬ kd = 3) (k4 : ¬ kd = 4) (k5 : ¬ kd = 5) (k6 : ¬ kd = 6) (k7 : ¬ kd = 7) : Calls Try.prog 9 #[.agg #[.int .i64 kd, .int .i64 a, .int .i64 b, .bool r, .int .i64 n], .pointer (some ⟨sb, 0, none⟩), .pointer (some ⟨xb, 0, none⟩)] v fun e w' => e = .returned (.bool true) ∧ ∃ qs, Tp W sb xb qs w' := by
  have T0 : Hid (Tp W sb xb ps v) := h
  clear h
  go_enter Try.func9, Try.ntmps9
  go_wp2
  go_ret
  exact ⟨rfl, ps, Tp.bel T0.out (by repeat (first | exact Below.refl _ _ | refine Below.setCell ?_ (by simp; try omega) _ | refine Below.alloc ?_ (by simp; try omega) _ | refine Below.drew ?_))⟩
end Go.Proofs.Ytaphlhcenelkbaa
