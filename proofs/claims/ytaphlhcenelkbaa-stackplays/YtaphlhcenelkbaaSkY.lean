/- StackPlays: agrees, a local that is set. Written by genskw.py. -/
import Derived.Test.YtaphlhcenelkbaaSkX
namespace Go.Proofs.Ytaphlhcenelkbaa
open Go.RowKit Go.Maps

set_option maxRecDepth 100000 in
set_option maxHeartbeats 8000000 in
theorem agr_set {W v : World} {sb xb : Nat} {ps : List PF} (h : Tp W sb xb ps v) (a b : Int) (r : Bool) (n : Int) : Calls Try.prog 9 #[.agg #[.int .i64 7, .int .i64 a, .int .i64 b, .bool r, .int .i64 n], .pointer (some ⟨sb, 0, none⟩), .pointer (some ⟨xb, 0, none⟩)] v fun e w' => e = .returned (.bool true) ∧ ∃ qs, Tp W sb xb qs w' := by
  have T0 : Hid (Tw W sb xb v.heap.size (oB 7 a b r n) ps ps (v.alloc (oB 7 a b r n))) := h.box _
  obtain ⟨x, hx⟩ : ∃ x, seE ps a = x := ⟨_, rfl⟩
  have HA : Hid (∀ w, Tw W sb xb v.heap.size (oB 7 a b r n) ps ps w → Calls Try.prog 18 #[.pointer (some ⟨sb, 0, none⟩), .int .i64 a, .agg #[.bool r, .int .i64 n]] w fun e w' => e = .returned (.int .i64 x) ∧ Tw W sb xb v.heap.size (oB 7 a b r n) (seP a (r, n) ps) ps w') := fun w t => t.A (fun S o => by rw [← hx]; exact one_set o a (r, n))
  have HB : Hid (∀ w, Tw W sb xb v.heap.size (oB 7 a b r n) (seP a (r, n) ps) ps w → Calls Try.prog 29 #[.pointer (some ⟨xb, 0, none⟩), .int .i64 a, .agg #[.bool r, .int .i64 n]] w fun e w' => e = .returned (.int .i64 x) ∧ Tw W sb xb v.heap.size (oB 7 a b r n) (seP a (r, n) ps) (seP a (r, n) ps) w') := fun w t => t.B (fun S o => by rw [← hx]; exact two_set o a (r, n))
  unfold oB at T0
  clear hx h
  go_enter Try.func9, Try.ntmps9
  go_upto_region 21 with fail
  go_region_law (first
    | (refine step_call3 rfl 29 callSeB (.tmp 130) (.tmp 132) (.tmp 134) 26 3 32 rfl (.pointer (some ⟨xb, 0, none⟩)) (.int .i64 a) (.agg #[.bool r, .int .i64 n]) (by first | (simp [Act.eval]; done) | (simp [Act.eval, Act.put]; done)) (by first | (simp [Act.eval]; done) | (simp [Act.eval, Act.put]; done)) (by first | (simp [Act.eval]; done) | (simp [Act.eval, Act.put]; done)) (HB.out _ T1.out) ?_; rintro e w3 ⟨rfl, t2⟩; refine ⟨_, rfl, ?_⟩; have T2 : Hid _ := t2; clear t2)
    | (refine step_call3 rfl 18 callSeA (.tmp 124) (.tmp 126) (.tmp 128) 24 3 32 rfl (.pointer (some ⟨sb, 0, none⟩)) (.int .i64 a) (.agg #[.bool r, .int .i64 n]) (by first | (simp [Act.eval]; done) | (simp [Act.eval, Act.put]; done)) (by first | (simp [Act.eval]; done) | (simp [Act.eval, Act.put]; done)) (by first | (simp [Act.eval]; done) | (simp [Act.eval, Act.put]; done)) (HA.out _ (T0.out.bel (Below.refl _ _).drew)) ?_; rintro e w2 ⟨rfl, t1⟩; refine ⟨_, rfl, ?_⟩; have T1 : Hid (Tw W sb xb v.heap.size (oB 7 a b r n) (seP a (r, n) ps) ps w2) := t1; obtain ⟨y0, y1, y2, y3, y4, yL⟩ := r5d t1.at; clear t1))
  all_goals go_wp2
  all_goals
    go_ret
    exact ⟨ret_bool (by simp), _, Tw.p T2.out⟩
theorem agr_c {W v : World} {sb xb : Nat} {ps : List PF} (h : Tp W sb xb ps v) (kd a b : Int) (r : Bool) (n : Int) : Calls Try.prog 9 #[.agg #[.int .i64 kd, .int .i64 a, .int .i64 b, .bool r, .int .i64 n], .pointer (some ⟨sb, 0, none⟩), .pointer (some ⟨xb, 0, none⟩)] v fun e w' => e = .returned (.bool true) ∧ ∃ qs, Tp W sb xb qs w' := by
  by_cases k1 : kd = 1
  · subst k1; exact agr_ent h a b r n
  by_cases k2 : kd = 2
  · subst k2; exact agr_lev h a b r n
  by_cases k3 : kd = 3
  · subst k3; exact agr_put h a b r n
  by_cases k4 : kd = 4
  · subst k4; exact agr_take h a b r n
  by_cases k5 : kd = 5
  · subst k5; exact agr_peek h a b r n
  by_cases k6 : kd = 6
  · subst k6; exact agr_local h a b r n
  by_cases k7 : kd = 7
  · subst k7; exact agr_set h a b r n
  exact agr_none h kd a b r n k1 k2 k3 k4 k5 k6 k7
end Go.Proofs.Ytaphlhcenelkbaa
