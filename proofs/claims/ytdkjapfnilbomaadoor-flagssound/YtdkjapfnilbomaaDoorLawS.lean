/- The walk of the law FlagsSound: it answers true where the package's variable holds its words. -/
import Derived.Test.YtdkjapfnilbomaaDoorOwnC
namespace Go.Proofs.YtdkjapfnilbomaaDoor
open Go.RowKit

set_option maxHeartbeats 4000000 in
theorem FlagsSound_any (f : Int) (hf : -9223372036854775808 ≤ f ∧ f ≤ 9223372036854775807) (nm : ByteArray) (w : World) (h : WordsIn w) :
    Calls Tryd.prog 6 #[.int .i64 f, .string nm] w fun e w' => e = .returned (.bool true) ∧ Below w.heap.size w w' := by
  have HA : Hid (Calls Tryd.prog 7 _ w _) := awake_any w h
  have HC : Hid (∀ w : World, _) := CheckClass_any f hf
  have HM : Hid (∀ (i : Bool) (w : World), Calls Tryd.prog 10 #[.int .i64 f, .bool i, .string nm] w fun e w' => e = .returned (.int .i64 (cond i (chkM f true (nm.toList == [60, 105, 110, 105, 116, 62])) (chkM f false (nm.toList == [60, 105, 110, 105, 116, 62])))) ∧ w' = w) := fun i w => by
    cases i
    · exact CheckMethod_any f hf false nm w
    · exact CheckMethod_any f hf true nm w
  have HO : Hid (∀ w : World, _) := Open_any f
  have H1 : Hid (chkC f = 0 → bits .and .i64 f 512 ≠ 0 → bits .and .i64 f 1024 ≠ 0) := by
    intro h1 h2
    have := sound_class h1 (by simpa [hasI] using h2)
    simpa [hasI] using this
  generalize hini : (nm.toList == [60, 105, 110, 105, 116, 62]) = ini at *
  have H2 : Hid ((chkM f true ini = 0 ∧ chkM f false ini = 0 ∧ bits .and .i64 f 3 ≠ 0 ∧ ini = false ∧ bits .and .i64 f 7 = openI f ∧ (bits .and .i64 f 1024 = 0 ∨ bits .and .i64 f 10 = 0)) ∨
      (chkM f true ini = 1 ∧ chkM f false ini = 0 ∧ bits .and .i64 f 7 = openI f ∧ (bits .and .i64 f 1024 = 0 ∨ bits .and .i64 f 10 = 0)) ∨ (chkM f true ini = 1 ∧ chkM f false ini = 1)) := by
    have so := @sound_open f ini
    simp only [hasI, bne_eq_false_iff_eq] at so
    rcases chkM_cases f true ini with ht | ht
    · obtain ⟨a, b, c⟩ := sound_iface ht
      simp only [hasI, bne_iff_ne] at b
      exact .inl ⟨ht, a, b, c, so a⟩
    · rcases chkM_cases f false ini with hg | hg
      · exact .inr (.inl ⟨ht, hg, so hg⟩)
      · exact .inr (.inr ⟨ht, hg⟩)
  have H3 : Hid (chkC f = 0 ∨ chkC f = 1) := chkC_cases f
  clear h hf
  generalize chkC f = c at *
  generalize chkM f true ini = mt at *
  generalize chkM f false ini = mf at *
  generalize openI f = o at *
  generalize e512 : bits .and .i64 f 512 = x512 at *
  generalize e1024 : bits .and .i64 f 1024 = x1024 at *
  generalize e3 : bits .and .i64 f 3 = x3 at *
  generalize e7 : bits .and .i64 f 7 = x7 at *
  generalize e10 : bits .and .i64 f 10 = x10 at *
  rcases H3.out with rfl | rfl
  · have h1 := H1.out rfl
    clear H1 H3
    rcases H2.out with ⟨rfl, rfl, h3, rfl, rfl, h10⟩ | ⟨rfl, rfl, rfl, h10⟩ | ⟨rfl, rfl⟩
    · clear H2
      go_enter Tryd.func6, Tryd.ntmps6
      go_wp2_with (first
      | (go_at_call 7; refine HA.out.mono ?_; rintro e w1 ⟨rfl, hb⟩)
      | (go_at_call 8; refine (HC.out _).mono ?_; rintro e w2 ⟨rfl, rfl⟩)
      | (go_at_call 10; refine (HM.out _ _).mono ?_; rintro e w2 ⟨rfl, rfl⟩; simp only [cond_true, cond_false])
      | (go_at_call 12; refine (HO.out _).mono ?_; rintro e w2 ⟨rfl, rfl⟩))
      all_goals go_ret
      all_goals first | exact ⟨rfl, hb⟩ | (refine ⟨ret_bool ?_, hb⟩; simp_all; done) | (exfalso; simp_all; done) | (exfalso; omega) | trace_state
    · clear H2
      go_enter Tryd.func6, Tryd.ntmps6
      go_wp2_with (first
      | (go_at_call 7; refine HA.out.mono ?_; rintro e w1 ⟨rfl, hb⟩)
      | (go_at_call 8; refine (HC.out _).mono ?_; rintro e w2 ⟨rfl, rfl⟩)
      | (go_at_call 10; refine (HM.out _ _).mono ?_; rintro e w2 ⟨rfl, rfl⟩; simp only [cond_true, cond_false])
      | (go_at_call 12; refine (HO.out _).mono ?_; rintro e w2 ⟨rfl, rfl⟩))
      all_goals go_ret
      all_goals first | exact ⟨rfl, hb⟩ | (refine ⟨ret_bool ?_, hb⟩; simp_all; done) | (exfalso; simp_all; done) | (exfalso; omega) | trace_state
    · clear H2
      go_enter Tryd.func6, Tryd.ntmps6
      go_wp2_with (first
      | (go_at_call 7; refine HA.out.mono ?_; rintro e w1 ⟨rfl, hb⟩)
      | (go_at_call 8; refine (HC.out _).mono ?_; rintro e w2 ⟨rfl, rfl⟩)
      | (go_at_call 10; refine (HM.out _ _).mono ?_; rintro e w2 ⟨rfl, rfl⟩; simp only [cond_true, cond_false])
      | (go_at_call 12; refine (HO.out _).mono ?_; rintro e w2 ⟨rfl, rfl⟩))
      all_goals go_ret
      all_goals first | exact ⟨rfl, hb⟩ | (refine ⟨ret_bool ?_, hb⟩; simp_all; done) | (exfalso; simp_all; done) | (exfalso; omega) | trace_state
  · clear H1 H3
    rcases H2.out with ⟨rfl, rfl, h3, rfl, rfl, h10⟩ | ⟨rfl, rfl, rfl, h10⟩ | ⟨rfl, rfl⟩
    · clear H2
      go_enter Tryd.func6, Tryd.ntmps6
      go_wp2_with (first
      | (go_at_call 7; refine HA.out.mono ?_; rintro e w1 ⟨rfl, hb⟩)
      | (go_at_call 8; refine (HC.out _).mono ?_; rintro e w2 ⟨rfl, rfl⟩)
      | (go_at_call 10; refine (HM.out _ _).mono ?_; rintro e w2 ⟨rfl, rfl⟩; simp only [cond_true, cond_false])
      | (go_at_call 12; refine (HO.out _).mono ?_; rintro e w2 ⟨rfl, rfl⟩))
      all_goals go_ret
      all_goals first | exact ⟨rfl, hb⟩ | (refine ⟨ret_bool ?_, hb⟩; simp_all; done) | (exfalso; simp_all; done) | (exfalso; omega) | trace_state
    · clear H2
      go_enter Tryd.func6, Tryd.ntmps6
      go_wp2_with (first
      | (go_at_call 7; refine HA.out.mono ?_; rintro e w1 ⟨rfl, hb⟩)
      | (go_at_call 8; refine (HC.out _).mono ?_; rintro e w2 ⟨rfl, rfl⟩)
      | (go_at_call 10; refine (HM.out _ _).mono ?_; rintro e w2 ⟨rfl, rfl⟩; simp only [cond_true, cond_false])
      | (go_at_call 12; refine (HO.out _).mono ?_; rintro e w2 ⟨rfl, rfl⟩))
      all_goals go_ret
      all_goals first | exact ⟨rfl, hb⟩ | (refine ⟨ret_bool ?_, hb⟩; simp_all; done) | (exfalso; simp_all; done) | (exfalso; omega) | trace_state
    · clear H2
      go_enter Tryd.func6, Tryd.ntmps6
      go_wp2_with (first
      | (go_at_call 7; refine HA.out.mono ?_; rintro e w1 ⟨rfl, hb⟩)
      | (go_at_call 8; refine (HC.out _).mono ?_; rintro e w2 ⟨rfl, rfl⟩)
      | (go_at_call 10; refine (HM.out _ _).mono ?_; rintro e w2 ⟨rfl, rfl⟩; simp only [cond_true, cond_false])
      | (go_at_call 12; refine (HO.out _).mono ?_; rintro e w2 ⟨rfl, rfl⟩))
      all_goals go_ret
      all_goals first | exact ⟨rfl, hb⟩ | (refine ⟨ret_bool ?_, hb⟩; simp_all; done) | (exfalso; simp_all; done) | (exfalso; omega) | trace_state
end Go.Proofs.YtdkjapfnilbomaaDoor
