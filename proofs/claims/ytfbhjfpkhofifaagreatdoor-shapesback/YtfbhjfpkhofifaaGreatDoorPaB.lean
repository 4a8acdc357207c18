/- Walks of the library's HasPrefix, CutPrefix, TrimPrefix at any texts; the world stays. -/
import Derived.Test.YtfbhjfpkhofifaaGreatDoorSoA
namespace Go.Proofs.YtfbhjfpkhofifaaGreatDoor
open Go.RowKit

/-- does a text begin with another? -/
def hpB (s p : ByteArray) : Bool := decide (p.size ≤ s.size) && ((s.extract 0 p.size).toList == p.toList)

set_option maxRecDepth 100000 in
set_option maxHeartbeats 400000 in
theorem slHas_any (s p : ByteArray) (w : World) : Calls Tryz.prog 165 #[.string s, .string p] w fun e w' => e = .returned (.bool (hpB s p)) ∧ w' = w := by
  by_cases h : p.size ≤ s.size
  · have HR : Hid (hpB s p = ((s.extract 0 p.size).toList == p.toList)) := by rw [Hid, hpB, decide_eq_true h]; rfl
    have h1 : (p.size : Int) ≤ s.size := by omega
    go_enter Tryz.func165, Tryz.ntmps165
    go_wp2
    go_ret
    exact ⟨ret_bool HR.out.symm, rfl⟩
  · have HR : Hid (hpB s p = false) := by rw [Hid, hpB, decide_eq_false h]; rfl
    have h1 : ¬ (p.size : Int) ≤ s.size := by omega
    go_enter Tryz.func165, Tryz.ntmps165
    go_wp2
    go_ret
    exact ⟨ret_bool HR.out.symm, rfl⟩

set_option maxRecDepth 100000 in
set_option maxHeartbeats 400000 in
theorem has_prefix (s p : ByteArray) (w : World) : Calls Tryz.prog 141 #[.string s, .string p] w fun e w' => e = .returned (.bool (hpB s p)) ∧ w' = w := by
  have H : Hid (∀ w : World, _) := slHas_any s p
  go_enter Tryz.func141, Tryz.ntmps141
  go_wp2_with (go_at_call 165; refine (H.out _).mono ?_; rintro e w1 ⟨rfl, rfl⟩)
  go_ret
  exact ⟨rfl, rfl⟩

theorem hp_le {s p : ByteArray} (h : hpB s p = true) : p.size ≤ s.size := by
  rw [hpB, Bool.and_eq_true, decide_eq_true_eq] at h; exact h.1

set_option maxRecDepth 100000 in
set_option maxHeartbeats 400000 in
theorem slCutP (s p : ByteArray) (w : World) : Calls Tryz.prog 195 #[.string s, .string p] w fun e w' => e = .returned (.tuple #[.string (if hpB s p then s.extract p.size s.size else s), .bool (hpB s p)]) ∧ ∃ n, w' = w.drewN n := by
  have H : Hid (∀ w : World, _) := slHas_any s p
  have hl : hpB s p = true → p.size ≤ s.size := hp_le
  generalize hpB s p = q at *
  cases q with
  | false =>
    go_enter Tryz.func195, Tryz.ntmps195
    go_wp2_with (go_at_call 165; refine (H.out _).mono ?_; rintro e w1 ⟨rfl, rfl⟩)
    go_ret2
    exact ⟨rfl, 0, rfl⟩
  | true =>
    have h1 := hl rfl
    have h2 : (p.size : Int) ≤ s.size := by omega
    clear hl
    go_enter Tryz.func195, Tryz.ntmps195
    go_wp2_with (go_at_call 165; refine (H.out _).mono ?_; rintro e w1 ⟨rfl, rfl⟩)
    all_goals (try go_region)
    all_goals (try go_wp2)
    all_goals go_ret2
    all_goals first
      | exact ⟨rfl, 0, rfl⟩
      | exact ⟨rfl, 1, rfl⟩

set_option maxRecDepth 100000 in
set_option maxHeartbeats 400000 in
theorem slTrimP (s p : ByteArray) (w : World) : Calls Tryz.prog 196 #[.string s, .string p] w fun e w' => e = .returned (.string (if hpB s p then s.extract p.size s.size else s)) ∧ w' = w := by
  have H : Hid (∀ w : World, _) := slHas_any s p
  have hl : hpB s p = true → p.size ≤ s.size := hp_le
  generalize hpB s p = q at *
  cases q with
  | false =>
    go_enter Tryz.func196, Tryz.ntmps196
    go_wp2_with (go_at_call 165; refine (H.out _).mono ?_; rintro e w1 ⟨rfl, rfl⟩)
    go_ret
    exact ⟨rfl, rfl⟩
  | true =>
    have h1 := hl rfl
    have h2 : (p.size : Int) ≤ s.size := by omega
    clear hl
    go_enter Tryz.func196, Tryz.ntmps196
    go_wp2_with (go_at_call 165; refine (H.out _).mono ?_; rintro e w1 ⟨rfl, rfl⟩)
    go_ret
    exact ⟨rfl, rfl⟩

set_option maxRecDepth 100000 in
set_option maxHeartbeats 400000 in
theorem cut_prefix (s p : ByteArray) (w : World) : Calls Tryz.prog 179 #[.string s, .string p] w fun e w' => e = .returned (.tuple #[.string (if hpB s p then s.extract p.size s.size else s), .bool (hpB s p)]) ∧ ∃ n, w' = w.drewN n := by
  have H : Hid (∀ w : World, _) := slCutP s p
  generalize (if hpB s p then s.extract p.size s.size else s) = R at *
  generalize hpB s p = q at *
  go_enter Tryz.func179, Tryz.ntmps179
  go_wp2_with (go_at_call 195; refine (H.out _).mono ?_; rintro e w1 ⟨rfl, n, rfl⟩)
  exact bodyPost_ret (v := .tuple #[.string R, .bool q]) (by simp [results, Tryz.results179, go_sem, *]) rfl ⟨rfl, n, rfl⟩

set_option maxRecDepth 100000 in
set_option maxHeartbeats 400000 in
theorem trim_prefix (s p : ByteArray) (w : World) : Calls Tryz.prog 180 #[.string s, .string p] w fun e w' => e = .returned (.string (if hpB s p then s.extract p.size s.size else s)) ∧ w' = w := by
  have H : Hid (∀ w : World, _) := slTrimP s p
  generalize (if hpB s p then s.extract p.size s.size else s) = R at *
  go_enter Tryz.func180, Tryz.ntmps180
  go_wp2_with (go_at_call 196; refine (H.out _).mono ?_; rintro e w1 ⟨rfl, rfl⟩)
  go_ret
  exact ⟨rfl, rfl⟩

/-- the package's error of a line out of its order is there -/
def OrdIn (w : World) : Prop := 3 < w.heap.size ∧ ∃ tp a, w.cell? ⟨3, 0, none⟩ = some (.iface tp (.pointer a))
/-- cutWord's answer: what stands behind the word, or an error -/
def cwOK (s p : ByteArray) : Bool := hpB s p && ((s.extract p.size s.size).toList.isEmpty || hpB (s.extract p.size s.size) ⟨#[32]⟩)

set_option maxRecDepth 100000 in
set_option maxHeartbeats 1000000 in
theorem cutWord_any (s p : ByteArray) (w : World) (hO : OrdIn w) : Calls Tryz.prog 155 #[.string s, .string p] w fun e w' => (∃ er, e = .returned (.tuple #[.string (if cwOK s p then s.extract p.size s.size else ⟨#[]⟩), er]) ∧ if cwOK s p then er = .nilIface else ∃ tp a, er = .iface tp (.pointer a)) ∧ Below w.heap.size w w' := by
  obtain ⟨h3, tp, a, hc⟩ := hO
  have H : Hid (∀ w : World, _) := cut_prefix s p
  have H2 : Hid (∀ w : World, _) := has_prefix (s.extract p.size s.size) ⟨#[32]⟩
  have HR : Hid (cwOK s p = (hpB s p && ((s.extract p.size s.size).toList.isEmpty || hpB (s.extract p.size s.size) ⟨#[32]⟩))) := rfl
  generalize cwOK s p = z at *
  generalize hpB (s.extract p.size s.size) ⟨#[32]⟩ = q2 at *
  generalize hq : hpB s p = q1 at *
  generalize he : (s.extract p.size s.size).toList.isEmpty = q3 at *
  generalize s.extract p.size s.size = R at *
  clear hq
  have hB : Hid (∀ n, Below w.heap.size w (w.drewN n)) := fun n => ⟨rfl, rfl, rfl, Nat.le_refl _, fun _ _ => rfl⟩
  cases q1 with
  | false =>
    obtain rfl : z = false := by rw [HR.out]; rfl
    go_enter Tryz.func155, Tryz.ntmps155
    go_wp2_with (go_at_call 179; refine (H.out _).mono ?_; rintro e w1 ⟨rfl, n, rfl⟩)
    all_goals (try go_region)
    all_goals (try go_wp2)
    all_goals go_ret2
    all_goals first
      | exact ⟨⟨_, rfl, tp, a, rfl⟩, hB.out _⟩
      | exact ⟨⟨_, rfl, tp, a, rfl⟩, (hB.out n).drew⟩
  | true =>
    cases q3 with
    | true =>
      obtain rfl : z = true := by rw [HR.out]; rfl
      go_enter Tryz.func155, Tryz.ntmps155
      go_wp2_with (go_at_call 179; refine (H.out _).mono ?_; rintro e w1 ⟨rfl, n, rfl⟩)
      go_ret2
      first | exact ⟨⟨_, rfl, rfl⟩, hB.out n⟩ | exact ⟨rfl, hB.out n⟩
    | false =>
      cases q2 with
      | true =>
        obtain rfl : z = true := by rw [HR.out]; rfl
        go_enter Tryz.func155, Tryz.ntmps155
        go_wp2_with (first | (go_at_call 179; refine (H.out _).mono ?_; rintro e w1 ⟨rfl, n, rfl⟩) | (go_at_call 141; refine (H2.out _).mono ?_; rintro e w2 ⟨rfl, hw2⟩; rw [hw2]))
        go_ret2
        first | exact ⟨⟨_, rfl, rfl⟩, hB.out n⟩ | exact ⟨rfl, hB.out n⟩
      | false =>
        obtain rfl : z = false := by rw [HR.out]; rfl
        go_enter Tryz.func155, Tryz.ntmps155
        go_wp2_with (first | (go_at_call 179; refine (H.out _).mono ?_; rintro e w1 ⟨rfl, n, rfl⟩) | (go_at_call 141; refine (H2.out _).mono ?_; rintro e w2 ⟨rfl, hw2⟩; rw [hw2]))
        all_goals (try go_region)
        all_goals (try go_wp2)
        all_goals go_ret2
        all_goals first
          | exact ⟨⟨_, rfl, tp, a, rfl⟩, hB.out _⟩
          | exact ⟨⟨_, rfl, tp, a, rfl⟩, (hB.out n).drew⟩
end Go.Proofs.YtfbhjfpkhofifaaGreatDoor
