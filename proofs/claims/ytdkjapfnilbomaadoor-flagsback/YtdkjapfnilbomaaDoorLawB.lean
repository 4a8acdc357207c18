/- The walk of the law FlagsBack: it answers true where the package's variable holds its words. -/
import Derived.Test.YtdkjapfnilbomaaDoorReadF
namespace Go.Proofs.YtdkjapfnilbomaaDoor
open Go.RowKit

theorem only_range {f : Int} {ps : List (Int × List UInt8)} (hb : ∀ x ∈ flagsOf ps, 0 ≤ x ∧ x ≤ 2048) (hl : ps.length ≤ 100) (h : onlyB f ps = true) : -9223372036854775808 ≤ f ∧ f ≤ 9223372036854775807 := by
  unfold onlyB at h
  have e := of_decide_eq_true h
  have := known_bounds f (flagsOf ps) hb
  rw [e] at this
  simp only [flagsOf, List.length_map] at this
  omega

/-- flags written and read: either words that read as these flags, or none -/
theorem there {f : Int} {ps : List (Int × List UInt8)} (g : Good ps) :
    (textE f ps = 0 ∧ parF ps (textF f ps) = f ∧ parX ps (textF f ps) = 0) ∨ (textE f ps = 1 ∧ onlyB f ps = false) := by
  cases ho : onlyB f ps with
  | false => exact .inr ⟨by rw [textE, ho]; rfl, rfl⟩
  | true =>
    have := read_text g ho
    exact .inl ⟨by rw [textE, ho]; rfl, by rw [parF, this]; rfl, by rw [parX, this]; rfl⟩
/-- words read and written: either flags that write these words, or none -/
theorem back {s : List UInt8} {ps : List (Int × List UInt8)} (g : Good ps) :
    (parX ps s = 0 ∧ onlyB (parF ps s) ps = true ∧ textF (parF ps s) ps = s ∧ textE (parF ps s) ps = 0) ∨ (parX ps s = 4 ∧ parF ps s = 0) := by
  cases hr : readF ps s with
  | none => exact .inr ⟨by rw [parX, hr]; rfl, by rw [parF, hr]; rfl⟩
  | some f =>
    obtain ⟨h1, h2⟩ := text_read g hr
    have e : parF ps s = f := by rw [parF, hr]; rfl
    rw [e]
    exact .inl ⟨by rw [parX, hr]; rfl, h1, h2, by rw [textE, h1]; rfl⟩

set_option maxRecDepth 10000 in
set_option maxHeartbeats 4000000 in
/-- the walk, over plain functions: what writes and what reads either kind of words -/
theorem back_walk (f : Int) (iface : Bool) (nm s : ByteArray) (w : World) (c m : Int) (tf1 tf2 : Int → ByteArray) (te1 te2 : Int → Int) (pf1 pf2 px1 px2 : ByteArray → Int)
    (HA : Hid (Calls Tryd.prog 7 #[] w fun e w' => e = .returned (.bool true) ∧ Below w.heap.size w w'))
    (HC : Hid (∀ w : World, Calls Tryd.prog 8 #[.int .i64 f] w fun e w' => e = .returned (.int .i64 c) ∧ w' = w))
    (HM : Hid (∀ w : World, Calls Tryd.prog 10 #[.int .i64 f, .bool iface, .string nm] w fun e w' => e = .returned (.int .i64 m) ∧ w' = w))
    (HT1 : Hid (∀ (x : Int) (w1 : World), x = f ∨ x = pf1 s → Below w.heap.size w w1 → Calls Tryd.prog 14 #[.int .i64 x] w1 fun e w' => e = .returned (.tuple #[.string (tf1 x), .int .i64 (te1 x)]) ∧ Below w1.heap.size w1 w'))
    (HT2 : Hid (∀ (x : Int) (w1 : World), x = f ∨ x = pf2 s → Below w.heap.size w w1 → Calls Tryd.prog 16 #[.int .i64 x] w1 fun e w' => e = .returned (.tuple #[.string (tf2 x), .int .i64 (te2 x)]) ∧ Below w1.heap.size w1 w'))
    (HP1 : Hid (∀ (b : ByteArray) (w1 : World), b = tf1 f ∨ b = s → Below w.heap.size w w1 → Calls Tryd.prog 18 #[.string b] w1 fun e w' => e = .returned (.tuple #[.int .i64 (pf1 b), .int .i64 (px1 b)]) ∧ Below w1.heap.size w1 w'))
    (HP2 : Hid (∀ (b : ByteArray) (w1 : World), b = tf2 f ∨ b = s → Below w.heap.size w w1 → Calls Tryd.prog 20 #[.string b] w1 fun e w' => e = .returned (.tuple #[.int .i64 (pf2 b), .int .i64 (px2 b)]) ∧ Below w1.heap.size w1 w'))
    (F1 : (te1 f = 0 ∧ pf1 (tf1 f) = f ∧ px1 (tf1 f) = 0) ∨ (te1 f = 1 ∧ c = 1)) (F2 : (te2 f = 0 ∧ pf2 (tf2 f) = f ∧ px2 (tf2 f) = 0) ∨ (te2 f = 1 ∧ m = 1))
    (B1 : (px1 s = 0 ∧ tf1 (pf1 s) = s ∧ te1 (pf1 s) = 0) ∨ (px1 s = 4 ∧ pf1 s = 0)) (B2 : (px2 s = 0 ∧ tf2 (pf2 s) = s ∧ te2 (pf2 s) = 0) ∨ (px2 s = 4 ∧ pf2 s = 0)) :
    Calls Tryd.prog 5 #[.int .i64 f, .bool iface, .string nm, .string s] w fun e w' => e = .returned (.bool true) ∧ Below w.heap.size w w' := by
  rcases F1 with ⟨a1, a2, a3⟩ | ⟨a1, rfl⟩ <;> rcases F2 with ⟨b1, b2, b3⟩ | ⟨b1, rfl⟩ <;> rcases B1 with ⟨c1, c2, c3⟩ | ⟨c1, c2⟩ <;> rcases B2 with ⟨d1, d2, d3⟩ | ⟨d1, d2⟩ <;>
  · go_enter Tryd.func5, Tryd.ntmps5
    go_wp2_with (first
      | (go_at_call 7; refine HA.out.mono ?_; rintro e w1 ⟨rfl, hb⟩)
      | (go_at_call 8; refine (HC.out _).mono ?_; rintro e w2 ⟨rfl, he⟩; subst w2)
      | (go_at_call 10; refine (HM.out _).mono ?_; rintro e w2 ⟨rfl, he⟩; subst w2)
      | (go_at_call 14; refine (HT1.out _ _ (by first | exact .inl rfl | exact .inr rfl) hb).mono ?_; rintro e w2 ⟨rfl, hb2⟩; replace hb := Below.step hb hb2; clear hb2)
      | (go_at_call 16; refine (HT2.out _ _ (by first | exact .inl rfl | exact .inr rfl) hb).mono ?_; rintro e w2 ⟨rfl, hb2⟩; replace hb := Below.step hb hb2; clear hb2)
      | (go_at_call 18; refine (HP1.out _ _ (by first | exact .inl rfl | exact .inr rfl) hb).mono ?_; rintro e w2 ⟨rfl, hb2⟩; replace hb := Below.step hb hb2; clear hb2)
      | (go_at_call 20; refine (HP2.out _ _ (by first | exact .inl rfl | exact .inr rfl) hb).mono ?_; rintro e w2 ⟨rfl, hb2⟩; replace hb := Below.step hb hb2; clear hb2))
    all_goals go_ret
    all_goals exact ⟨ret_bool (by first | rfl | simp), hb⟩
end Go.Proofs.YtdkjapfnilbomaaDoor
