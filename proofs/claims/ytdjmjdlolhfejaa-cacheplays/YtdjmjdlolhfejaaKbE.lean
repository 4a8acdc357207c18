/- The document's cache: Put of a new key: its set has room (rput_fit), or the last of the set goes (rput_cut). (Written by genkbe.py.) -/
import Derived.Test.YtdjmjdlolhfejaaKbQ
import Derived.Deep.DeepCutAuto
import Derived.Deep.RegionLaw
namespace Go.Proofs.Ytdjmjdlolhfejaa
open Go.RowKit Go.Maps

set_option maxRecDepth 100000 in
set_option maxHeartbeats 8000000 in
theorem rput_fit_w {W : World} {r cap n Z : Nat} {L' : List (Int × Int)} {h m : Int} (f : Int → Nat) (key value : Int) (hz : ¬ ((cap : Int) = 0)) (hn9 : n ≤ 100) (HN : Hid (L'.length = n))
    (HP : Hid (Calls Try.prog 32 #[.pointer (some ⟨r, 0, none⟩), .int .i64 key] W fun e w' => e = .returned (.int .i64 (-1)) ∧ w' = W))
    (HC : Hid (Calls Try.prog 33 #[.pointer (some ⟨r, 0, none⟩), .int .i64 (-1), .int .i64 key, .int .i64 value] W fun e w' => e = .returned (.tuple #[]) ∧ (∃ kv' vv', RcAt w' r cap kv' vv' L' h m) ∧ Tch (fun k => k = r) W w'))
    (c0 : W.cell? ⟨r, 0, none⟩ = some (.int .i64 cap))
    (HS : Hid (∀ w kv vv x, RcAt w r cap kv vv L' h m → Calls Try.prog 34 #[.pointer (some ⟨r, 0, none⟩), .int .i64 x] w fun e w' => e = .returned (.int .i64 (f x)) ∧ w' = w))
    (HR : Hid (∀ w kv vv, RcAt w r cap kv vv L' h m → Calls Try.prog 35 #[.pointer (some ⟨r, 0, none⟩), .int .i64 (f key)] w fun e w' => e = .returned (.int .i64 Z) ∧ w' = w))
    (FT : Hid (cnF f (f key) L' ≤ Z)) :
    Calls Try.prog 19 #[.pointer (some ⟨r, 0, none⟩), .int .i64 key, .int .i64 value] W fun e w' => e = .returned (.tuple #[.int .i64 0, .int .i64 0, .bool false]) ∧ (∃ kv' vv', RcAt w' r cap kv' vv' L' h m) ∧ Tch (fun k => k = r) W w' := by
  have CL : Hid (cnF f (f key) L' ≤ n) := by rw [Hid, ← HN.out]; exact cnF_le _ _ _
  go_enter Try.func19, Try.ntmps19
  go_wp2_with (first
    | (go_at_call 32; refine HP.out.mono ?_; rintro e w' ⟨rfl, hwq⟩; obtain rfl := hwq.symm; clear HP)
    | (go_at_call 33; refine HC.out.mono ?_; rintro e w2 ⟨rfl, ⟨kv', vv', hk2⟩, ht2⟩; clear HC))
  have HH : Hid (RcAt w2 r cap kv' vv' L' h m) := hk2
  have TT : Hid (Tch (fun k => k = r) W w2) := ht2
  have d1 := hk2.cells.2.1
  have hks := hk2.ks
  rw [HN.out] at hks
  obtain ⟨ka, kc, rfl⟩ := ownv hks
  have HK : Hid (w2.ownsRow 0 3 1 (.slice ka n kc) n (intC (L'.map Prod.fst))) := hks
  have S2 : Hid (∀ x, Calls Try.prog 34 #[.pointer (some ⟨r, 0, none⟩), .int .i64 x] w2 fun e w' => e = .returned (.int .i64 (f x)) ∧ w' = w2) := fun x => HS.out _ _ _ x hk2
  have S3 : Hid (Calls Try.prog 35 #[.pointer (some ⟨r, 0, none⟩), .int .i64 (f key)] w2 fun e w' => e = .returned (.int .i64 Z) ∧ w' = w2) := HR.out _ _ _ hk2
  clear hk2 hks ht2 HS HR c0
  go_loopw [10, 11, 12] (fun nv lv iv wr => ∃ i c a : Nat, iv = .int .i64 i ∧ i ≤ n ∧ nv = .int .i64 c ∧ lv = .int .i64 a ∧ wr = w2 ∧ c ≤ i ∧ a ≤ n ∧ Hid (c + cnF f (f key) (L'.drop i) = cnF f (f key) L') ∧ Hid (laF f (f key) (L'.drop i) i a = laF f (f key) L' 0 0)) (fun _ _ iv _ => n - (intOf iv).toNat)
  case atStart => exact ⟨0, 0, 0, rfl, Nat.zero_le _, rfl, rfl, rfl, Nat.le_refl _, Nat.zero_le _, (by rw [Hid]; simp), (by rw [Hid]; rfl)⟩
  case round =>
    obtain ⟨i, c, a, rfl, hi, rfl, rfl, rfl, hc, ha, hp, hq⟩ := hrel
    by_cases hlt : i < n
    · obtain ⟨⟨x1, x2⟩, hx⟩ : ∃ x, L'[i]? = some x := ⟨_, List.getElem?_eq_getElem (by rw [HN.out]; exact hlt)⟩
      obtain ⟨g, rfl⟩ : ∃ g, ka = some ⟨g, 0, none⟩ := by
        rcases HK.out.2 with ⟨_, e⟩ | ⟨g, c, cur, e, _⟩
        · omega
        · cases e; exact ⟨g, rfl⟩
      have y : wr.cell? ⟨g, i, none⟩ = some (.int .i64 x1) := (HK.out.cellAt i (by omega)).trans (by simp [intC, hx])
      have q := cnF_at (f := f) (j := f key) hx
      have q2 := laF_at (f := f) (j := f key) (a := a) hx
      by_cases e : f x1 = f key
      · have HZ : Hid (c + 1 + cnF f (f key) (L'.drop (i + 1)) = cnF f (f key) L') := by rw [Hid, ← hp.out, q, if_pos e]; omega
        have HY : Hid (laF f (f key) (L'.drop (i + 1)) (i + 1) i = laF f (f key) L' 0 0) := by rw [Hid, ← hq.out, q2, if_pos e]
        have e2 : ((f x1 : Int) = (f key : Int)) := by omega
        clear hp hq q q2 hx FT CL e S3
        go_wp2_with (go_at_call 34; refine (S2.out _).mono ?_; rintro e w' ⟨rfl, hwq⟩; obtain rfl := hwq.symm)
        go_roundw
        case rel => exact ⟨i + 1, c + 1, i, by go_num, by omega, by go_num, rfl, by first | rfl | trivial, by omega, by omega, HZ, HY⟩
        case measure => simp [intOf]; omega
      · have HZ : Hid (c + cnF f (f key) (L'.drop (i + 1)) = cnF f (f key) L') := by rw [Hid, ← hp.out, q, if_neg e]; omega
        have HY : Hid (laF f (f key) (L'.drop (i + 1)) (i + 1) a = laF f (f key) L' 0 0) := by rw [Hid, ← hq.out, q2, if_neg e]
        have e2 : ¬ ((f x1 : Int) = (f key : Int)) := by omega
        clear hp hq q q2 hx FT CL e S3
        go_wp2_with (go_at_call 34; refine (S2.out _).mono ?_; rintro e w' ⟨rfl, hwq⟩; obtain rfl := hwq.symm)
        go_roundw
        case rel => exact ⟨i + 1, c, a, by go_num, by omega, rfl, rfl, by first | rfl | trivial, by omega, by omega, HZ, HY⟩
        case measure => simp [intOf]; omega
    · obtain rfl : i = n := by omega
      have ed : L'.drop i = [] := List.drop_eq_nil_of_le (by rw [HN.out]; exact Nat.le_refl _)
      have ec : c = cnF f (f key) L' := by have := hp.out; rw [ed] at this; simpa [cnF] using this
      have hle : (c : Int) ≤ (Z : Int) := by rw [ec]; exact_mod_cast FT.out
      clear ec ed hp hq FT CL
      go_wp2_with (first
        | (go_at_call 34; refine (S2.out _).mono ?_; rintro e w' ⟨rfl, hwq⟩; obtain rfl := hwq.symm)
        | (go_at_call 35; refine S3.out.mono ?_; rintro e w' ⟨rfl, hwq⟩; obtain rfl := hwq.symm))
      go_ret3
      exact ⟨rfl, ⟨_, _, HH.out⟩, TT.out⟩
end Go.Proofs.Ytdjmjdlolhfejaa
