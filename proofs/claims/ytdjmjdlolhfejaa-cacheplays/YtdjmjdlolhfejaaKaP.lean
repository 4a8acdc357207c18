/- Package cache: New; a nil cache; awake; CacheNil. -/
import Derived.Test.YtdjmjdlolhfejaaKaO
namespace Go.Proofs.Ytdjmjdlolhfejaa
open Go.RowKit Go.Maps

set_option maxRecDepth 100000 in
theorem nstore_c (cap : Nat) (h64 : cap ≤ 64) (W : World) :
    Calls Try.prog 17 #[.int .i64 (cap : Int)] W fun e w' => ∃ K : Sk, e = .returned K.v ∧ K.at w' W.heap.size cap (List.replicate ((cap + 1) / 2) []) ∧ Tch (fun _ => False) W w' := by
  match cap, h64 with
  | 0, _ =>
    go_enter Try.func17, Try.ntmps17
    go_wp2
    go_ret
    exact ⟨.no, rfl, ⟨rfl, rfl⟩, Tch.refl _ _⟩
  | 1, _ =>
    go_enter Try.func17, Try.ntmps17
    go_wp2
    go_ret
    exact ⟨.one W.heap.size, rfl, ⟨rfl, [], rfl, Nat.le_refl _, none, halloc1 _ _, .inl ⟨rfl, rfl⟩⟩, (Tch.refl _ _).alloc _⟩
  | c + 2, h64 =>
    have HN : Hid (Calls Try.prog 31 #[.int .i64 ((c + 2 : Nat) : Int)] W fun e w' => e = .returned (.pointer (some ⟨W.heap.size + 1, 0, none⟩)) ∧ SetsAt w' W.heap.size (W.heap.size + 1) W.heap.size (c + 2) 0 (List.replicate ((c + 2 + 1) / 2) (.slice none 0 0)) (List.replicate ((c + 2 + 1) / 2) []) ∧ Tch (fun _ => False) W w') := nsets_c (c + 2) (by omega) h64 W
    obtain ⟨k, hk⟩ : ∃ k, c + 2 = k := ⟨_, rfl⟩
    rw [hk] at HN ⊢
    have h0 : ¬ ((k : Int) = 0) := by omega
    have h1 : ¬ ((k : Int) = 1) := by omega
    clear hk
    go_enter Try.func17, Try.ntmps17
    go_wp2_with (go_at_call 31; refine HN.out.mono ?_; rintro e w1 ⟨rfl, hs, ht⟩; have S1 : Hid (SetsAt w1 W.heap.size (W.heap.size + 1) W.heap.size k 0 (List.replicate ((k + 1) / 2) (.slice none 0 0)) (List.replicate ((k + 1) / 2) [])) := hs; have T1 : Hid (Tch (fun _ => False) W w1) := ht; clear hs ht HN)
    go_ret
    exact ⟨.many (W.heap.size + 1) W.heap.size, rfl, ⟨_, S1.out⟩, T1.out⟩
set_option maxRecDepth 100000 in
theorem cnew_c (cap : Nat) (h64 : cap ≤ 64) (W : World) :
    Calls Try.prog 8 #[.int .i64 (cap : Int)] W fun e w' => ∃ p, e = .returned (.tuple #[.pointer (some ⟨p, 0, none⟩), .int .i64 0]) ∧ (∃ K, CaK w' W.heap.size p K cap (List.replicate ((cap + 1) / 2) []) 0 0 0 0) ∧ Tch (fun _ => False) W w' := by
  have HN : Hid (Calls Try.prog 17 #[.int .i64 (cap : Int)] W fun e w' => ∃ K : Sk, e = .returned K.v ∧ K.at w' W.heap.size cap (List.replicate ((cap + 1) / 2) []) ∧ Tch (fun _ => False) W w') := nstore_c cap h64 W
  have h0 : ¬ ((cap : Int) < 0) := by omega
  have h1 : ¬ ((64 : Int) < cap) := by omega
  go_enter Try.func8, Try.ntmps8
  go_wp2_with (go_at_call 17; refine HN.out.mono ?_; rintro e w1 ⟨K, rfl, hs, ht⟩; have S1 : Hid (K.at w1 W.heap.size cap (List.replicate ((cap + 1) / 2) [])) := hs; have T1 : Hid (Tch (fun _ => False) W w1) := ht; have hz : Hid (W.heap.size ≤ w1.heap.size) := ht.size; clear hs ht HN; cases K using Sk.elim <;> simp only [Sk.v])
  all_goals go_ret2
  · exact ⟨w1.heap.size, rfl, ⟨.no, hz.out, halloc1 _ _, Sk.tch S1.out ((Tch.refl _ _).alloc _)⟩, T1.out.alloc _⟩
  · exact ⟨w1.heap.size, rfl, ⟨.one _, hz.out, halloc1 _ _, Sk.tch S1.out ((Tch.refl _ _).alloc _)⟩, T1.out.alloc _⟩
  · exact ⟨w1.heap.size, rfl, ⟨.many _ _, hz.out, halloc1 _ _, Sk.tch S1.out ((Tch.refl _ _).alloc _)⟩, T1.out.alloc _⟩
set_option maxRecDepth 100000 in
theorem cnew_no (c : Int) (h : c < 0 ∨ 64 < c) (W : World) :
    Calls Try.prog 8 #[.int .i64 c] W fun e w' => e = .returned (.tuple #[.pointer none, .int .i64 7]) ∧ w' = W := by
  go_enter Try.func8, Try.ntmps8
  by_cases g1 : c < 0
  · go_wp2
    go_ret2
    exact ⟨rfl, rfl⟩
  · have g2 : (64 : Int) < c := by omega
    go_wp2
    go_ret2
    exact ⟨rfl, rfl⟩
set_option maxRecDepth 100000 in
theorem cget_nil (k : Int) (W : World) : Calls Try.prog 14 #[.pointer none, .int .i64 k] W fun e w' => e = .returned (.tuple #[.int .i64 0, .bool false]) ∧ w' = W := by
  have HM := made_nil W
  go_enter_defers Try.func14, Try.ntmps14
  go_wp2_with (go_at_call 24; refine HM.mono ?_; rintro e w' ⟨rfl, rfl⟩)
  exact ⟨_, results_tmp2 rfl _ _ _, rfl, rfl⟩
set_option maxRecDepth 100000 in
theorem cput_nil (k v : Int) (W : World) : Calls Try.prog 11 #[.pointer none, .int .i64 k, .int .i64 v] W fun e w' => e = .returned (.tuple #[.int .i64 0, .int .i64 0, .bool false]) ∧ w' = W := by
  have HM := made_nil W
  go_enter Try.func11, Try.ntmps11
  go_wp2_with (go_at_call 24; refine HM.mono ?_; rintro e w' ⟨rfl, rfl⟩)
  go_ret3
  exact ⟨rfl, rfl⟩
set_option maxRecDepth 100000 in
theorem ckeys_nil (W : World) : Calls Try.prog 13 #[.pointer none] W fun e w' => e = .returned (.slice none 0 0) ∧ w' = W := by
  have HM := made_nil W
  go_enter Try.func13, Try.ntmps13
  go_wp2_with (go_at_call 24; refine HM.mono ?_; rintro e w' ⟨rfl, rfl⟩)
  go_ret
  exact ⟨rfl, rfl⟩
set_option maxRecDepth 100000 in
theorem clen_nil (W : World) : Calls Try.prog 12 #[.pointer none] W fun e w' => e = .returned (.int .i64 0) ∧ w' = W := by
  have HM := ckeys_nil W
  go_enter Try.func12, Try.ntmps12
  go_wp2_with (go_at_call 13; refine HM.mono ?_; rintro e w' ⟨rfl, rfl⟩)
  go_ret
  exact ⟨rfl, rfl⟩
set_option maxRecDepth 100000 in
theorem chits_nil (W : World) : Calls Try.prog 15 #[.pointer none] W fun e w' => e = .returned (.tuple #[.int .i64 0, .int .i64 0]) ∧ w' = W := by
  have HM := made_nil W
  go_enter_defers Try.func15, Try.ntmps15
  go_wp2_with (go_at_call 24; refine HM.mono ?_; rintro e w' ⟨rfl, rfl⟩)
  exact ⟨_, results_tmp2 rfl _ _ _, rfl, rfl⟩
set_option maxRecDepth 100000 in
theorem cclear_nil (W : World) : Calls Try.prog 16 #[.pointer none] W fun e w' => e = .returned (.tuple #[]) ∧ w' = W := by
  have HM := made_nil W
  go_enter Try.func16, Try.ntmps16
  go_wp2_with (go_at_call 24; refine HM.mono ?_; rintro e w' ⟨rfl, rfl⟩)
  exact bodyPost_end (results_none rfl _ _ _) rfl ⟨rfl, rfl⟩
/-- what is turned behind calls of caches made behind W -/
theorem TC.step {W w w' : World} {N : Nat} (h : Tch (fun _ => False) W w) (hN : W.heap.size ≤ N) (k : TC N w w') : Tch (fun _ => False) W w' :=
  h.trans k (fun i hi ⟨h1, _⟩ => by omega)
theorem Tch.bel0 {W w : World} (h : Tch (fun _ => False) W w) : Below W.heap.size W w := h.below (Nat.le_refl _) (fun _ x => x.elim)
set_option maxRecDepth 100000 in
set_option maxHeartbeats 4000000 in
theorem awake_c (W : World) : Calls Try.prog 7 #[] W fun e w' => e = .returned (.bool true) ∧ Tch (fun _ => False) W w' := by
  have HN : Hid (Calls Try.prog 8 #[.int .i64 1] W fun e w' => ∃ p, e = .returned (.tuple #[.pointer (some ⟨p, 0, none⟩), .int .i64 0]) ∧ (∃ K, CaK w' W.heap.size p K 1 [[]] 0 0 0 0) ∧ Tch (fun _ => False) W w') := cnew_c 1 (by omega) W
  have HP : Hid (∀ w p K, CaK w W.heap.size p K 1 [[]] 0 0 0 0 → Calls Try.prog 11 #[.pointer (some ⟨p, 0, none⟩), .int .i64 5, .int .i64 50] w fun e w' => e = .returned (.tuple #[.int .i64 0, .int .i64 0, .bool false]) ∧ CaK w' W.heap.size p K 1 [[(5, 50)]] 0 0 0 0 ∧ TC W.heap.size w w') := fun w p K h => by
    have := cput_c h 5 50
    have e : ptSS 1 (5, 50) [[]] = ((0, 0), false, [[(5, 50)]]) := rfl
    rw [e] at this; exact this
  have HG : Hid (∀ w p K, CaK w W.heap.size p K 1 [[(5, 50)]] 0 0 0 0 → Calls Try.prog 14 #[.pointer (some ⟨p, 0, none⟩), .int .i64 5] w fun e w' => e = .returned (.tuple #[.int .i64 50, .bool true]) ∧ TC W.heap.size w w') := fun w p K h => by
    refine (cget_c h 5).mono ?_
    have e : fdSS 5 [[(5, 50)]] = (50, true, [[(5, 50)]]) := rfl
    rw [e]
    rintro e w' ⟨rfl, _, ht⟩
    exact ⟨rfl, ht⟩
  go_enter Try.func7, Try.ntmps7
  go_wp2_with (first
    | (go_at_call 8; refine HN.out.mono ?_; rintro e w1 ⟨p, rfl, ⟨K, h1⟩, t1⟩; have C1 : Hid (CaK w1 W.heap.size p K 1 [[]] 0 0 0 0) := h1; have T1 : Hid (Tch (fun _ => False) W w1) := t1; clear h1 t1 HN)
    | (go_at_call 11; refine (HP.out _ p K C1.out).mono ?_; rintro e w2 ⟨rfl, h2, t2⟩; have C2 : Hid (CaK w2 W.heap.size p K 1 [[(5, 50)]] 0 0 0 0) := h2; have T2 : Hid (Tch (fun _ => False) W w2) := TC.step T1.out (Nat.le_refl _) t2; clear h2 t2 HP C1 T1)
    | (go_at_call 14; refine (HG.out _ p K C2.out).mono ?_; rintro e w3 ⟨rfl, t3⟩; have T3 : Hid (Tch (fun _ => False) W w3) := TC.step T2.out (Nat.le_refl _) t3; clear t3 HG C2 T2))
  go_ret
  exact ⟨rfl, T3.out⟩
set_option maxRecDepth 100000 in
set_option maxHeartbeats 4000000 in
theorem CacheNil_any (W : World) : Calls Try.prog 6 #[] W fun e w' => e = .returned (.bool true) ∧ Below W.heap.size W w' := by
  go_enter Try.func6, Try.ntmps6
  go_wp2_with (first
    | (go_at_call 7; refine (awake_c _).mono ?_; rintro e w1 ⟨rfl, ht⟩; have B1 : Hid (Below W.heap.size W w1) := ht.bel0; clear ht)
    | (go_at_call 14; refine (cget_nil _ _).mono ?_; rintro e w2 ⟨rfl, rfl⟩)
    | (go_at_call 11; refine (cput_nil _ _ _).mono ?_; rintro e w2 ⟨rfl, rfl⟩)
    | (go_at_call 15; refine (chits_nil _).mono ?_; rintro e w2 ⟨rfl, rfl⟩)
    | (go_at_call 16; refine (cclear_nil _).mono ?_; rintro e w2 ⟨rfl, rfl⟩)
    | (go_at_call 13; refine (ckeys_nil _).mono ?_; rintro e w2 ⟨rfl, rfl⟩)
    | (go_at_call 12; refine (clen_nil _).mono ?_; rintro e w2 ⟨rfl, rfl⟩))
  go_ret
  exact ⟨rfl, B1.out⟩
end Go.Proofs.Ytdjmjdlolhfejaa
