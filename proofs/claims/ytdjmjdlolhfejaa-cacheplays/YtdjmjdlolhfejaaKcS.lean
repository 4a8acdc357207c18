/- The document's SameNums at two rows that are the same. -/
import Derived.Test.YtdjmjdlolhfejaaKbN
namespace Go.Proofs.Ytdjmjdlolhfejaa
open Go.RowKit Go.Maps

set_option maxRecDepth 100000 in
set_option maxHeartbeats 4000000 in
theorem sameNums_own (l : List Int) (n M1 M2 : Nat) (v1 v2 : Value) (W : World) (HK : Hid (l.length = n)) (h1 : W.ownsRow M1 3 1 v1 n (intC l)) (h2 : W.ownsRow M2 3 1 v2 n (intC l)) (hn : n ≤ 1000000000) : Calls Try.prog 21 #[v1, v2] W fun e w' => e = .returned (.bool true) ∧ Below W.heap.size W w' := by
  have HC : Hid (∀ (v : Value) (M : Nat), W.ownsRow M 3 1 v n (intC l) → (∃ a c, v = .slice a n c ∧ ∀ (i : Nat) (x : Int), l[i]? = some x → ∃ bk, a = some ⟨bk, 0, none⟩ ∧ bk < W.heap.size ∧ W.cell? ⟨bk, i, none⟩ = some (.int .i64 x))) := by
    intro v M h
    obtain ⟨a, c, rfl⟩ := ownv h
    refine ⟨a, c, rfl, fun i x hx => ?_⟩
    have hi := (List.getElem?_eq_some_iff.1 hx).1
    rw [HK.out] at hi
    obtain ⟨g, rfl⟩ : ∃ g, a = some ⟨g, 0, none⟩ := by
      rcases h.2 with ⟨_, e⟩ | ⟨g, c, cur, e, _⟩
      · omega
      · cases e; exact ⟨g, rfl⟩
    exact ⟨g, rfl, (h.lt g rfl).2, (h.cellAt i (by omega)).trans (by simp [intC, hx])⟩
  obtain ⟨a1, c1, rfl, k1⟩ := HC.out v1 M1 h1
  obtain ⟨a2, c2, rfl, k2⟩ := HC.out v2 M2 h2
  have K1 : Hid (∀ (i : Nat) (x : Int), l[i]? = some x → ∃ bk, a1 = some ⟨bk, 0, none⟩ ∧ bk < W.heap.size ∧ W.cell? ⟨bk, i, none⟩ = some (.int .i64 x)) := k1
  have K2 : Hid (∀ (i : Nat) (x : Int), l[i]? = some x → ∃ bk, a2 = some ⟨bk, 0, none⟩ ∧ bk < W.heap.size ∧ W.cell? ⟨bk, i, none⟩ = some (.int .i64 x)) := k2
  clear h1 h2 HC k1 k2
  go_enter Try.func21, Try.ntmps21
  go_wp2
  go_loopw [5] (fun iv wr => ∃ i : Nat, iv = .int .i64 i ∧ i ≤ n ∧ Hid (Below W.heap.size W wr)) (fun iv _ => n - (intOf iv).toNat)
  case atStart => exact ⟨0, rfl, Nat.zero_le _, Below.refl _ _⟩
  case round =>
    obtain ⟨i, rfl, hi, hb⟩ := hrel
    by_cases hlt : i < n
    · obtain ⟨x, hx⟩ : ∃ x, l[i]? = some x := ⟨_, List.getElem?_eq_getElem (by rw [HK.out]; exact hlt)⟩
      obtain ⟨g1, rfl, l1, q1⟩ := K1.out i x hx
      obtain ⟨g2, rfl, l2, q2⟩ := K2.out i x hx
      have hiI : (i : Int) < (n : Int) := by omega
      obtain ⟨σ, V, hne, V1, V2⟩ := class_of' (fun w' => Below W.heap.size W w') ⟨_, Below.refl _ _⟩
      have kp : ∀ (s : σ) (bb j : Nat) (v : Value), bb < W.heap.size → W.cell? ⟨bb, j, none⟩ = some v → (V s).cell? ⟨bb, j, none⟩ = some v := fun s bb j v hl h => ((V1.out s).cell (p := ⟨bb, j, none⟩) hl).trans h
      replace q1 := fun s => kp s _ _ _ l1 q1
      replace q2 := fun s => kp s _ _ _ l2 q2
      clear hx K1 K2 kp
      go_wp2
      refine wp_region_class (C := fun w' => ∃ s, w' = V s) (by kernel_rfl) (by kernel_rfl) (V2.out _ (hb.out.drew)) ?_
      repeat (go_big_quiet_step (fail))
      refine wpQuiet_nil ?_
      intro w9 hw9
      obtain ⟨s9, rfl⟩ := hw9
      have B9 : Hid (Below W.heap.size W (V s9)) := V1.out s9
      go_wp2
      go_roundw
      case rel => exact ⟨i + 1, by go_num, by omega, B9⟩
      case measure => simp [intOf]; omega
    · have hiI : ¬ (i : Int) < (n : Int) := by omega
      go_wp2
      exact bodyPost_ret (results_tmp rfl _ _ _) rfl ⟨rfl, hb.out⟩
end Go.Proofs.Ytdjmjdlolhfejaa
