/- Package stack: local, Local, SetLocal. -/
import Derived.Test.YtaphlhcenelkbaaSkD
namespace Go.Proofs.Ytaphlhcenelkbaa
open Go.RowKit Go.Maps

set_option maxRecDepth 100000 in
theorem lcl_nil (i : Int) (W : World) : Calls Try.prog 34 #[.pointer none, .int .i64 i] W fun e w' => e = .returned (.tuple #[.pointer none, .int .i64 2]) ∧ w' = W := by
  have HT : Hid (∀ w : World, Calls Try.prog 30 #[.pointer none] w fun e w' => e = .returned (.tuple #[.pointer none, .int .i64 2]) ∧ w' = w) := fun w => top_nil w
  go_enter Try.func34, Try.ntmps34
  go_wp2_with (go_at_call 30; refine (HT.out _).mono ?_; rintro e w1 ⟨rfl, rfl⟩)
  refine bodyPost_ret (v := .tuple #[.pointer none, .int .i64 2]) (by simp [results, Try.results34, go_sem]) rfl ⟨rfl, rfl⟩
set_option maxRecDepth 100000 in
theorem lcl_none {W : World} {S : Nat → Prop} {sb : Nat} {fv : Value} (h : SkAt true W S sb fv []) (i : Int) : Calls Try.prog 34 #[.pointer (some ⟨sb, 0, none⟩), .int .i64 i] W fun e w' => e = .returned (.tuple #[.pointer none, .int .i64 6]) ∧ w' = W := by
  have HT := top_none h
  clear h
  go_enter Try.func34, Try.ntmps34
  go_wp2_with (go_at_call 30; refine (HT).mono ?_; rintro e w1 ⟨rfl, rfl⟩)
  refine bodyPost_ret (v := .tuple #[.pointer none, .int .i64 6]) (by simp [results, Try.results34, go_sem]) rfl ⟨rfl, rfl⟩
set_option maxRecDepth 100000 in
theorem lcl_off {W : World} {S : Nat → Prop} {sb : Nat} {fv : Value} {f : Fr} {r : List Fr} (h : SkAt true W S sb fv (f :: r)) (i : Int) (hi : i < 0 ∨ (f.ls.length : Int) ≤ i) : Calls Try.prog 34 #[.pointer (some ⟨sb, 0, none⟩), .int .i64 i] W fun e w' => e = .returned (.tuple #[.pointer none, .int .i64 3]) ∧ w' = W.drew := by
  obtain ⟨g, c, rfl, hc, hf, hg, hne⟩ := h.topc
  have HT := top_yes h
  obtain ⟨a1, k1, hv⟩ := ownv (h.lo f List.mem_cons_self)
  have c0 : W.cell? ⟨g, r.length * 3 + 2, none⟩ = some (.slice a1 f.ls.length k1) := by rw [← hv]; exact hc 2 (by omega)
  clear h hc hf hne hv
  by_cases h1 : i < 0
  · clear hi
    go_enter Try.func34, Try.ntmps34
    go_wp2_with (go_at_call 30; refine (HT).mono ?_; rintro e w1 ⟨rfl, rfl⟩)
    refine bodyPost_ret (v := .tuple #[.pointer none, .int .i64 3]) (by simp [results, Try.results34, go_sem]) rfl ⟨rfl, rfl⟩
  · have h2 : (f.ls.length : Int) ≤ i := by omega
    clear hi
    go_enter Try.func34, Try.ntmps34
    go_wp2_with (go_at_call 30; refine (HT).mono ?_; rintro e w1 ⟨rfl, rfl⟩)
    refine bodyPost_ret (v := .tuple #[.pointer none, .int .i64 3]) (by simp [results, Try.results34, go_sem]) rfl ⟨rfl, rfl⟩
set_option maxRecDepth 100000 in
theorem lcl_on {W : World} {S : Nat → Prop} {sb : Nat} {fv : Value} {f : Fr} {r : List Fr} (h : SkAt true W S sb fv (f :: r)) (i : Nat) (hi : i < f.ls.length) : ∃ b c, f.lv = .slice (some ⟨b, 0, none⟩) f.ls.length c ∧ Calls Try.prog 34 #[.pointer (some ⟨sb, 0, none⟩), .int .i64 (i : Int)] W fun e w' => e = .returned (.tuple #[.pointer (some ⟨b, i * 2, none⟩), .int .i64 0]) ∧ w' = W.drew := by
  obtain ⟨g, c, rfl, hc, hf, hg, hne⟩ := h.topc
  have HT := top_yes h
  obtain ⟨b, k1, hv⟩ := Go.Joins.ownsRow_form (h.lo f List.mem_cons_self) (by omega)
  refine ⟨b, k1, hv, ?_⟩
  have c0 : W.cell? ⟨g, r.length * 3 + 2, none⟩ = some (.slice (some ⟨b, 0, none⟩) f.ls.length k1) := by rw [← hv]; exact hc 2 (by omega)
  clear h hc hf hne hv
  obtain ⟨n, hN⟩ : ∃ n, f.ls.length = n := ⟨_, rfl⟩
  rw [hN] at c0 hi
  have h1 : ¬ (i : Int) < 0 := by omega
  have h2 : ¬ (n : Int) ≤ (i : Int) := by omega
  clear hN
  go_enter Try.func34, Try.ntmps34
  go_wp2_with (go_at_call 30; refine (HT).mono ?_; rintro e w1 ⟨rfl, rfl⟩)
  refine bodyPost_ret (v := .tuple #[.pointer (some ⟨b, i * 2, none⟩), .int .i64 0]) (by simp [results, Try.results34, go_sem]) rfl ⟨rfl, rfl⟩
set_option maxRecDepth 100000 in
theorem local_bad {W : World} {p : Value} {i : Int} {E : Int} (hE : ¬ E = 0) {U : World → World} (hU : ∀ w, Below w.heap.size w (U w)) (HT : Hid (∀ w, Below W.heap.size W w → Calls Try.prog 34 #[p, .int .i64 i] w fun e w' => e = .returned (.tuple #[.pointer none, .int .i64 E]) ∧ w' = U w)) : Calls Try.prog 19 #[p, .int .i64 i] W fun e w' => e = .returned (.tuple #[noV, .int .i64 E]) ∧ Below W.heap.size W w' := by
  go_enter Try.func19, Try.ntmps19
  go_wp2_with (go_at_call 34; refine (HT.out _ (by repeat (first | exact Below.refl _ _ | refine Below.setCell ?_ (by simp; try omega) _ | refine Below.alloc ?_ (by simp; try omega) _ | refine Below.drew ?_))).mono ?_; rintro e w1 ⟨rfl, rfl⟩; have hb := hU (W.alloc (.cells #[.bool false, .int .i64 0] 32)); generalize U _ = w1 at *; obtain ⟨zB, z0, z1, zf, zL, zN⟩ := k2c (n := W.heap.size) hb; have B1 : Hid (Below W.heap.size W w1) := Below.step ((Below.refl _ _).alloc (Nat.le_refl _) _) hb; clear hb)
  refine bodyPost_ret (v := .tuple #[noV, .int .i64 E]) (by simp [results, Try.results19, go_sem, noV, z0, z1]) rfl ⟨rfl, (by repeat (first | refine Below.setCell ?_ (by simp; try omega) _ | refine Below.alloc ?_ (by have := B1.out.size; simp; try omega) _ | refine Below.drew ?_ | exact B1.out))⟩
theorem local_nil (i : Int) (W : World) : Calls Try.prog 19 #[.pointer none, .int .i64 i] W fun e w' => e = .returned (.tuple #[noV, .int .i64 2]) ∧ Below W.heap.size W w' := local_bad (U := id) (by decide) (fun w => Below.refl _ _) (fun w _ => lcl_nil i w)
theorem local_none {W : World} {S : Nat → Prop} {sb : Nat} {fv : Value} (h : SkAt true W S sb fv []) (i : Int) : Calls Try.prog 19 #[.pointer (some ⟨sb, 0, none⟩), .int .i64 i] W fun e w' => e = .returned (.tuple #[noV, .int .i64 6]) ∧ Below W.heap.size W w' := local_bad (U := id) (by decide) (fun w => Below.refl _ _) (fun w hb => lcl_none (h.below hb) i)
/-- the local of a number, if there is one -/
def lcI (ls : List (Bool × Int)) (i : Int) : Option (Bool × Int) := if 0 ≤ i then ls[i.toNat]? else none
set_option maxRecDepth 100000 in
theorem local_on {W : World} {S : Nat → Prop} {sb : Nat} {fv : Value} {f : Fr} {r : List Fr} (h : SkAt true W S sb fv (f :: r)) (i : Nat) (v : Bool × Int) (hv : f.ls[i]? = some v) : Calls Try.prog 19 #[.pointer (some ⟨sb, 0, none⟩), .int .i64 (i : Int)] W fun e w' => e = .returned (.tuple #[vlV v, .int .i64 0]) ∧ Below W.heap.size W w' := by
  have hi := (List.getElem?_eq_some_iff.1 hv).1
  obtain ⟨b, c, hform, _⟩ := lcl_on h i hi
  have HT : Hid (∀ w, Below W.heap.size W w → Calls Try.prog 34 #[.pointer (some ⟨sb, 0, none⟩), .int .i64 (i : Int)] w fun e w' => e = .returned (.tuple #[.pointer (some ⟨b, i * 2, none⟩), .int .i64 0]) ∧ w' = w.drew) := fun w hb => by
    obtain ⟨b', c', hf', hC⟩ := lcl_on (h.below hb) i hi
    rw [hform] at hf'
    injection hf' with e1 _ _
    injection e1 with e1
    injection e1 with e1
    subst e1
    exact hC
  have hw := h.lo f List.mem_cons_self
  rw [hform] at hw
  obtain ⟨f0, f1⟩ := flatV_at _ _ v hv
  have e0 : W.cell? ⟨b, i * 2, none⟩ = some (.bool v.1) := (hw.cellAt _ (by omega)).trans f0
  have e1 : W.cell? ⟨b, i * 2 + 1, none⟩ = some (.int .i64 v.2) := (hw.cellAt _ (by omega)).trans f1
  have hbl : b < W.heap.size := World.block_lt_of_cell? W _ e0
  have hbn : ¬ b = W.heap.size := by omega
  obtain ⟨v1, v2⟩ := v
  simp only at e0 e1
  clear h hw f0 f1 hform hv hi
  go_enter Try.func19, Try.ntmps19
  go_wp2_with (go_at_call 34; refine (HT.out _ (by repeat (first | exact Below.refl _ _ | refine Below.setCell ?_ (by simp; try omega) _ | refine Below.alloc ?_ (by simp; try omega) _ | refine Below.drew ?_))).mono ?_; rintro e w1 ⟨rfl, rfl⟩)
  refine bodyPost_ret (v := .tuple #[.agg #[.bool v1, .int .i64 v2], .int .i64 0]) (by simp [results, Try.results19, go_sem]) rfl ⟨rfl, (by repeat (first | exact Below.refl _ _ | refine Below.setCell ?_ (by simp; try omega) _ | refine Below.alloc ?_ (by simp; try omega) _ | refine Below.drew ?_))⟩
theorem local_yes {W : World} {S : Nat → Prop} {sb : Nat} {fv : Value} {f : Fr} {r : List Fr} (h : SkAt true W S sb fv (f :: r)) (i : Int) : Calls Try.prog 19 #[.pointer (some ⟨sb, 0, none⟩), .int .i64 i] W fun e w' => e = .returned (.tuple #[oV (lcI f.ls i), .int .i64 (oE 3 (lcI f.ls i))]) ∧ Below W.heap.size W w' := by
  cases hv : lcI f.ls i with
  | none =>
    have hi : i < 0 ∨ (f.ls.length : Int) ≤ i := by
      unfold lcI at hv
      split at hv
      · have := List.getElem?_eq_none_iff.1 hv; omega
      · omega
    exact local_bad (U := World.drew) (by decide) (fun w => (Below.refl _ _).drew) (fun w hb => lcl_off (h.below hb) i hi)
  | some v =>
    unfold lcI at hv
    split at hv
    · next hi =>
      have := local_on h i.toNat v hv
      rw [Int.toNat_of_nonneg hi] at this
      exact this
    · cases hv
end Go.Proofs.Ytaphlhcenelkbaa
