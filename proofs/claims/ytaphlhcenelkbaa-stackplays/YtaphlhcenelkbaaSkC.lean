/- Package stack: depth, words, top; New, Frames, Words, Depth. -/
import Derived.Test.YtaphlhcenelkbaaSkB
namespace Go.Proofs.Ytaphlhcenelkbaa
open Go.RowKit Go.Maps

set_option maxRecDepth 100000 in
theorem dep_o {W : World} {g q n c : Nat} {a : Option Addr} (h : W.cell? ⟨g, q, none⟩ = some (.slice a n c)) : Calls Try.prog 31 #[.pointer (some ⟨g, q, none⟩)] W fun e w' => e = .returned (.int .i64 (n : Int)) ∧ w' = W := by
  go_enter Try.func31, Try.ntmps31
  go_wp2
  go_ret
  exact ⟨rfl, rfl⟩
set_option maxRecDepth 100000 in
theorem wds_f {W : World} {g q n c m : Nat} {a : Option Addr} (h1 : W.cell? ⟨g, q + 1, none⟩ = some (.int .i64 (m : Int))) (h2 : W.cell? ⟨g, q + 2, none⟩ = some (.slice a n c)) (hn : n ≤ 40) (hm : m ≤ 40) : Calls Try.prog 32 #[.pointer (some ⟨g, q, none⟩)] W fun e w' => e = .returned (.int .i64 ((n : Int) + m + 3)) ∧ w' = W.drew := by
  have hn2 : (n : Int) ≤ 40 := by omega
  have hm2 : (m : Int) ≤ 40 := by omega
  clear hn hm
  go_enter Try.func32, Try.ntmps32
  go_upto_region 1 with fail
  all_goals go_region
  all_goals go_wp2
  all_goals
    go_ret
    exact ⟨rfl, rfl⟩
set_option maxRecDepth 100000 in
theorem top_nil (W : World) : Calls Try.prog 30 #[.pointer none] W fun e w' => e = .returned (.tuple #[.pointer none, .int .i64 2]) ∧ w' = W := by
  go_enter Try.func30, Try.ntmps30
  go_wp2
  refine bodyPost_ret (v := .tuple #[.pointer none, .int .i64 2]) (by simp [results, Try.results30, go_sem]) rfl ⟨rfl, rfl⟩
theorem SkAt.cells {w : World} {S : Nat → Prop} {sb : Nat} {fv : Value} {fs : List Fr} (h : SkAt true w S sb fv fs) : w.cell? ⟨sb, 0, none⟩ = some fv ∧ w.cell? ⟨sb, 1, none⟩ = some (.int .i64 (wdF fs : Int)) ∧ (∀ k, w.frozen? ⟨sb, k, none⟩ = false) ∧ sb < w.heap.size := r2c h.hh
set_option maxRecDepth 100000 in
theorem top_none {W : World} {S : Nat → Prop} {sb : Nat} {fv : Value} (h : SkAt true W S sb fv []) : Calls Try.prog 30 #[.pointer (some ⟨sb, 0, none⟩)] W fun e w' => e = .returned (.tuple #[.pointer none, .int .i64 6]) ∧ w' = W := by
  obtain ⟨c0, c1, fz, hl⟩ := h.cells
  obtain ⟨a, c, rfl⟩ := ownv h.ow
  simp only [List.length_nil] at c0
  clear h
  go_enter Try.func30, Try.ntmps30
  go_wp2
  refine bodyPost_ret (v := .tuple #[.pointer none, .int .i64 6]) (by simp [results, Try.results30, go_sem]) rfl ⟨rfl, rfl⟩
set_option maxRecDepth 100000 in
theorem top_yes {W : World} {S : Nat → Prop} {sb g c : Nat} {f : Fr} {r : List Fr} (h : SkAt true W S sb (.slice (some ⟨g, 0, none⟩) (r.length + 1) c) (f :: r)) : Calls Try.prog 30 #[.pointer (some ⟨sb, 0, none⟩)] W fun e w' => e = .returned (.tuple #[.pointer (some ⟨g, r.length * 3, none⟩), .int .i64 0]) ∧ w' = W.drew := by
  obtain ⟨c0, c1, fz, hl⟩ := h.cells
  have hn := h.bnd
  simp only [List.length_cons] at hn
  obtain ⟨n, hN⟩ : ∃ n, r.length = n := ⟨_, rfl⟩
  rw [hN] at c0 hn ⊢
  clear h hN
  have h1 : ¬ ((n : Int) + 1 = 0) := by omega
  go_enter Try.func30, Try.ntmps30
  go_upto_region 5 with fail
  all_goals go_region
  all_goals go_wp2
  all_goals refine bodyPost_ret (v := .tuple #[.pointer (some ⟨g, n * 3, none⟩), .int .i64 0]) (by simp [results, Try.results30, go_sem]) rfl ⟨rfl, rfl⟩
set_option maxRecDepth 100000 in
theorem new_s (W : World) : Calls Try.prog 8 #[] W fun e w' => e = .returned (.pointer (some ⟨W.heap.size, 0, none⟩)) ∧ SkAt true w' (fun j => j = W.heap.size) W.heap.size (.slice none 0 0) [] ∧ Below W.heap.size W w' := by
  go_enter Try.func8, Try.ntmps8
  go_wp2
  go_ret
  refine ⟨rfl, { sz := fun j hj => by subst hj; simp, hS := rfl, oS := fun j hj => by simp [Value.ownBlock] at hj, eS := fun f hf => by simp at hf, hh := halloc1 _ _, ow := World.ownsRow_nil _ _ _ _, vo := fun f hf => by simp at hf, lo := fun f hf => by simp at hf, ap := trivial, bd := fun f hf => by simp at hf, n4 := Nat.zero_le _ }, (by repeat (first | exact Below.refl _ _ | refine Below.setCell ?_ (by simp; try omega) _ | refine Below.alloc ?_ (by simp; try omega) _ | refine Below.drew ?_))⟩
set_option maxRecDepth 100000 in
theorem frm_nil (W : World) : Calls Try.prog 10 #[.pointer none] W fun e w' => e = .returned (.int .i64 0) ∧ Below W.heap.size W w' := by
  go_enter Try.func10, Try.ntmps10
  go_wp2
  go_ret
  exact ⟨rfl, Below.refl _ _⟩
set_option maxRecDepth 100000 in
theorem frm_c {W : World} {S : Nat → Prop} {sb : Nat} {fv : Value} {fs : List Fr} (h : SkAt true W S sb fv fs) : Calls Try.prog 10 #[.pointer (some ⟨sb, 0, none⟩)] W fun e w' => e = .returned (.int .i64 (fs.length : Int)) ∧ Below W.heap.size W w' := by
  obtain ⟨c0, c1, fz, hl⟩ := h.cells
  obtain ⟨a, c, rfl⟩ := ownv h.ow
  clear h
  go_enter Try.func10, Try.ntmps10
  go_wp2
  go_ret
  exact ⟨rfl, Below.refl _ _⟩
set_option maxRecDepth 100000 in
theorem wrd_nil (W : World) : Calls Try.prog 11 #[.pointer none] W fun e w' => e = .returned (.int .i64 0) ∧ Below W.heap.size W w' := by
  go_enter Try.func11, Try.ntmps11
  go_wp2
  go_ret
  exact ⟨rfl, Below.refl _ _⟩
set_option maxRecDepth 100000 in
theorem wrd_c {W : World} {S : Nat → Prop} {sb : Nat} {fv : Value} {fs : List Fr} (h : SkAt true W S sb fv fs) : Calls Try.prog 11 #[.pointer (some ⟨sb, 0, none⟩)] W fun e w' => e = .returned (.int .i64 (wdF fs : Int)) ∧ Below W.heap.size W w' := by
  obtain ⟨c0, c1, fz, hl⟩ := h.cells
  clear h
  go_enter Try.func11, Try.ntmps11
  go_wp2
  go_ret
  exact ⟨rfl, Below.refl _ _⟩
end Go.Proofs.Ytaphlhcenelkbaa
