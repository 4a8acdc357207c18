/- Package stack: SetLocal; put, Put. -/
import Derived.Test.YtaphlhcenelkbaaSkF
namespace Go.Proofs.Ytaphlhcenelkbaa
open Go.RowKit Go.Maps

theorem grown_cell {W wr w5 : World} {row : Option Nat} {g q : Nat} {v : Value} (hb : Below W.heap.size W wr) (hG : wr.grownBy w5 row) (hne : row ≠ some g) (c0 : W.cell? ⟨g, q, none⟩ = some v) : w5.cell? ⟨g, q, none⟩ = some v := by
  have hg : g < W.heap.size := World.block_lt_of_cell? W _ c0
  have hz := hb.size
  exact (World.cell?_of_block ((hG.block g (by omega) (fun e => hne e.symm)).trans (hb.block g hg))).trans c0
theorem grown_frz {W wr w5 : World} {row : Option Nat} {g q : Nat} (hb : Below W.heap.size W wr) (hG : wr.grownBy w5 row) (hg : g < W.heap.size) (hne : row ≠ some g) (c0 : W.frozen? ⟨g, q, none⟩ = false) : w5.frozen? ⟨g, q, none⟩ = false := by
  have hz := hb.size
  exact (World.frozen?_of_block ((hG.block g (by omega) (fun e => hne e.symm)).trans (hb.block g hg))).trans c0
set_option maxRecDepth 100000 in
theorem setl_bad {W : World} {p : Value} {i : Int} {v : Bool × Int} {E : Int} (hE : ¬ E = 0) {U : World → World} (hU : ∀ w, Below w.heap.size w (U w)) (HT : Hid (∀ w, Below W.heap.size W w → Calls Try.prog 34 #[p, .int .i64 i] w fun e w' => e = .returned (.tuple #[.pointer none, .int .i64 E]) ∧ w' = U w)) : Calls Try.prog 18 #[p, .int .i64 i, vlV v] W fun e w' => e = .returned (.int .i64 E) ∧ Below W.heap.size W w' := by
  obtain ⟨v1, v2⟩ := v
  unfold vlV
  go_enter Try.func18, Try.ntmps18
  go_wp2_with (go_at_call 34; refine (HT.out _ (by repeat (first | exact Below.refl _ _ | refine Below.setCell ?_ (by simp; try omega) _ | refine Below.alloc ?_ (by simp; try omega) _ | refine Below.drew ?_))).mono ?_; rintro e w1 ⟨rfl, rfl⟩; have B1 : Hid (Below W.heap.size W (U (W.alloc (.cells #[.bool v1, .int .i64 v2] 32)))) := Below.step ((Below.refl _ _).alloc (Nat.le_refl _) _) (hU _))
  go_ret
  exact ⟨rfl, B1.out⟩
theorem setl_nil (i : Int) (v : Bool × Int) (W : World) : Calls Try.prog 18 #[.pointer none, .int .i64 i, vlV v] W fun e w' => e = .returned (.int .i64 2) ∧ Below W.heap.size W w' := setl_bad (U := id) (by decide) (fun w => Below.refl _ _) (fun w _ => lcl_nil i w)
set_option maxRecDepth 100000 in
theorem setl_on {W : World} {S : Nat → Prop} {sb : Nat} {fv : Value} {f : Fr} {r : List Fr} (h : SkAt true W S sb fv (f :: r)) (i : Nat) (hi : i < f.ls.length) (v : Bool × Int) : Calls Try.prog 18 #[.pointer (some ⟨sb, 0, none⟩), .int .i64 (i : Int), vlV v] W fun e w' => e = .returned (.int .i64 0) ∧ SkN true S W w' sb ({ f with ls := f.ls.set i v } :: r) := by
  obtain ⟨b, c, hform, _⟩ := lcl_on h i hi
  have HT : Hid (∀ w, Below W.heap.size W w → Calls Try.prog 34 #[.pointer (some ⟨sb, 0, none⟩), .int .i64 (i : Int)] w fun e w' => e = .returned (.tuple #[.pointer (some ⟨b, i * 2, none⟩), .int .i64 0]) ∧ w' = w.drew) := fun w hb => by
    obtain ⟨b', c', hf', hC⟩ := lcl_on (h.below hb) i hi
    rw [hform] at hf'
    injection hf' with e1 _ _
    injection e1 with e1
    injection e1 with e1
    subst e1
    exact hC
  have hw := h.lo f List.mem_cons_self
  rw [hform] at hw
  obtain ⟨f0, f1⟩ := flatV_at _ _ _ (List.getElem?_eq_getElem hi)
  have e0 : W.cell? ⟨b, i * 2, none⟩ = some (.bool f.ls[i].1) := (hw.cellAt _ (by omega)).trans f0
  have e1 : W.cell? ⟨b, i * 2 + 1, none⟩ = some (.int .i64 f.ls[i].2) := (hw.cellAt _ (by omega)).trans f1
  have z0 := hw.frozenAt (i * 2)
  have z1 := hw.frozenAt (i * 2 + 1)
  have hbl : b < W.heap.size := World.block_lt_of_cell? W _ e0
  have hbn : ¬ b = W.heap.size := by omega
  have FIN : Hid (SkN true S W ((W.setCell ⟨b, i * 2, none⟩ (.bool v.1)).setCell ⟨b, i * 2 + 1, none⟩ (.int .i64 v.2)) sb ({ f with ls := f.ls.set i v } :: r)) := set_fin h i hform v
  obtain ⟨v1, v2⟩ := v
  simp only at FIN
  unfold vlV
  generalize f.ls[i].1 = y0 at *
  generalize f.ls[i].2 = y1 at *
  clear h hw f0 f1 hform hi
  go_enter Try.func18, Try.ntmps18
  go_wp2_with (go_at_call 34; refine (HT.out _ (by repeat (first | exact Below.refl _ _ | refine Below.setCell ?_ (by simp; try omega) _ | refine Below.alloc ?_ (by simp; try omega) _ | refine Below.drew ?_))).mono ?_; rintro e w1 ⟨rfl, rfl⟩)
  go_ret
  exact ⟨rfl, FIN.out.aft (by repeat (first | exact Below.refl _ _ | refine Below.setCell ?_ (by simp; try omega) _ | refine Below.alloc ?_ (by simp; try omega) _ | refine Below.drew ?_))⟩
/-- a call's answer to setting a local, and the frames behind it -/
def slE : List Fr → Int → Int
  | [], _ => 6
  | f :: _, i => if 0 ≤ i ∧ i < (f.ls.length : Int) then 0 else 3
def slF (i : Int) (v : Bool × Int) : List Fr → List Fr
  | [] => []
  | f :: r => if 0 ≤ i ∧ i < (f.ls.length : Int) then { f with ls := f.ls.set i.toNat v } :: r else f :: r
theorem setl_c {W : World} {S : Nat → Prop} {sb : Nat} {fv : Value} {fs : List Fr} (h : SkAt true W S sb fv fs) (i : Int) (v : Bool × Int) : Calls Try.prog 18 #[.pointer (some ⟨sb, 0, none⟩), .int .i64 i, vlV v] W fun e w' => e = .returned (.int .i64 (slE fs i)) ∧ SkN true S W w' sb (slF i v fs) := by
  cases fs with
  | nil => exact (setl_bad (U := id) (v := v) (E := 6) (by decide) (fun w => Below.refl _ _) (fun w hb => lcl_none (h.below hb) i)).mono (fun e w' x => ⟨x.1, SkN.same h x.2⟩)
  | cons f r =>
    by_cases hi : 0 ≤ i ∧ i < (f.ls.length : Int)
    · obtain ⟨m, rfl⟩ : ∃ m : Nat, i = (m : Int) := ⟨i.toNat, by omega⟩
      rw [slE, slF, if_pos hi, if_pos hi]
      exact setl_on h m (by omega) v
    · rw [slE, slF, if_neg hi, if_neg hi]
      exact (setl_bad (U := World.drew) (v := v) (E := 3) (by decide) (fun w => (Below.refl _ _).drew) (fun w hb => lcl_off (h.below hb) i (by omega))).mono (fun e w' x => ⟨x.1, SkN.same h x.2⟩)

set_option maxRecDepth 100000 in
set_option maxHeartbeats 1000000 in
theorem put_no {W : World} {g q n c m : Nat} {a : Option Addr} (c0 : W.cell? ⟨g, q, none⟩ = some (.slice a n c)) (c1 : W.cell? ⟨g, q + 1, none⟩ = some (.int .i64 (m : Int))) (hm : m ≤ n) (v : Bool × Int) : Calls Try.prog 33 #[.pointer (some ⟨g, q, none⟩), vlV v] W fun e w' => e = .returned (.int .i64 35) ∧ Below W.heap.size W w' := by
  have hg := World.block_lt_of_cell? W _ c0
  have hgn : ¬ g = W.heap.size := by simp at hg; omega
  have HD : Hid (∀ w, Below W.heap.size W w → Calls Try.prog 31 #[.pointer (some ⟨g, q, none⟩)] w fun e w' => e = .returned (.int .i64 (n : Int)) ∧ w' = w) := fun w hb => dep_o ((hb.cell (p := ⟨g, q, none⟩) hg).trans c0)
  have hm2 : (m : Int) ≤ (n : Int) := by omega
  obtain ⟨v1, v2⟩ := v
  unfold vlV
  clear c0 hm
  go_enter Try.func33, Try.ntmps33
  go_upto_region 1 with fail
  go_region_law (refine step_call1 rfl 31 callDep (.tmp 5) 72 rfl (.pointer (some ⟨g, q, none⟩)) (by first | (simp [Act.eval]; done) | (simp [Act.eval, Act.put]; done)) (HD.out _ (by repeat (first | exact Below.refl _ _ | refine Below.setCell ?_ (by simp; try omega) _ | refine Below.alloc ?_ (by simp; try omega) _ | refine Below.drew ?_))) ?_; rintro e w3 ⟨rfl, rfl⟩; refine ⟨_, rfl, ?_⟩)
  all_goals go_wp2
  all_goals
    go_ret
    exact ⟨rfl, (by repeat (first | exact Below.refl _ _ | refine Below.setCell ?_ (by simp; try omega) _ | refine Below.alloc ?_ (by simp; try omega) _ | refine Below.drew ?_))⟩
set_option maxRecDepth 100000 in
set_option maxHeartbeats 1000000 in
theorem put_yes {W : World} {g q n c m : Nat} {a : Option Addr} {xs : List (Bool × Int)} (c0 : W.cell? ⟨g, q, none⟩ = some (.slice a n c)) (c1 : W.cell? ⟨g, q + 1, none⟩ = some (.int .i64 (m : Int))) (hfz : ∀ j, W.frozen? ⟨g, j, none⟩ = false) (hm : n < m) (hm4 : m ≤ 40) (hw : W.ownsRow 0 32 2 (.slice a n c) n (flatV xs)) (hne : Value.ownBlock (.slice a n c) ≠ some g) (v : Bool × Int) :
    Calls Try.prog 33 #[.pointer (some ⟨g, q, none⟩), vlV v] W fun e w' => e = .returned (.int .i64 0) ∧ ∃ (wr w5 : World) (g5 c5 : Nat), w' = w5.setCell ⟨g, q, none⟩ (.slice (some ⟨g5, 0, none⟩) (n + 1) c5) ∧ Below W.heap.size W wr ∧ wr.grownBy w5 (Value.ownBlock (.slice a n c)) ∧ w5.ownsRow 0 32 2 (.slice (some ⟨g5, 0, none⟩) (n + 1) c5) (n + 1) (flatV (xs ++ [v])) ∧ (Value.ownBlock (.slice a n c) = some g5 ∨ wr.heap.size ≤ g5) := by
  have hg : g < W.heap.size := World.block_lt_of_cell? W _ c0
  have hgn : ¬ g = W.heap.size := by omega
  have HD : Hid (∀ w, Below W.heap.size W w → Calls Try.prog 31 #[.pointer (some ⟨g, q, none⟩)] w fun e w' => e = .returned (.int .i64 (n : Int)) ∧ w' = w) := fun w hb => dep_o ((hb.cell (p := ⟨g, q, none⟩) hg).trans c0)
  have hm2 : ¬ (m : Int) ≤ (n : Int) := by omega
  rw [flatV_app]
  obtain ⟨v1, v2⟩ := v
  simp only [flatV]
  unfold vlV
  obtain ⟨i0, hi0, hz0, hz1, hz2⟩ := info_parts Try.hinfoVl
  have ROW : Hid (W.ownsRow 0 32 2 (.slice a n c) n (flatV xs)) := hw
  have HNE : Hid (Value.ownBlock (.slice a n c) ≠ some g) := hne
  clear hw hne
  go_enter Try.func33, Try.ntmps33
  go_upto_region 1 with fail
  go_region_law (refine step_call1 rfl 31 callDep (.tmp 5) 72 rfl (.pointer (some ⟨g, q, none⟩)) (by first | (simp [Act.eval]; done) | (simp [Act.eval, Act.put]; done)) (HD.out _ (by repeat (first | exact Below.refl _ _ | refine Below.setCell ?_ (by simp; try omega) _ | refine Below.alloc ?_ (by simp; try omega) _ | refine Below.drew ?_))) ?_; rintro e w3 ⟨rfl, rfl⟩; refine ⟨_, rfl, ?_⟩)
  all_goals go_upto_region 3 with fail
  all_goals go_region_law (refine step_append_lies _ rfl (.tmp 16) (.tmp 18) 38 rfl 0 32 i0 (.agg #[.bool false, .int .i64 0]) 2 16 Try.underlying38 hi0 hz0 hz1 hz2 rfl (by decide) (.slice a n c) n (flatV xs) (by first | (simp [Act.eval]; done) | (simp [Act.eval, Act.put]; done)) (((ROW.out.alloc _).drew.drew).alloc _) ⟨W.heap.size + 1, 0, none⟩ 1 1 [.bool v1, .int .i64 v2] (by first | (simp [Act.eval]; done) | (simp [Act.eval, Act.put]; done)) rfl (World.news_of_block (haA _ _ (by simp))) ?_ (by decide) ?_ ?_ (Nat.zero_le _) _ rfl ?_; (intro u hu; simp at hu; rcases hu with rfl | rfl <;> rfl); (unfold maxLen; omega); omega; intro g5 cap5 w5 hown hgrow hg5 hl5; have O5 : Hid _ := hown; have G5 : Hid _ := hgrow; have V5 : Hid _ := hg5; have y0 : w5.cell? ⟨g, q, none⟩ = some (.slice a n c) := grown_cell (by repeat (first | exact Below.refl _ _ | refine Below.setCell ?_ (by simp; try omega) _ | refine Below.alloc ?_ (by simp; try omega) _ | refine Below.drew ?_)) hgrow HNE.out c0; have yf : w5.frozen? ⟨g, q, none⟩ = false := grown_frz (by repeat (first | exact Below.refl _ _ | refine Below.setCell ?_ (by simp; try omega) _ | refine Below.alloc ?_ (by simp; try omega) _ | refine Below.drew ?_)) hgrow hg HNE.out (hfz q); clear hown hgrow hg5)
  all_goals go_wp2
  all_goals
    go_ret
    exact ⟨rfl, _, w5, g5, cap5, rfl, (by repeat (first | exact Below.refl _ _ | refine Below.setCell ?_ (by simp; try omega) _ | refine Below.alloc ?_ (by simp; try omega) _ | refine Below.drew ?_)), G5.out, O5.out, V5.out.imp id (fun e => Nat.le_of_eq e.symm)⟩
end Go.Proofs.Ytaphlhcenelkbaa
