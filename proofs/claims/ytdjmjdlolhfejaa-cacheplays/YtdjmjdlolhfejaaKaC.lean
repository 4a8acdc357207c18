/- A set's entries: the predicate of take, slices.Delete of one of at most two entries. -/
import Derived.Test.YtdjmjdlolhfejaaKaB
import Derived.Lib.SliceRun
namespace Go.Proofs.Ytdjmjdlolhfejaa
open Go.RowKit Go.Maps

theorem Try.hinfoE : (Try.prog.info? 75).map (fun i => (i.zero, i.size, i.bytes)) = some (some (.agg #[.int .i64 0, .int .i64 0]), 2, 16) := by kernel_rfl
theorem callTk (vs : Array Value) (w : World) : (callFunc 105 vs).run Try.prog w = .ok (.enter 105 vs) w := by simp [go_sem]
theorem cal {w : World} {a : Addr} {v : Value} (h : w.cell? a = some v) (o : Obj) : (w.alloc o).cell? a = some v :=
  (World.cell?_of_block (Below.heap_alloc w o a.block (World.block_lt_of_cell? w a h))).trans h
theorem fal {w : World} {a : Addr} (h : a.block < w.heap.size) (o : Obj) : (w.alloc o).frozen? a = w.frozen? a :=
  World.frozen?_of_block (Below.heap_alloc w o a.block h)
set_option maxRecDepth 100000 in
theorem clo_c (kb : Nat) (key : Int) (m : Int × Int) (W : World) (h : W.cell? ⟨kb, 0, none⟩ = some (.int .i64 key)) :
    Calls Try.prog 105 (#[.agg #[.int .i64 m.1, .int .i64 m.2]] ++ #[.pointer (some ⟨kb, 0, none⟩)]) W fun e w' => e = .returned (.bool (m.1 == key)) ∧ Below W.heap.size W w' := by
  obtain ⟨a, b⟩ := m
  show Calls Try.prog 105 #[.agg #[.int .i64 a, .int .i64 b], .pointer (some ⟨kb, 0, none⟩)] W _
  have h2 := cal h (.cells #[.int .i64 a, .int .i64 b] 75)
  clear h
  go_enter Try.func105, Try.ntmps105
  go_wp2
  go_ret
  refine ⟨ret_bool (by rw [Bool.eq_iff_iff]; try simp), ?_⟩
  exact (Below.refl _ W).alloc (Nat.le_refl _) _
theorem row_cur {w : World} {N g n cap : Nat} {xs : List Value} (h : w.ownsRow N 75 2 (.slice (some ⟨g, 0, none⟩) n cap) n xs) : ∃ cur, w.heap[g]? = some (.cells cur 75 (0, 0)) ∧ n ≤ cap ∧ N ≤ g ∧ cap ≤ maxLen ∧ cur.size = cap * 2 := by
  rcases h.2 with ⟨e, _⟩ | ⟨g', cap', cur, e, h1, h2, h3, h4, h5, h6⟩
  · simp at e
  · cases e; exact ⟨cur, h2, h3, h1, h4, h5⟩
/-- what behind append is cleared: the row is cut -/
theorem del_end {W w1 w2 : World} {N g n cap k : Nat} {l : List (Int × Int)} {vs : List Value} (h : w1.ownsRow N 75 2 (.slice (some ⟨g, 0, none⟩) n cap) n (flatD l)) (hg : W.grownBy w1 (some g)) (hk : k ≤ n) (e : w2 = w1.setCells g (k * 2) vs) :
    w2.ownsRow N 75 2 (.slice (some ⟨g, 0, none⟩) k cap) k (flatD (l.take k)) ∧ W.grownBy w2 (some g) := by
  subst e
  obtain ⟨h1, h2⟩ := rowD_clear vs (k * 2) w1 (rowD_cut h hk) (Nat.le_refl _)
  exact ⟨h1, hg.trans h2⟩
theorem drew_grown (W : World) (r : Option Nat) : W.grownBy W.drew r := ⟨rfl, rfl, rfl, Nat.le_refl _, fun _ _ _ => rfl⟩
set_option maxRecDepth 100000 in
set_option maxHeartbeats 1000000 in
theorem del_10 (N g cap : Nat) (x : Int × Int) (W : World) (h : W.ownsRow N 75 2 (.slice (some ⟨g, 0, none⟩) 1 cap) 1 (flatD [x])) :
    Calls Try.prog 106 #[.slice (some ⟨g, 0, none⟩) 1 cap, .int .i64 0, .int .i64 1] W fun e w' => e = .returned (.slice (some ⟨g, 0, none⟩) 0 cap) ∧ w'.ownsRow N 75 2 (.slice (some ⟨g, 0, none⟩) 0 cap) 0 (flatD []) ∧ W.grownBy w' (some g) := by
  obtain ⟨cur, hcur, hc1, hN, hm, hcs⟩ := row_cur h
  obtain ⟨i0, hi0, hz0, hz1, hz2⟩ := info_parts Try.hinfoE
  have hcl : ∀ ty, (Builtin.clear_ #[106] ty #[.slice (some ⟨g, 0, none⟩) 1 cap]).run Try.prog W.drew = .ok (.tuple #[]) (W.drew.setCells g 0 (List.replicate (1 * 2) (.int .i64 0))) := fun ty => by
    refine run_clear2 W.drew ty g 0 1 cap (by omega) (fun t ht => ?_) (fun t => frozen_of_row W.drew g _ _ _ hcur)
    rw [h.drew.cellAt (0 + t) (by omega), List.getElem?_eq_getElem (by rw [flatD_length]; simp; omega)]; rfl
  have HE : Hid (W.ownsRow N 75 2 (.slice (some ⟨g, 0, none⟩) 1 cap) 1 (flatD [x])) := h
  clear h hcur hcs hm
  by_cases hq : cap = 1
  · subst hq
    go_enter Try.func106, Try.ntmps106
    go_wp2
    go_region
    all_goals go_wp2
    all_goals (go_ret; refine ⟨rfl, ?_⟩; exact del_end (k := 0) HE.out.drew (drew_grown W _) (by omega) rfl)
  · have hq2 : 1 < cap := by omega
    go_enter Try.func106, Try.ntmps106
    go_wp2
    go_region
    all_goals go_wp2
    all_goals (go_ret; refine ⟨rfl, ?_⟩; exact del_end (k := 0) HE.out.drew (drew_grown W _) (by omega) rfl)
set_option maxRecDepth 100000 in
set_option maxHeartbeats 1000000 in
theorem del_20 (N g cap : Nat) (x y : Int × Int) (W : World) (h : W.ownsRow N 75 2 (.slice (some ⟨g, 0, none⟩) 2 cap) 2 (flatD [x, y])) :
    Calls Try.prog 106 #[.slice (some ⟨g, 0, none⟩) 2 cap, .int .i64 0, .int .i64 1] W fun e w' => e = .returned (.slice (some ⟨g, 0, none⟩) 1 cap) ∧ w'.ownsRow N 75 2 (.slice (some ⟨g, 0, none⟩) 1 cap) 1 (flatD [y]) ∧ W.grownBy w' (some g) := by
  obtain ⟨cur, hcur, hc1, hN, hm, hcs⟩ := row_cur h
  obtain ⟨i0, hi0, hz0, hz1, hz2⟩ := info_parts Try.hinfoE
  obtain ⟨x1, x2⟩ := x
  obtain ⟨y1, y2⟩ := y
  have c0 : W.cell? ⟨g, 0, none⟩ = some (.int .i64 x1) := (h.cellAt 0 (by omega)).trans rfl
  have c1 : W.cell? ⟨g, 1, none⟩ = some (.int .i64 x2) := (h.cellAt 1 (by omega)).trans rfl
  have c2 : W.cell? ⟨g, 2, none⟩ = some (.int .i64 y1) := (h.cellAt 2 (by omega)).trans rfl
  have c3 : W.cell? ⟨g, 3, none⟩ = some (.int .i64 y2) := (h.cellAt 3 (by omega)).trans rfl
  have f0 := h.frozenAt 0
  have f1 := h.frozenAt 1
  obtain ⟨h1, g1⟩ := h.drew.stored 0 (.int .i64 y1)
  obtain ⟨h2, g2⟩ := h1.stored 1 (.int .i64 y2)
  obtain ⟨w1, hw1⟩ : ∃ w1, w1 = ((W.setCell ⟨g, 0, none⟩ (.int .i64 y1)).setCell ⟨g, 1, none⟩ (.int .i64 y2)).drew := ⟨_, rfl⟩
  have hrow : w1.ownsRow N 75 2 (.slice (some ⟨g, 0, none⟩) 2 cap) 2 (flatD [(y1, y2), (y1, y2)]) := by rw [hw1]; exact h2
  have hG : W.grownBy w1 (some g) := by rw [hw1]; exact (drew_grown W _).trans (g1.trans g2)
  obtain ⟨cu1, hcu1, _⟩ := row_cur hrow
  have hcl : ∀ ty, (Builtin.clear_ #[106] ty #[.slice (some ⟨g, 2, none⟩) 1 (cap - 1)]).run Try.prog w1 = .ok (.tuple #[]) (w1.setCells g 2 (List.replicate (1 * 2) (.int .i64 0))) := fun ty => by
    refine run_clear2 w1 ty g 2 1 (cap - 1) (by omega) (fun t ht => ?_) (fun t => frozen_of_row w1 g _ _ _ hcu1)
    rw [hrow.cellAt (2 + t) (by omega), List.getElem?_eq_getElem (by rw [flatD_length]; simp; omega)]; rfl
  have HE : Hid (w1.ownsRow N 75 2 (.slice (some ⟨g, 0, none⟩) 2 cap) 2 (flatD [(y1, y2), (y1, y2)])) := hrow
  have HG : Hid (W.grownBy w1 (some g)) := hG
  have hq1 : ¬ cap = 1 := by omega
  have hq0 : 1 ≤ cap := by omega
  rw [hw1] at hcl
  clear h hcur hcs hm h1 h2 g1 g2 hrow hG hcu1
  have HW : Hid (w1 = ((W.setCell ⟨g, 0, none⟩ (.int .i64 y1)).setCell ⟨g, 1, none⟩ (.int .i64 y2)).drew) := hw1
  clear hw1
  go_enter Try.func106, Try.ntmps106
  go_wp2
  go_region
  all_goals go_wp2
  all_goals (go_ret; refine ⟨rfl, ?_⟩; exact del_end (k := 1) HE.out HG.out (by omega) (by rw [HW.out]))
set_option maxRecDepth 100000 in
set_option maxHeartbeats 1000000 in
theorem del_21 (N g cap : Nat) (x y : Int × Int) (W : World) (h : W.ownsRow N 75 2 (.slice (some ⟨g, 0, none⟩) 2 cap) 2 (flatD [x, y])) :
    Calls Try.prog 106 #[.slice (some ⟨g, 0, none⟩) 2 cap, .int .i64 1, .int .i64 2] W fun e w' => e = .returned (.slice (some ⟨g, 0, none⟩) 1 cap) ∧ w'.ownsRow N 75 2 (.slice (some ⟨g, 0, none⟩) 1 cap) 1 (flatD [x]) ∧ W.grownBy w' (some g) := by
  obtain ⟨cur, hcur, hc1, hN, hm, hcs⟩ := row_cur h
  obtain ⟨i0, hi0, hz0, hz1, hz2⟩ := info_parts Try.hinfoE
  have hcl : ∀ ty, (Builtin.clear_ #[106] ty #[.slice (some ⟨g, 2, none⟩) 1 (cap - 1)]).run Try.prog W.drew = .ok (.tuple #[]) (W.drew.setCells g 2 (List.replicate (1 * 2) (.int .i64 0))) := fun ty => by
    refine run_clear2 W.drew ty g 2 1 (cap - 1) (by omega) (fun t ht => ?_) (fun t => frozen_of_row W.drew g _ _ _ hcur)
    rw [h.drew.cellAt (2 + t) (by omega), List.getElem?_eq_getElem (by rw [flatD_length]; simp; omega)]; rfl
  have HE : Hid (W.ownsRow N 75 2 (.slice (some ⟨g, 0, none⟩) 2 cap) 2 (flatD [x, y])) := h
  clear h hcur hcs hm
  by_cases hq : cap = 2
  · subst hq
    go_enter Try.func106, Try.ntmps106
    go_wp2
    go_region
    all_goals go_wp2
    all_goals (go_ret; refine ⟨rfl, ?_⟩; exact del_end (k := 1) HE.out.drew (drew_grown W _) (by omega) rfl)
  · have hq2 : 2 < cap := by omega
    go_enter Try.func106, Try.ntmps106
    go_wp2
    go_region
    all_goals go_wp2
    all_goals (go_ret; refine ⟨rfl, ?_⟩; exact del_end (k := 1) HE.out.drew (drew_grown W _) (by omega) rfl)
end Go.Proofs.Ytdjmjdlolhfejaa
