/- slices.Insert of one entry ahead of none or one. -/
import Derived.Test.YtdjmjdlolhfejaaKaC
import Derived.Lib.AppendZerosOnto
import Derived.Lib.Overlaps
namespace Go.Proofs.Ytdjmjdlolhfejaa
open Go.RowKit Go.Maps

set_option maxRecDepth 100000 in
set_option maxHeartbeats 1000000 in
theorem ins_0 (N : Nat) (v : Value) (vb : Nat) (e1 e2 : Int) (W : World) (h : W.ownsRow N 75 2 v 0 (flatD [])) (hv : W.heap[vb]? = some (.cells #[.int .i64 e1, .int .i64 e2] 75 (0, 0))) (hN : N ≤ W.heap.size) :
    Calls Try.prog 107 #[v, .int .i64 0, .slice (some ⟨vb, 0, none⟩) 1 1] W fun e w' => ∃ v', e = .returned v' ∧ w'.ownsRow N 75 2 v' 1 (flatD [(e1, e2)]) ∧ W.grownBy w' v.ownBlock := by
  obtain ⟨i0, hi0, hz0, hz1, hz2⟩ := info_parts Try.hinfoE
  obtain ⟨ao, cap, rfl⟩ := ownv h
  have HE : Hid (W.ownsRow N 75 2 (.slice ao 0 cap) 0 (flatD [])) := h
  have HV : Hid (∀ j u, (flatD [(e1, e2)])[j]? = some u → W.cell? ((⟨vb, 0, none⟩ : Addr).add j) = some u) := by
    intro j u hj
    have hj2 : j < 2 := by have := (List.getElem?_eq_some_iff.1 hj).1; simpa [flatD] using this
    rw [Addr.add_lit, Nat.zero_add, cell_of_row W vb j _ _ _ hv, ← hj]
    simp [flatD]
  clear h hv
  cases ao with
  | none =>
    obtain rfl : cap = 0 := by
      rcases HE.out.2 with ⟨e, _⟩ | ⟨g', cap', cur, e, _⟩
      · simpa using e
      · simp at e
    go_enter Try.func107, Try.ntmps107
    go_wp2_with (at_builtin; refine wpList_append_own _ rfl _ _ 106 rfl N 75 i0 (.agg #[.int .i64 0, .int .i64 0]) 2 16 Try.underlying106 hi0 hz0 hz1 hz2 rfl (by decide) _ 0 (flatD []) rfl HE.out ⟨vb, 0, none⟩ 1 1 (flatD [(e1, e2)]) rfl (by simp [flatD]) HV.out (flatD_one _) (by unfold maxLen; omega) (by omega) hN ?_; intro v' w2 hown hgrow hnil; obtain ⟨va2, vn2, rfl⟩ := ownv hown; have O2 : Hid (w2.ownsRow N 75 2 (.slice va2 1 vn2) 1 (flatD [(e1, e2)])) := hown; have G2 : Hid (W.grownBy w2 (Value.slice none 0 0).ownBlock) := hgrow; clear hown hgrow hnil)
    go_ret
    exact ⟨_, rfl, O2.out, G2.out⟩
  | some a =>
    have hn0 : (if cap = 0 then some a else some a) = some a := by split <;> rfl
    go_enter Try.func107, Try.ntmps107
    go_wp2_with (at_builtin; refine wpList_append_own _ rfl _ _ 106 rfl N 75 i0 (.agg #[.int .i64 0, .int .i64 0]) 2 16 Try.underlying106 hi0 hz0 hz1 hz2 rfl (by decide) _ 0 (flatD []) rfl HE.out ⟨vb, 0, none⟩ 1 1 (flatD [(e1, e2)]) rfl (by simp [flatD]) HV.out (flatD_one _) (by unfold maxLen; omega) (by omega) hN ?_; intro v' w2 hown hgrow hnil; obtain ⟨va2, vn2, rfl⟩ := ownv hown; have O2 : Hid (w2.ownsRow N 75 2 (.slice va2 1 vn2) 1 (flatD [(e1, e2)])) := hown; have G2 : Hid (W.grownBy w2 (Value.slice (some a) 0 cap).ownBlock) := hgrow; clear hown hgrow hnil)
    go_ret
    exact ⟨_, rfl, O2.out, G2.out⟩
/-- a row of one entry where there is room for two -/
theorem row_two {W : World} {N g cap : Nat} {x : Int × Int} (h : W.ownsRow N 75 2 (.slice (some ⟨g, 0, none⟩) 1 cap) 1 (flatD [x])) (hc : 2 ≤ cap) : ∃ p q, W.ownsRow N 75 2 (.slice (some ⟨g, 0, none⟩) 2 cap) 2 [.int .i64 x.1, .int .i64 x.2, p, q] := by
  rcases h.2 with ⟨e, _⟩ | ⟨g', cap', cur, e, h1, h2, h3, h4, h5, h6⟩
  · simp at e
  · cases e
    obtain ⟨l, rfl⟩ : ∃ l : List Value, cur = l.toArray := ⟨cur.toList, by simp⟩
    simp at h5 h6
    match l, h5, h6 with
    | a :: b :: p :: q :: r, h5, h6 =>
      simp [flatD] at h6
      obtain ⟨rfl, rfl⟩ := h6
      exact ⟨p, q, by simp, .inr ⟨g, cap, _, rfl, h1, h2, hc, h4, by simpa using h5, by simp⟩⟩
    | [a, b, p], h5, _ => simp at h5; omega
    | [a, b], h5, _ => simp at h5; omega
    | [a], h5, _ => simp at h5; omega
    | [], h5, _ => simp at h5; omega
/-- copy of one entry -/
theorem run_copyE (w : World) (ty : TypeId) (b o dLen dCap sb so sLen sCap : Nat) (u1 u2 : Value) (hn : Nat.min sLen dLen = 1) (h1 : w.cell? ⟨sb, so, none⟩ = some u1) (h2 : w.cell? ⟨sb, so + 1, none⟩ = some u2)
    (d1 : (w.cell? ⟨b, o, none⟩).isSome = true) (d2 : (w.cell? ⟨b, o + 1, none⟩).isSome = true) (hf : ∀ j, w.frozen? ⟨b, j, none⟩ = false) (o1 : u1.oneCell' = true) (o2 : u2.oneCell' = true) :
    (Builtin.copy_ #[106, 106] ty #[.slice (some ⟨b, o, none⟩) dLen dCap, .slice (some ⟨sb, so, none⟩) sLen sCap]).run Try.prog w = .ok (.int .i64 1) ((w.setCell ⟨b, o, none⟩ u1).setCell ⟨b, o + 1, none⟩ u2) := by
  have hl := run_loadCells_list (P := Try.prog) w ⟨sb, so, none⟩ [u1, u2] (fun j v hj => by
    rw [Addr.add_lit]
    match j, hj with
    | 0, hj => simp at hj; subst hj; exact h1
    | 1, hj => simp at hj; subst hj; exact h2
    | j + 2, hj => simp at hj)
  have hst := run_storeCells_cells (P := Try.prog) b o [u1, u2] 0 w (fun j hj => by
    match j, hj with
    | 0, _ => simpa using d1
    | 1, _ => simpa using d2
    | j + 2, hj => simp at hj; omega) (fun j _ => hf _) (fun v hv => by simp at hv; rcases hv with rfl | rfl <;> assumption)
  simp only [World.setCells, Nat.add_zero] at hst
  have hz := Try.sizeOf75 w
  simp at hl
  simp [Builtin.copy_, run_underlying Try.underlying106, Builtin.lenOf, Builtin.firstCells, hz, hn, hl, hst]
  rfl
theorem shape_of {w : World} {b : Nat} {c : Array Value} {e : TypeId} {z : Nat × Nat} (h : w.heap[b]? = some (.cells c e z)) : w.shape? b = some (e, c.size) := by simp [World.shape?, h]
set_option maxRecDepth 100000 in
set_option maxHeartbeats 4000000 in
theorem ins_r (N g cap vb : Nat) (x1 x2 e1 e2 : Int) (W : World) (h : W.ownsRow N 75 2 (.slice (some ⟨g, 0, none⟩) 1 cap) 1 (flatD [(x1, x2)])) (hc : 2 ≤ cap) (hv : W.heap[vb]? = some (.cells #[.int .i64 e1, .int .i64 e2] 75 (0, 0))) (hne : vb ≠ g) :
    Calls Try.prog 107 #[.slice (some ⟨g, 0, none⟩) 1 cap, .int .i64 0, .slice (some ⟨vb, 0, none⟩) 1 1] W fun e w' => e = .returned (.slice (some ⟨g, 0, none⟩) 2 cap) ∧ w'.ownsRow N 75 2 (.slice (some ⟨g, 0, none⟩) 2 cap) 2 (flatD [(e1, e2), (x1, x2)]) ∧ W.grownBy w' (some g) := by
  obtain ⟨p, q, h2⟩ := row_two h hc
  obtain ⟨cur, hcur, _, _, _, hcs⟩ := row_cur h
  have c0 : W.cell? ⟨g, 0, none⟩ = some (.int .i64 x1) := (h2.cellAt 0 (by omega)).trans rfl
  have c1 : W.cell? ⟨g, 1, none⟩ = some (.int .i64 x2) := (h2.cellAt 1 (by omega)).trans rfl
  have c2 : W.cell? ⟨g, 2, none⟩ = some p := (h2.cellAt 2 (by omega)).trans rfl
  have c3 : W.cell? ⟨g, 3, none⟩ = some q := (h2.cellAt 3 (by omega)).trans rfl
  have f0 := h2.frozenAt 0
  have f1 := h2.frozenAt 1
  have f2 := h2.frozenAt 2
  have f3 := h2.frozenAt 3
  have v0 : W.cell? ⟨vb, 0, none⟩ = some (.int .i64 e1) := (cell_of_row W vb 0 _ _ _ hv).trans rfl
  have v1 : W.cell? ⟨vb, 1, none⟩ = some (.int .i64 e2) := (cell_of_row W vb 1 _ _ _ hv).trans rfl
  have ho : (callFunc 108 #[.slice (some ⟨vb, 0, none⟩) 1 1, .slice (some ⟨g, 2, none⟩) 1 (cap - 1)]).run Try.prog W = .ok (.value (.bool false)) W := by
    rw [run_callFunc_extern Try.func108 (by kernel_rfl) (by kernel_rfl) (by kernel_rfl) (e := Extern.SlicesOverlaps.overlaps #[106, 106] #[4]) (by kernel_rfl),
      Lib.run_overlaps_apart W 106 4 75 Try.underlying106 2 Try.sizeOf75 ⟨vb, 0, none⟩ ⟨g, 2, none⟩ 1 1 1 (cap - 1) hne 75 75 2 cur.size (shape_of hv) (shape_of hcur) (by omega) (frozen_of_row W vb 0 _ _ hv) (frozen_of_row W vb 2 _ _ hv)]
    rfl
  have hfz : ∀ j, W.frozen? ⟨g, j, none⟩ = false := fun j => h2.frozenAt j
  obtain ⟨r1, g1⟩ := h2.drew.stored 2 (.int .i64 x1)
  obtain ⟨r2, g2⟩ := r1.stored 3 (.int .i64 x2)
  have q1 : ∀ ty, (Builtin.copy_ #[106, 106] ty #[.slice (some ⟨g, 2, none⟩) 1 (cap - 1), .slice (some ⟨g, 0, none⟩) 2 cap]).run Try.prog W.drew = .ok (.int .i64 1) ((W.drew.setCell ⟨g, 2, none⟩ (.int .i64 x1)).setCell ⟨g, 3, none⟩ (.int .i64 x2)) := fun ty =>
    run_copyE W.drew ty g 2 1 (cap - 1) g 0 2 cap _ _ rfl c0 c1 (by show (W.cell? _).isSome = true; rw [c2]; rfl) (by show (W.cell? _).isSome = true; rw [c3]; rfl) hfz rfl rfl
  have G1 : W.grownBy ((W.drew.setCell ⟨g, 2, none⟩ (.int .i64 x1)).setCell ⟨g, 3, none⟩ (.int .i64 x2)) (some g) := (drew_grown W _).trans (g1.trans g2)
  generalize (W.drew.setCell ⟨g, 2, none⟩ (.int .i64 x1)).setCell ⟨g, 3, none⟩ (.int .i64 x2) = w1 at q1 r2 G1
  clear g1 g2 r1
  have r2' : w1.ownsRow N 75 2 (.slice (some ⟨g, 0, none⟩) 2 cap) 2 [.int .i64 x1, .int .i64 x2, .int .i64 x1, .int .i64 x2] := r2
  have v0' : w1.cell? ⟨vb, 0, none⟩ = some (.int .i64 e1) := G1.cell v0 (by simp [hne])
  have v1' : w1.cell? ⟨vb, 1, none⟩ = some (.int .i64 e2) := G1.cell v1 (by simp [hne])
  obtain ⟨r3, g3⟩ := r2'.stored 0 (.int .i64 e1)
  obtain ⟨r4, g4⟩ := r3.stored 1 (.int .i64 e2)
  have q2 : ∀ ty, (Builtin.copy_ #[106, 106] ty #[.slice (some ⟨g, 0, none⟩) 2 cap, .slice (some ⟨vb, 0, none⟩) 1 1]).run Try.prog w1 = .ok (.int .i64 1) ((w1.setCell ⟨g, 0, none⟩ (.int .i64 e1)).setCell ⟨g, 1, none⟩ (.int .i64 e2)) := fun ty =>
    run_copyE w1 ty g 0 2 cap vb 0 1 1 _ _ rfl v0' v1' (by rw [r2'.cellAt 0 (by omega)]; rfl) (by rw [r2'.cellAt 1 (by omega)]; rfl) (fun j => r2'.frozenAt j) rfl rfl
  have G2 : W.grownBy ((w1.setCell ⟨g, 0, none⟩ (.int .i64 e1)).setCell ⟨g, 1, none⟩ (.int .i64 e2)) (some g) := G1.trans (g3.trans g4)
  generalize (w1.setCell ⟨g, 0, none⟩ (.int .i64 e1)).setCell ⟨g, 1, none⟩ (.int .i64 e2) = w2 at q2 r4 G2
  have R4 : Hid (w2.ownsRow N 75 2 (.slice (some ⟨g, 0, none⟩) 2 cap) 2 (flatD [(e1, e2), (x1, x2)])) := r4
  have GG : Hid (W.grownBy w2 (some g)) := G2
  have hq1 : ¬ ((cap : Int) < 2) := by omega
  have hq2 : ¬ cap = 1 := by omega
  have hq3 : 1 ≤ cap := by omega
  clear h h2 hcur hcs hv c0 c1 c2 c3 f0 f1 f2 f3 v0 v1 r2 r2' r3 r4 g3 g4 G1 G2 v0' v1' hfz
  go_enter Try.func107, Try.ntmps107
  go_wp2
  go_region
  all_goals go_wp2
  all_goals go_ret
  all_goals exact ⟨rfl, R4.out, GG.out⟩
set_option maxRecDepth 100000 in
set_option maxHeartbeats 4000000 in
theorem ins_g (N g vb : Nat) (x1 x2 e1 e2 : Int) (W : World) (h : W.ownsRow N 75 2 (.slice (some ⟨g, 0, none⟩) 1 1) 1 (flatD [(x1, x2)])) (hv : W.heap[vb]? = some (.cells #[.int .i64 e1, .int .i64 e2] 75 (0, 0))) (hN : N ≤ W.heap.size) :
    Calls Try.prog 107 #[.slice (some ⟨g, 0, none⟩) 1 1, .int .i64 0, .slice (some ⟨vb, 0, none⟩) 1 1] W fun e w' => ∃ G, e = .returned (.slice (some ⟨W.heap.size, 0, none⟩) 2 G) ∧ w'.ownsRow N 75 2 (.slice (some ⟨W.heap.size, 0, none⟩) 2 G) 2 (flatD [(e1, e2), (x1, x2)]) ∧ W.grownBy w' none := by
  obtain ⟨i0, hi0, hz0, hz1, hz2⟩ := info_parts Try.hinfoE
  have c0 : W.cell? ⟨g, 0, none⟩ = some (.int .i64 x1) := (h.cellAt 0 (by omega)).trans rfl
  have c1 : W.cell? ⟨g, 1, none⟩ = some (.int .i64 x2) := (h.cellAt 1 (by omega)).trans rfl
  have v0 : W.cell? ⟨vb, 0, none⟩ = some (.int .i64 e1) := (cell_of_row W vb 0 _ _ _ hv).trans rfl
  have v1 : W.cell? ⟨vb, 1, none⟩ = some (.int .i64 e2) := (cell_of_row W vb 1 _ _ _ hv).trans rfl
  have hg : g ≠ W.heap.size := by have := World.block_lt_of_cell? W _ c0; simp at this; omega
  have hvb : vb ≠ W.heap.size := by have := World.block_lt_of_cell? W _ v0; simp at this; omega
  have q0 : ∀ ty, (Builtin.append_ #[106, 3] ty #[.slice (some ⟨g, 0, none⟩) 0 1, .int .i64 2]).run Try.prog W = .ok (.slice (some ⟨W.heap.size, 0, none⟩) 2 (grownCap W 2 1 75))
      (W.drew.alloc (.cells ((#[] : Array Value) ++ Builtin.zeroCells (Value.agg #[.int .i64 0, .int .i64 0]).cells 2 ++ Builtin.zeroCells (Value.agg #[.int .i64 0, .int .i64 0]).cells (grownCap W 2 1 75 - 2)) 75)) := fun ty => by
    have := Lib.run_append_grow_zeros (P := Try.prog) W 106 3 ty 75 i0 _ .i64 .i64 Try.underlying106 Try.underlying3 hi0 hz0 (some ⟨g, 0, none⟩) 0 1 [] (by simp [Builtin.firstCells, loadCells, go_sem]) 2 (by omega) (by omega) (by omega) (by decide) (by omega) (by rw [hz2]; decide)
    exact this
  have hG2 := grownCap_ge W 2 1 75
  have hGm := grownCap_le_maxLen W 2 1 75 (by unfold maxLen; omega)
  generalize grownCap W 2 1 75 = G at q0 hG2 hGm
  have hrow : (W.drew.alloc (.cells ((#[] : Array Value) ++ Builtin.zeroCells (Value.agg #[.int .i64 0, .int .i64 0]).cells 2 ++ Builtin.zeroCells (Value.agg #[.int .i64 0, .int .i64 0]).cells (G - 2)) 75)).ownsRow N 75 2 (.slice (some ⟨W.heap.size, 0, none⟩) 2 G) 2 [.int .i64 0, .int .i64 0, .int .i64 0, .int .i64 0] := by
    refine ⟨by simp, .inr ⟨W.heap.size, G, _, rfl, hN, heap_alloc_new W.drew _, hG2, hGm, ?_, ?_⟩⟩
    · simp [Builtin.zeroCells, Value.cells]; omega
    · rw [show (Value.agg #[.int .i64 0, .int .i64 0]).cells = #[.int .i64 0, .int .i64 0] by simp [Value.cells], Array.toList_append, Array.toList_append, zero2, zero2]; simp [List.replicate]
  have G0 : W.grownBy (W.drew.alloc (.cells ((#[] : Array Value) ++ Builtin.zeroCells (Value.agg #[.int .i64 0, .int .i64 0]).cells 2 ++ Builtin.zeroCells (Value.agg #[.int .i64 0, .int .i64 0]).cells (G - 2)) 75)) (some W.heap.size) :=
    ⟨rfl, rfl, rfl, by simp, fun k hk _ => Below.heap_alloc W.drew _ k hk⟩
  generalize W.drew.alloc (.cells ((#[] : Array Value) ++ Builtin.zeroCells (Value.agg #[.int .i64 0, .int .i64 0]).cells 2 ++ Builtin.zeroCells (Value.agg #[.int .i64 0, .int .i64 0]).cells (G - 2)) 75) = w1 at q0 hrow G0
  obtain ⟨r1, g1⟩ := hrow.stored 0 (.int .i64 e1)
  obtain ⟨r2, g2⟩ := r1.stored 1 (.int .i64 e2)
  have q1 : ∀ ty, (Builtin.copy_ #[106, 106] ty #[.slice (some ⟨W.heap.size, 0, none⟩) 2 G, .slice (some ⟨vb, 0, none⟩) 1 1]).run Try.prog w1 = .ok (.int .i64 1) ((w1.setCell ⟨W.heap.size, 0, none⟩ (.int .i64 e1)).setCell ⟨W.heap.size, 1, none⟩ (.int .i64 e2)) := fun ty =>
    run_copyE w1 ty W.heap.size 0 2 G vb 0 1 1 _ _ rfl (G0.cell v0 (by simp [hvb])) (G0.cell v1 (by simp [hvb])) (by rw [hrow.cellAt 0 (by omega)]; rfl) (by rw [hrow.cellAt 1 (by omega)]; rfl) (fun j => hrow.frozenAt j) rfl rfl
  have G1 := G0.trans (g1.trans g2)
  generalize (w1.setCell ⟨W.heap.size, 0, none⟩ (.int .i64 e1)).setCell ⟨W.heap.size, 1, none⟩ (.int .i64 e2) = w2 at q1 r2 G1
  have r2' : w2.ownsRow N 75 2 (.slice (some ⟨W.heap.size, 0, none⟩) 2 G) 2 [.int .i64 e1, .int .i64 e2, .int .i64 0, .int .i64 0] := r2
  obtain ⟨r3, g3⟩ := r2'.drew.stored 2 (.int .i64 x1)
  obtain ⟨r4, g4⟩ := r3.stored 3 (.int .i64 x2)
  have q2 : ∀ ty, (Builtin.copy_ #[106, 106] ty #[.slice (some ⟨W.heap.size, 2, none⟩) 1 (G - 1), .slice (some ⟨g, 0, none⟩) 1 1]).run Try.prog w2.drew = .ok (.int .i64 1) ((w2.drew.setCell ⟨W.heap.size, 2, none⟩ (.int .i64 x1)).setCell ⟨W.heap.size, 3, none⟩ (.int .i64 x2)) := fun ty =>
    run_copyE w2.drew ty W.heap.size 2 1 (G - 1) g 0 1 1 _ _ rfl (G1.cell c0 (by simp [hg])) (G1.cell c1 (by simp [hg])) (by rw [r2'.drew.cellAt 2 (by omega)]; rfl) (by rw [r2'.drew.cellAt 3 (by omega)]; rfl) (fun j => r2'.drew.frozenAt j) rfl rfl
  have G2 := G1.trans ((drew_grown w2 _).trans (g3.trans g4))
  generalize (w2.drew.setCell ⟨W.heap.size, 2, none⟩ (.int .i64 x1)).setCell ⟨W.heap.size, 3, none⟩ (.int .i64 x2) = w3 at q2 r4 G2
  have R4 : Hid (w3.ownsRow N 75 2 (.slice (some ⟨W.heap.size, 0, none⟩) 2 G) 2 (flatD [(e1, e2), (x1, x2)])) := r4
  have GG : Hid (W.grownBy w3 none) := ⟨G2.os, G2.tape, G2.output, G2.size, fun k hk _ => G2.block k hk (by simp; omega)⟩
  have hq2 : ¬ G = 1 := by omega
  have hq3 : 1 ≤ G := by omega
  clear h hv c0 c1 v0 v1 hrow r1 r2 r2' r3 r4 g1 g2 g3 g4 G0 G1 G2 hg hvb
  go_enter Try.func107, Try.ntmps107
  go_wp2_with (at_builtin; refine Lib.wpList_append_run _ rfl _ _ 106 3 rfl (.slice (some ⟨g, 0, none⟩) 0 1) (.int .i64 2) rfl rfl _ _ (q0 _) ?_)
  go_region
  all_goals go_wp2
  all_goals go_ret
  all_goals exact ⟨_, rfl, R4.out, GG.out⟩
end Go.Proofs.Ytdjmjdlolhfejaa
