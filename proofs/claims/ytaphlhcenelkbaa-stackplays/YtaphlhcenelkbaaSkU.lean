/- The document's stack: Take, SetLocal, Enter. -/
import Derived.Test.YtaphlhcenelkbaaSkT
namespace Go.Proofs.Ytaphlhcenelkbaa
open Go.RowKit Go.Maps

set_option maxRecDepth 100000 in
theorem dtk_no {W : World} {p : Value} {E : Int} (hE : ¬ E = 0) (HP : Hid (∀ w, Below W.heap.size W w → Calls Try.prog 27 #[p, .int .i64 0] w fun e w' => e = .returned (.tuple #[noV, .int .i64 E]) ∧ Below w.heap.size w w')) : Calls Try.prog 26 #[p] W fun e w' => e = .returned (.tuple #[noV, .int .i64 E]) ∧ Below W.heap.size W w' := by
  unfold noV at *
  go_enter Try.func26, Try.ntmps26
  go_wp2_with (go_at_call 27; refine (HP.out _ (by repeat (first | exact Below.refl _ _ | refine Below.setCell ?_ (by simp; try omega) _ | refine Below.alloc ?_ (by simp; try omega) _ | refine Below.drew ?_))).mono ?_; rintro e w1 ⟨rfl, hb⟩; obtain ⟨zB, z0, z1, zf, zL, zN⟩ := k2c (n := W.heap.size) hb; have B1 : Hid (Below W.heap.size W w1) := Below.step ((Below.refl _ _).alloc (Nat.le_refl _) _) hb; clear hb)
  refine bodyPost_ret (v := .tuple #[.agg #[.bool false, .int .i64 0], .int .i64 E]) (by simp [results, Try.results26, go_sem, z0, z1, zL]) rfl ⟨rfl, (by repeat (first | refine Below.setCell ?_ (by simp; try omega) _ | refine Below.alloc ?_ (by have := B1.out.size; simp; try omega) _ | refine Below.drew ?_ | exact B1.out))⟩
set_option maxRecDepth 100000 in
set_option maxHeartbeats 1000000 in
theorem dtk_yes {W : World} {sb g n x c k1 : Nat} {a1 : Option Addr} {v : Bool × Int} (c0 : W.cell? ⟨sb, 0, none⟩ = some (.slice (some ⟨g, 0, none⟩) (n + 1) c)) (e1 : W.cell? ⟨g, n * 3 + 1, none⟩ = some (.slice a1 (x + 1) k1)) (hfz : W.frozen? ⟨g, n * 3 + 1, none⟩ = false) (hn : n ≤ 1332) (hx : x < k1) (hx4 : x < 40) (HP : Hid (∀ w, Below W.heap.size W w → Calls Try.prog 27 #[.pointer (some ⟨sb, 0, none⟩), .int .i64 0] w fun e w' => e = .returned (.tuple #[vlV v, .int .i64 0]) ∧ Below w.heap.size w w')) : Calls Try.prog 26 #[.pointer (some ⟨sb, 0, none⟩)] W fun e w' => e = .returned (.tuple #[vlV v, .int .i64 0]) ∧ Below W.heap.size (W.setCell ⟨g, n * 3 + 1, none⟩ (.slice a1 x k1)) w' := by
  have hg : g < W.heap.size := World.block_lt_of_cell? W _ e1
  have hl : sb < W.heap.size := World.block_lt_of_cell? W _ c0
  obtain ⟨v1, v2⟩ := v
  unfold vlV at *
  have w2 : IntKind.i64.wrap (x : Int) = (x : Int) := by rw [IntKind.wrap_i64]; omega
  have w4 : x ≤ k1 := by omega
  have h1 : ¬ ((n : Int) + 1 = 0) := by omega
  go_enter Try.func26, Try.ntmps26
  go_upto_region 3 with (go_at_call 27; refine (HP.out _ (by repeat (first | exact Below.refl _ _ | refine Below.setCell ?_ (by simp; try omega) _ | refine Below.alloc ?_ (by simp; try omega) _ | refine Below.drew ?_))).mono ?_; rintro e w1 ⟨rfl, hb⟩; obtain ⟨zB, z0, z1, zf, zL, zN⟩ := k2c (n := W.heap.size) hb; have B1 : Hid (Below W.heap.size W w1) := Below.step ((Below.refl _ _).alloc (Nat.le_refl _) _) hb; have y0 : w1.cell? ⟨g, n * 3 + 1, none⟩ = some (.slice a1 (x + 1) k1) := (B1.out.cell (p := ⟨g, n * 3 + 1, none⟩) hg).trans e1; have yf : w1.frozen? ⟨g, n * 3 + 1, none⟩ = false := (World.frozen?_of_block (B1.out.block g hg)).trans hfz; have x0 : w1.cell? ⟨sb, 0, none⟩ = some (.slice (some ⟨g, 0, none⟩) (n + 1) c) := (B1.out.cell (p := ⟨sb, 0, none⟩) hl).trans c0; have gL : g < w1.heap.size := Nat.lt_of_lt_of_le hg B1.out.size; have gN : ¬ g = w1.heap.size := Nat.ne_of_lt gL; have sL : sb < w1.heap.size := Nat.lt_of_lt_of_le hl B1.out.size; have sN : ¬ sb = w1.heap.size := Nat.ne_of_lt (Nat.lt_of_lt_of_le hl B1.out.size); clear hb)
  all_goals have gW : ¬ g = W.heap.size := by omega
  all_goals go_region
  all_goals go_upto_region 4 with fail
  all_goals go_region
  all_goals go_wp2
  all_goals refine bodyPost_ret (v := .tuple #[.agg #[.bool v1, .int .i64 v2], .int .i64 0]) (by simp [results, Try.results26, go_sem, z0, z1, zL]) rfl ⟨rfl, ?_⟩
  all_goals exact (by repeat (first | exact below_set2 B1.out _ _ | refine Below.setCell ?_ (by simp) _ | refine Below.alloc ?_ (by have := B1.out.size; simp; omega) _ | refine Below.drew ?_))
theorem dtk_c {W : World} {S : Nat → Prop} {sb : Nat} {fv : Value} {fs : List Fr} (h : SkAt false W S sb fv fs) : Calls Try.prog 26 #[.pointer (some ⟨sb, 0, none⟩)] W fun e w' => e = .returned (.tuple #[oV (tkO (fs.map Fr.p)), .int .i64 (tkE (fs.map Fr.p))]) ∧ SkP false S W w' sb (tkP (fs.map Fr.p)) := by
  cases fs with
  | nil => exact (dtk_no (E := 6) (by decide) (fun w hb => dpk_none (h.below hb) 0)).mono (fun e w' x => ⟨x.1, [], SkN.same h x.2, rfl⟩)
  | cons f r =>
    obtain ⟨g, c, a1, k1, a2, k2, rfl, hv1, hv2, c0, e0, e1, e2, hf, hg, hl, hne, hn⟩ := h.dtop
    have hvo := h.vo f List.mem_cons_self
    have hbd := h.bd f List.mem_cons_self
    simp only [List.map_cons, tkO, tkE, tkP]
    by_cases h0 : f.xs.length = 0
    · have e : f.xs = [] := List.length_eq_zero_iff.1 h0
      have ep : f.p.xs = [] := e
      rw [ep]
      refine (dtk_no (E := 35) (by decide) (fun w hb => ?_)).mono (fun e w' x => ⟨x.1, f :: r, SkN.same h x.2, by simp [Fr.p, *]⟩)
      have := dpk_yes (h.below hb) 0
      rw [e] at this
      exact this
    · have hlq : f.xs.length - 1 < f.xs.length := by omega
      have ep : f.p.xs.getLast? = some f.xs[f.xs.length - 1] := by
        show f.xs.getLast? = _
        rw [List.getLast?_eq_getElem?]
        exact List.getElem?_eq_getElem hlq
      have hcap : f.xs.length ≤ k1 := by
        rcases hvo.2 with ⟨e, e2⟩ | ⟨g', cap', cur, e, _, _, h3, _⟩
        · omega
        · rw [hv1] at e; injection e with _ _ e; omega
      rw [ep]
      have HP : Hid (∀ w, Below W.heap.size W w → Calls Try.prog 27 #[.pointer (some ⟨sb, 0, none⟩), .int .i64 0] w fun e w' => e = .returned (.tuple #[vlV f.xs[f.xs.length - 1], .int .i64 0]) ∧ Below w.heap.size w w') := fun w hb => by
        have := dpk_yes (h.below hb) 0
        have e2 : pkI f.xs 0 = some f.xs[f.xs.length - 1] := by rw [pkI, if_pos (by omega)]; exact List.getElem?_eq_getElem hlq
        rw [e2] at this
        exact this
      refine (dtk_yes (x := f.xs.length - 1) (v := f.xs[f.xs.length - 1]) c0 (by rw [e1]; congr 2; omega) (hf _) hn (by omega) (by omega) HP).mono ?_
      rintro e w' ⟨rfl, hb⟩
      refine ⟨rfl, { f with vv := .slice a1 (f.xs.length - 1) k1, xs := f.xs.dropLast } :: r, ?_, by simp [Fr.p]⟩
      have hcut := cut_last (by rw [← hv1]; exact hvo) (fun e => h0 (by rw [e]; rfl))
      refine SkN.aft (w1 := W.setCell ⟨g, r.length * 3 + 1, none⟩ (.slice a1 (f.xs.length - 1) k1)) (vv_fin h (.slice a1 (f.xs.length - 1) k1) f.xs.dropLast ⟨rfl, rfl, rfl, Nat.le_refl _, fun _ _ _ => rfl⟩ (by simpa using hcut) (fun j hj => .inl (by rw [hv1, ← hj]; exact sl_own _ _ _ _)) (by simp; omega)) ?_
      simpa using hb
set_option maxRecDepth 100000 in
theorem dsl_no {W : World} {p : Value} {i : Int} {v : Bool × Int} {E : Int} (hE : ¬ E = 0) (HL : Hid (∀ w, Below W.heap.size W w → Calls Try.prog 28 #[p, .int .i64 i] w fun e w' => e = .returned (.tuple #[noV, .int .i64 E]) ∧ Below w.heap.size w w')) : Calls Try.prog 29 #[p, .int .i64 i, vlV v] W fun e w' => e = .returned (.int .i64 E) ∧ Below W.heap.size W w' := by
  obtain ⟨v1, v2⟩ := v
  unfold vlV
  unfold noV at *
  go_enter Try.func29, Try.ntmps29
  go_wp2_with (go_at_call 28; refine (HL.out _ (by repeat (first | exact Below.refl _ _ | refine Below.setCell ?_ (by simp; try omega) _ | refine Below.alloc ?_ (by simp; try omega) _ | refine Below.drew ?_))).mono ?_; rintro e w1 ⟨rfl, hb⟩; have B1 : Hid (Below W.heap.size W w1) := Below.step ((Below.refl _ _).alloc (Nat.le_refl _) _) hb; clear hb)
  go_ret
  exact ⟨rfl, (by repeat (first | refine Below.setCell ?_ (by simp; try omega) _ | refine Below.alloc ?_ (by have := B1.out.size; simp; try omega) _ | refine Below.drew ?_ | exact B1.out))⟩
set_option maxRecDepth 100000 in
set_option maxHeartbeats 1000000 in
theorem dsl_yes {W : World} {sb g n x c k2 b i : Nat} {v y : Bool × Int} {z : Value} (c0 : W.cell? ⟨sb, 0, none⟩ = some (.slice (some ⟨g, 0, none⟩) (n + 1) c)) (e0 : W.cell? ⟨g, n * 3, none⟩ = some (.slice (some ⟨b, 0, none⟩) x k2)) (f0 : W.cell? ⟨b, i * 2, none⟩ = some (.bool y.1)) (f1 : W.cell? ⟨b, i * 2 + 1, none⟩ = some (.int .i64 y.2)) (fz0 : W.frozen? ⟨b, i * 2, none⟩ = false) (fz1 : W.frozen? ⟨b, i * 2 + 1, none⟩ = false) (hn : n ≤ 1332) (hi : i < x) (hz : z = vlV y) (HL : Hid (∀ w, Below W.heap.size W w → Calls Try.prog 28 #[.pointer (some ⟨sb, 0, none⟩), .int .i64 (i : Int)] w fun e w' => e = .returned (.tuple #[z, .int .i64 0]) ∧ Below w.heap.size w w')) : Calls Try.prog 29 #[.pointer (some ⟨sb, 0, none⟩), .int .i64 (i : Int), vlV v] W fun e w' => e = .returned (.int .i64 0) ∧ Below W.heap.size ((W.setCell ⟨b, i * 2, none⟩ (.bool v.1)).setCell ⟨b, i * 2 + 1, none⟩ (.int .i64 v.2)) w' := by
  have hg : g < W.heap.size := World.block_lt_of_cell? W _ e0
  have hl : sb < W.heap.size := World.block_lt_of_cell? W _ c0
  have hbl : b < W.heap.size := World.block_lt_of_cell? W _ f0
  obtain ⟨v1, v2⟩ := v
  obtain ⟨y1, y2⟩ := y
  simp only at f0 f1
  unfold vlV at *
  subst hz
  have h1 : ¬ ((n : Int) + 1 = 0) := by omega
  go_enter Try.func29, Try.ntmps29
  go_upto_region 3 with (go_at_call 28; refine (HL.out _ (by repeat (first | exact Below.refl _ _ | refine Below.setCell ?_ (by simp; try omega) _ | refine Below.alloc ?_ (by simp; try omega) _ | refine Below.drew ?_))).mono ?_; rintro e w1 ⟨rfl, hb⟩; obtain ⟨zB, z0, z1, zf, zL, zN⟩ := k2c (n := W.heap.size) hb; have B1 : Hid (Below W.heap.size W w1) := Below.step ((Below.refl _ _).alloc (Nat.le_refl _) _) hb; have q0 : w1.cell? ⟨g, n * 3, none⟩ = some (.slice (some ⟨b, 0, none⟩) x k2) := (B1.out.cell (p := ⟨g, n * 3, none⟩) hg).trans e0; have q1 : w1.cell? ⟨b, i * 2, none⟩ = some (.bool y1) := (B1.out.cell (p := ⟨b, i * 2, none⟩) hbl).trans f0; have q2 : w1.cell? ⟨b, i * 2 + 1, none⟩ = some (.int .i64 y2) := (B1.out.cell (p := ⟨b, i * 2 + 1, none⟩) hbl).trans f1; have q3 : w1.frozen? ⟨b, i * 2, none⟩ = false := (World.frozen?_of_block (B1.out.block b hbl)).trans fz0; have q4 : w1.frozen? ⟨b, i * 2 + 1, none⟩ = false := (World.frozen?_of_block (B1.out.block b hbl)).trans fz1; have x0 : w1.cell? ⟨sb, 0, none⟩ = some (.slice (some ⟨g, 0, none⟩) (n + 1) c) := (B1.out.cell (p := ⟨sb, 0, none⟩) hl).trans c0; have gL : g < w1.heap.size := Nat.lt_of_lt_of_le hg B1.out.size; have gN : ¬ g = w1.heap.size := Nat.ne_of_lt gL; have sL : sb < w1.heap.size := Nat.lt_of_lt_of_le hl B1.out.size; have sN : ¬ sb = w1.heap.size := Nat.ne_of_lt (Nat.lt_of_lt_of_le hl B1.out.size); have bL : b < w1.heap.size := Nat.lt_of_lt_of_le hbl B1.out.size; have bN : ¬ b = w1.heap.size := Nat.ne_of_lt (Nat.lt_of_lt_of_le hbl B1.out.size); clear hb)
  all_goals go_region
  all_goals go_wp2
  all_goals
    go_ret
    refine ⟨rfl, ?_⟩
  all_goals exact (by repeat (first | exact below_set2 (below_set2 B1.out _ _) _ _ | refine Below.alloc ?_ (by have := B1.out.size; simp; omega) _ | refine Below.drew ?_))
theorem dsl_c {W : World} {S : Nat → Prop} {sb : Nat} {fv : Value} {fs : List Fr} (h : SkAt false W S sb fv fs) (i : Int) (v : Bool × Int) : Calls Try.prog 29 #[.pointer (some ⟨sb, 0, none⟩), .int .i64 i, vlV v] W fun e w' => e = .returned (.int .i64 (slE fs i)) ∧ SkN false S W w' sb (slF i v fs) := by
  cases fs with
  | nil => exact (dsl_no (v := v) (E := 6) (by decide) (fun w hb => dlc_none (h.below hb) i)).mono (fun e w' x => ⟨x.1, SkN.same h x.2⟩)
  | cons f r =>
    obtain ⟨g, c, a1, k1, a2, k2, rfl, hv1, hv2, c0, e0, e1, e2, hf, hg, hl, hne, hn⟩ := h.dtop
    by_cases hi : 0 ≤ i ∧ i < (f.ls.length : Int)
    · obtain ⟨m, rfl⟩ : ∃ m : Nat, i = (m : Int) := ⟨i.toNat, by omega⟩
      rw [slE, slF, if_pos hi, if_pos hi]
      have hlo := h.lo f List.mem_cons_self
      obtain ⟨b, c', hform⟩ := Go.Joins.ownsRow_form hlo (by omega)
      have hm : m < f.ls.length := by omega
      have hlo2 := hlo
      rw [hform] at hlo2
      obtain ⟨g0, g1⟩ := flatV_at f.ls m _ (List.getElem?_eq_getElem hm)
      have e0' := e0
      rw [← hv2, hform] at e0'
      refine (dsl_yes (y := f.ls[m]) (z := vlV f.ls[m]) (v := v) (x := f.ls.length) c0 e0' ((hlo2.cellAt _ (by omega)).trans g0) ((hlo2.cellAt _ (by omega)).trans g1) (hlo2.frozenAt _) (hlo2.frozenAt _) hn hm rfl (fun w hb => ?_)).mono ?_
      · have := dlc_yes (h.below hb) (m : Int)
        have e : lcI f.ls m = some f.ls[m] := by rw [lcI, if_pos (by omega)]; simp
        rw [e] at this
        exact this
      · rintro e w' ⟨rfl, hb⟩
        refine ⟨rfl, SkN.aft (set_fin h m hform v) ?_⟩
        simpa using hb
    · rw [slE, slF, if_neg hi, if_neg hi]
      refine (dsl_no (v := v) (E := 3) (by decide) (fun w hb => ?_)).mono (fun e w' x => ⟨x.1, SkN.same h x.2⟩)
      have := dlc_yes (h.below hb) i
      have e : lcI f.ls i = none := by
        rw [lcI]
        split
        · exact List.getElem?_eq_none (by omega)
        · rfl
      rw [e] at this
      exact this
end Go.Proofs.Ytaphlhcenelkbaa
