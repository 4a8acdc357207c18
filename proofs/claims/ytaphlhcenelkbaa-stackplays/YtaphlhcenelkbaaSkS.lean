/- The document's stack: Words, Depth, Peek, Local. -/
import Derived.Test.YtaphlhcenelkbaaSkO
namespace Go.Proofs.Ytaphlhcenelkbaa
open Go.RowKit Go.Maps

theorem flatF_app (k : Bool) : ∀ a b : List Fr, flatF k (a ++ b) = flatF k b ++ flatF k a
  | [], b => by simp [flatF]
  | f :: r, b => by simp [flatF, flatF_app k r b]
theorem SkAt.dcell {w : World} {S : Nat → Prop} {sb : Nat} {fv : Value} {fs : List Fr} (h : SkAt false w S sb fv fs) : w.cell? ⟨sb, 0, none⟩ = some fv ∧ (∀ k, w.frozen? ⟨sb, k, none⟩ = false) ∧ sb < w.heap.size := r1c h.hh
/-- the cells of a frame within the stack -/
theorem SkAt.atc {k : Bool} {w : World} {S : Nat → Prop} {sb : Nat} {fv : Value} {t r : List Fr} {f : Fr} (h : SkAt k w S sb fv (t ++ f :: r)) : ∃ g c, fv = .slice (some ⟨g, 0, none⟩) (t ++ f :: r).length c ∧ (∀ j, j < 3 → w.cell? ⟨g, r.length * 3 + j, none⟩ = (frC k f)[j]?) := by
  have hw := h.ow
  obtain ⟨g, c, rfl⟩ := Go.Joins.ownsRow_form hw (by simp; omega)
  refine ⟨g, c, rfl, fun j hj => ?_⟩
  rw [hw.cellAt (r.length * 3 + j) (by simp; omega), flatF_app, flatF, List.getElem?_append_left (by simp [flatF_len, frC_len]; omega), List.getElem?_append_right (by rw [flatF_len]; omega), flatF_len]
  congr 1
  omega
theorem drop_step {α : Type} {fs : List α} {i n : Nat} (hn : fs.length = n) (hi : i < n) : ∃ f, fs.drop (n - (i + 1)) = f :: fs.drop (n - i) ∧ fs = fs.take (n - (i + 1)) ++ f :: fs.drop (n - i) := by
  have h1 : n - (i + 1) < fs.length := by omega
  refine ⟨fs[n - (i + 1)], ?_, ?_⟩
  · rw [List.drop_eq_getElem_cons h1]; congr 2; omega
  · have : fs.drop (n - (i + 1)) = fs[n - (i + 1)] :: fs.drop (n - i) := by rw [List.drop_eq_getElem_cons h1]; congr 2; omega
    rw [← this, List.take_append_drop]
theorem wdF_drop : ∀ (fs : List Fr) (k : Nat), wdF (fs.drop k) ≤ wdF fs
  | [], k => by simp [wdF]
  | f :: r, 0 => by simp
  | f :: r, k + 1 => by have := wdF_drop r k; simp [wdF]; omega
set_option maxRecDepth 100000 in
set_option maxHeartbeats 1000000 in
theorem dwd_c {W : World} {S : Nat → Prop} {sb : Nat} {fv : Value} {fs : List Fr} (h : SkAt false W S sb fv fs) : Calls Try.prog 12 #[.pointer (some ⟨sb, 0, none⟩)] W fun e w' => e = .returned (.int .i64 (wdF fs : Int)) ∧ Below W.heap.size W w' := by
  obtain ⟨c0, fz, hl⟩ := h.dcell
  have hbn := h.bnd
  have HH : Hid (SkAt false W S sb fv fs) := h
  have n4 : Hid (wdF fs ≤ 4000) := h.n4
  obtain ⟨a, c, hfv⟩ := ownv h.ow
  obtain ⟨n, hn⟩ : ∃ n, fs.length = n := ⟨_, rfl⟩
  have HN : Hid (fs.length = n) := hn
  rw [hn] at hbn hfv
  have HF : Hid (fv = .slice a n c) := hfv
  rw [hfv] at c0
  clear h hn hfv
  go_enter Try.func12, Try.ntmps12
  go_wp2
  go_loopw [3, 4] (fun zv iv wr => ∃ i z : Nat, iv = .int .i64 (i : Int) ∧ zv = .int .i64 (z : Int) ∧ i ≤ n ∧ z ≤ 4000 ∧ Hid (wdF (fs.drop (n - i)) = z) ∧ Hid (Below W.heap.size W wr)) (fun _ iv _ => n - (intOf iv).toNat)
  case atStart => exact ⟨0, 0, rfl, rfl, Nat.zero_le _, Nat.zero_le _, by rw [Hid, Nat.sub_zero, List.drop_of_length_le (Nat.le_of_eq HN.out)]; rfl, Below.refl _ _⟩
  case round =>
    obtain ⟨i, z, rfl, rfl, hi, hz, HZ, HB⟩ := hrel
    have c0r := (HB.out.cell (p := ⟨sb, 0, none⟩) hl).trans c0
    by_cases hlt : i < n
    · obtain ⟨f, hd, hs⟩ := drop_step HN.out hlt
      have hat : ∃ g c', fv = .slice (some ⟨g, 0, none⟩) fs.length c' ∧ (∀ j, j < 3 → wr.cell? ⟨g, i * 3 + j, none⟩ = (frC false f)[j]?) := by
        have h0 := HH.out.below HB.out
        rw [hs] at h0
        obtain ⟨g, c', e, hc⟩ := h0.atc
        rw [← hs] at e
        refine ⟨g, c', e, ?_⟩
        have e2 : (fs.drop (n - i)).length = i := by simp [HN.out]; omega
        rw [e2] at hc
        exact hc
      obtain ⟨g, c', e, hc⟩ := hat
      rw [HF.out] at e
      injection e with ea _ ec
      subst ea ec
      have hbd := HH.out.bd f (by rw [hs]; simp)
      have hlo := HH.out.lo f (by rw [hs]; simp)
      obtain ⟨a2, k2, hv2⟩ := ownv hlo
      have e0 : wr.cell? ⟨g, i * 3, none⟩ = some (.slice a2 f.ls.length k2) := by rw [← hv2]; exact hc 0 (by omega)
      have e2 : wr.cell? ⟨g, i * 3 + 2, none⟩ = some (.int .i64 (f.rm : Int)) := hc 2 (by omega)
      have hz2 : wdF (fs.drop (n - (i + 1))) = f.ls.length + f.rm + 3 + z := by rw [hd, wdF, HZ.out]
      have hz3 := wdF_drop fs (n - (i + 1))
      have hz4 := n4.out
      obtain ⟨x, hx⟩ : ∃ x, f.ls.length = x := ⟨_, rfl⟩
      obtain ⟨y, hy⟩ : ∃ y, f.rm = y := ⟨_, rfl⟩
      rw [hx] at e0 hbd hz2
      rw [hy] at e2 hbd hz2
      have HZ2 : Hid (wdF (fs.drop (n - (i + 1))) = z + x + y + 3) := by rw [Hid, hz2]; omega
      have hxz : z + x + y + 3 ≤ 4000 := by rw [← HZ2.out]; omega
      have hlI : (i : Int) < (n : Int) := by omega
      have b1 : x ≤ 40 := hbd.1
      have b2 : y ≤ 40 := hbd.2.1
      clear hd hs hc hbd hlo hv2 hz2 hz3 hz4 hx hy HZ HH HF
      go_upto_region 5 with fail
      all_goals go_region
      all_goals go_wp2
      all_goals
        go_roundw
        case rel => exact ⟨i + 1, z + x + y + 3, by go_num, by go_num, by omega, hxz, HZ2, HB.out.drew⟩
        case measure => simp [intOf]; omega
    · obtain rfl : i = n := by omega
      have hlI : ¬ (i : Int) < (i : Int) := by omega
      have HZ2 : Hid (wdF fs = z) := by
        have := HZ.out
        rw [Nat.sub_self, List.drop_zero] at this
        exact this
      clear HZ HH HF
      go_wp2
      go_ret
      exact ⟨ret_int (by rw [HZ2.out]), HB.out⟩
theorem dwd_p {W : World} {S : Nat → Prop} {sb : Nat} {fv : Value} {fs : List Fr} (h : SkAt false W S sb fv fs) : Calls Try.prog 12 #[.pointer (some ⟨sb, 0, none⟩)] W fun e w' => e = .returned (.int .i64 (wdP (fs.map Fr.p) : Int)) ∧ Below W.heap.size W w' := by
  rw [← wdF_p]; exact dwd_c h
/-- the document's cells of the top frame -/
theorem SkAt.dtop {W : World} {S : Nat → Prop} {sb : Nat} {fv : Value} {f : Fr} {r : List Fr} (h : SkAt false W S sb fv (f :: r)) : ∃ g c a1 k1 a2 k2, fv = .slice (some ⟨g, 0, none⟩) (r.length + 1) c ∧ f.vv = .slice a1 f.xs.length k1 ∧ f.lv = .slice a2 f.ls.length k2 ∧ W.cell? ⟨sb, 0, none⟩ = some (.slice (some ⟨g, 0, none⟩) (r.length + 1) c) ∧ W.cell? ⟨g, r.length * 3, none⟩ = some (.slice a2 f.ls.length k2) ∧ W.cell? ⟨g, r.length * 3 + 1, none⟩ = some (.slice a1 f.xs.length k1) ∧ W.cell? ⟨g, r.length * 3 + 2, none⟩ = some (.int .i64 (f.rm : Int)) ∧ (∀ j, W.frozen? ⟨g, j, none⟩ = false) ∧ g < W.heap.size ∧ sb < W.heap.size ∧ g ≠ sb ∧ r.length ≤ 1332 := by
  obtain ⟨g, c, rfl, hc, hf, hg, hne⟩ := h.topc
  obtain ⟨c0, fz, hl⟩ := h.dcell
  obtain ⟨a1, k1, hv1⟩ := ownv (h.vo f List.mem_cons_self)
  obtain ⟨a2, k2, hv2⟩ := ownv (h.lo f List.mem_cons_self)
  have hbn := h.bnd
  refine ⟨g, c, a1, k1, a2, k2, rfl, hv1, hv2, c0, ?_, ?_, hc 2 (by omega), hf, hg, hl, hne, by simpa using hbn⟩
  · rw [← hv2]; exact hc 0 (by omega)
  · rw [← hv1]; exact hc 1 (by omega)
set_option maxRecDepth 100000 in
theorem ddp_none {W : World} {S : Nat → Prop} {sb : Nat} {fv : Value} (h : SkAt false W S sb fv []) : Calls Try.prog 14 #[.pointer (some ⟨sb, 0, none⟩)] W fun e w' => e = .returned (.int .i64 0) ∧ Below W.heap.size W w' := by
  obtain ⟨c0, fz, hl⟩ := h.dcell
  obtain ⟨a, c, rfl⟩ := ownv h.ow
  simp only [List.length_nil] at c0
  clear h
  go_enter Try.func14, Try.ntmps14
  go_wp2
  go_ret
  exact ⟨rfl, (by repeat (first | exact Below.refl _ _ | refine Below.setCell ?_ (by simp; try omega) _ | refine Below.alloc ?_ (by simp; try omega) _ | refine Below.drew ?_))⟩
set_option maxRecDepth 100000 in
theorem ddp_yes {W : World} {S : Nat → Prop} {sb : Nat} {fv : Value} {f : Fr} {r : List Fr} (h : SkAt false W S sb fv (f :: r)) : Calls Try.prog 14 #[.pointer (some ⟨sb, 0, none⟩)] W fun e w' => e = .returned (.int .i64 (f.xs.length : Int)) ∧ Below W.heap.size W w' := by
  obtain ⟨g, c, a1, k1, a2, k2, rfl, hv1, hv2, c0, e0, e1, e2, hf, hg, hl, hne, hn⟩ := h.dtop
  obtain ⟨n, hN⟩ : ∃ n, r.length = n := ⟨_, rfl⟩
  rw [hN] at c0 e0 e1 e2 hn
  clear h hv1 hv2 hN
  have h1 : ¬ ((n : Int) + 1 = 0) := by omega
  go_enter Try.func14, Try.ntmps14
  go_upto_region 3 with fail
  all_goals go_region
  all_goals go_wp2
  all_goals
    go_ret
    exact ⟨rfl, (by repeat (first | exact Below.refl _ _ | refine Below.setCell ?_ (by simp; try omega) _ | refine Below.alloc ?_ (by simp; try omega) _ | refine Below.drew ?_))⟩
set_option maxRecDepth 100000 in
theorem dpk_none {W : World} {S : Nat → Prop} {sb : Nat} {fv : Value} (h : SkAt false W S sb fv []) (k : Int) : Calls Try.prog 27 #[.pointer (some ⟨sb, 0, none⟩), .int .i64 k] W fun e w' => e = .returned (.tuple #[noV, .int .i64 6]) ∧ Below W.heap.size W w' := by
  obtain ⟨c0, fz, hl⟩ := h.dcell
  obtain ⟨a, c, rfl⟩ := ownv h.ow
  simp only [List.length_nil] at c0
  have hn : ¬ sb = W.heap.size := by omega
  clear h
  go_enter Try.func27, Try.ntmps27
  go_wp2
  refine bodyPost_ret (v := .tuple #[noV, .int .i64 6]) (by simp [results, Try.results27, go_sem, noV]) rfl ⟨rfl, (by repeat (first | exact Below.refl _ _ | refine Below.setCell ?_ (by simp; try omega) _ | refine Below.alloc ?_ (by simp; try omega) _ | refine Below.drew ?_))⟩
set_option maxRecDepth 100000 in
theorem dpk_yes {W : World} {S : Nat → Prop} {sb : Nat} {fv : Value} {f : Fr} {r : List Fr} (h : SkAt false W S sb fv (f :: r)) (k : Int) : Calls Try.prog 27 #[.pointer (some ⟨sb, 0, none⟩), .int .i64 k] W fun e w' => e = .returned (.tuple #[oV (pkI f.xs k), .int .i64 (oE 35 (pkI f.xs k))]) ∧ Below W.heap.size W w' := by
  obtain ⟨g, c, a1, k1, a2, k2, rfl, hv1, hv2, c0, e0, e1, e2, hf, hg, hl, hne, hn⟩ := h.dtop
  have hvo := h.vo f List.mem_cons_self
  rw [hv1] at hvo
  have hbd := h.bd f List.mem_cons_self
  obtain ⟨n, hN⟩ : ∃ n, r.length = n := ⟨_, rfl⟩
  obtain ⟨x, hX⟩ : ∃ x, f.xs.length = x := ⟨_, rfl⟩
  rw [hN] at c0 e0 e1 e2 hn
  rw [hX] at e1 hvo hbd
  have h1 : ¬ ((n : Int) + 1 = 0) := by omega
  have s1 : ¬ sb = W.heap.size := by omega
  have s2 : ¬ g = W.heap.size := by omega
  by_cases hk : 0 ≤ k ∧ k < (x : Int)
  · obtain ⟨m, rfl⟩ : ∃ m : Nat, k = (m : Int) := ⟨k.toNat, by omega⟩
    obtain ⟨p, hp⟩ : ∃ p, x - 1 - m = p := ⟨_, rfl⟩
    have hpl : p < f.xs.length := by omega
    have e : pkI f.xs m = some f.xs[p] := by rw [pkI, hX, if_pos hk, Int.toNat_natCast, hp]; exact List.getElem?_eq_getElem hpl
    rw [e]
    obtain ⟨b, c', hform⟩ := Go.Joins.ownsRow_form hvo (by omega)
    injection hform with ha _ hc
    subst ha hc
    obtain ⟨f0, f1⟩ := flatV_at f.xs p _ (List.getElem?_eq_getElem hpl)
    have y0 : W.cell? ⟨b, p * 2, none⟩ = some (.bool f.xs[p].1) := (hvo.cellAt _ (by omega)).trans f0
    have y1 : W.cell? ⟨b, p * 2 + 1, none⟩ = some (.int .i64 f.xs[p].2) := (hvo.cellAt _ (by omega)).trans f1
    have hb2 : b < W.heap.size := World.block_lt_of_cell? W _ y0
    have s3 : ¬ b = W.heap.size := by omega
    have q1 : ¬ (m : Int) < 0 := by omega
    have q2 : ¬ (x : Int) ≤ (m : Int) := by omega
    have q3 : (x : Int) - 1 - (m : Int) = (p : Int) := by omega
    have q4 : p < x := by omega
    have w1 : IntKind.i64.wrap ((x : Int) - 1) = (x : Int) - 1 := by rw [IntKind.wrap_i64]; omega
    have w2 : IntKind.i64.wrap (p : Int) = (p : Int) := by rw [IntKind.wrap_i64]; omega
    obtain ⟨v1, v2, hv3⟩ : ∃ v1 v2, f.xs[p] = (v1, v2) := ⟨_, _, rfl⟩
    rw [hv3] at y0 y1 ⊢
    simp only at y0 y1
    show Calls Try.prog 27 #[.pointer (some ⟨sb, 0, none⟩), .int .i64 (m : Int)] W fun e w' => e = .returned (.tuple #[.agg #[.bool v1, .int .i64 v2], .int .i64 0]) ∧ Below W.heap.size W w'
    clear h hv1 hv2 hN hX e hvo f0 f1 hk hp hv3 hbd
    go_enter Try.func27, Try.ntmps27
    go_upto_region 3 with fail
    all_goals go_region
    all_goals go_wp2
    all_goals refine bodyPost_ret (v := .tuple #[.agg #[.bool v1, .int .i64 v2], .int .i64 0]) (by simp [results, Try.results27, go_sem]) rfl ⟨rfl, (by repeat (first | exact Below.refl _ _ | refine Below.setCell ?_ (by simp; try omega) _ | refine Below.alloc ?_ (by simp; try omega) _ | refine Below.drew ?_))⟩
  · have e : pkI f.xs k = none := by rw [pkI, hX, if_neg hk]
    rw [e]
    show Calls Try.prog 27 #[.pointer (some ⟨sb, 0, none⟩), .int .i64 k] W fun e w' => e = .returned (.tuple #[noV, .int .i64 35]) ∧ Below W.heap.size W w'
    by_cases hk1 : k < 0
    · clear h hv1 hv2 hN hX e hvo hk hbd
      go_enter Try.func27, Try.ntmps27
      go_upto_region 3 with fail
      all_goals go_region
      all_goals go_wp2
      all_goals refine bodyPost_ret (v := .tuple #[noV, .int .i64 35]) (by simp [results, Try.results27, go_sem, noV]) rfl ⟨rfl, (by repeat (first | exact Below.refl _ _ | refine Below.setCell ?_ (by simp; try omega) _ | refine Below.alloc ?_ (by simp; try omega) _ | refine Below.drew ?_))⟩
    · have hk2 : (x : Int) ≤ k := by omega
      clear h hv1 hv2 hN hX e hvo hk hbd
      go_enter Try.func27, Try.ntmps27
      go_upto_region 3 with fail
      all_goals go_region
      all_goals go_wp2
      all_goals refine bodyPost_ret (v := .tuple #[noV, .int .i64 35]) (by simp [results, Try.results27, go_sem, noV]) rfl ⟨rfl, (by repeat (first | exact Below.refl _ _ | refine Below.setCell ?_ (by simp; try omega) _ | refine Below.alloc ?_ (by simp; try omega) _ | refine Below.drew ?_))⟩
set_option maxRecDepth 100000 in
theorem dlc_none {W : World} {S : Nat → Prop} {sb : Nat} {fv : Value} (h : SkAt false W S sb fv []) (k : Int) : Calls Try.prog 28 #[.pointer (some ⟨sb, 0, none⟩), .int .i64 k] W fun e w' => e = .returned (.tuple #[noV, .int .i64 6]) ∧ Below W.heap.size W w' := by
  obtain ⟨c0, fz, hl⟩ := h.dcell
  obtain ⟨a, c, rfl⟩ := ownv h.ow
  simp only [List.length_nil] at c0
  have hn : ¬ sb = W.heap.size := by omega
  clear h
  go_enter Try.func28, Try.ntmps28
  go_wp2
  refine bodyPost_ret (v := .tuple #[noV, .int .i64 6]) (by simp [results, Try.results28, go_sem, noV]) rfl ⟨rfl, (by repeat (first | exact Below.refl _ _ | refine Below.setCell ?_ (by simp; try omega) _ | refine Below.alloc ?_ (by simp; try omega) _ | refine Below.drew ?_))⟩
set_option maxRecDepth 100000 in
theorem dlc_yes {W : World} {S : Nat → Prop} {sb : Nat} {fv : Value} {f : Fr} {r : List Fr} (h : SkAt false W S sb fv (f :: r)) (k : Int) : Calls Try.prog 28 #[.pointer (some ⟨sb, 0, none⟩), .int .i64 k] W fun e w' => e = .returned (.tuple #[oV (lcI f.ls k), .int .i64 (oE 3 (lcI f.ls k))]) ∧ Below W.heap.size W w' := by
  obtain ⟨g, c, a1, k1, a2, k2, rfl, hv1, hv2, c0, e0, e1, e2, hf, hg, hl, hne, hn⟩ := h.dtop
  have hvo := h.lo f List.mem_cons_self
  rw [hv2] at hvo
  obtain ⟨n, hN⟩ : ∃ n, r.length = n := ⟨_, rfl⟩
  obtain ⟨x, hX⟩ : ∃ x, f.ls.length = x := ⟨_, rfl⟩
  rw [hN] at c0 e0 e1 e2 hn
  rw [hX] at e0 hvo
  have h1 : ¬ ((n : Int) + 1 = 0) := by omega
  have s1 : ¬ sb = W.heap.size := by omega
  have s2 : ¬ g = W.heap.size := by omega
  by_cases hk : 0 ≤ k ∧ k < (x : Int)
  · obtain ⟨p, rfl⟩ : ∃ m : Nat, k = (m : Int) := ⟨k.toNat, by omega⟩
    have hpl : p < f.ls.length := by omega
    have e : lcI f.ls p = some f.ls[p] := by rw [lcI, if_pos (by omega)]; simp
    rw [e]
    obtain ⟨b, c', hform⟩ := Go.Joins.ownsRow_form hvo (by omega)
    injection hform with ha _ hc
    subst ha hc
    obtain ⟨f0, f1⟩ := flatV_at f.ls p _ (List.getElem?_eq_getElem hpl)
    have y0 : W.cell? ⟨b, p * 2, none⟩ = some (.bool f.ls[p].1) := (hvo.cellAt _ (by omega)).trans f0
    have y1 : W.cell? ⟨b, p * 2 + 1, none⟩ = some (.int .i64 f.ls[p].2) := (hvo.cellAt _ (by omega)).trans f1
    have hb2 : b < W.heap.size := World.block_lt_of_cell? W _ y0
    have s3 : ¬ b = W.heap.size := by omega
    have q1 : ¬ (p : Int) < 0 := by omega
    have q2 : ¬ (x : Int) ≤ (p : Int) := by omega
    have q4 : p < x := by omega
    obtain ⟨v1, v2, hv3⟩ : ∃ v1 v2, f.ls[p] = (v1, v2) := ⟨_, _, rfl⟩
    rw [hv3] at y0 y1 ⊢
    simp only at y0 y1
    show Calls Try.prog 28 #[.pointer (some ⟨sb, 0, none⟩), .int .i64 (p : Int)] W fun e w' => e = .returned (.tuple #[.agg #[.bool v1, .int .i64 v2], .int .i64 0]) ∧ Below W.heap.size W w'
    clear h hv1 hv2 hN hX e hvo f0 f1 hk hv3
    go_enter Try.func28, Try.ntmps28
    go_upto_region 3 with fail
    all_goals go_region
    all_goals go_wp2
    all_goals refine bodyPost_ret (v := .tuple #[.agg #[.bool v1, .int .i64 v2], .int .i64 0]) (by simp [results, Try.results28, go_sem]) rfl ⟨rfl, (by repeat (first | exact Below.refl _ _ | refine Below.setCell ?_ (by simp; try omega) _ | refine Below.alloc ?_ (by simp; try omega) _ | refine Below.drew ?_))⟩
  · have e : lcI f.ls k = none := by
      rw [lcI]
      split
      · exact List.getElem?_eq_none (by omega)
      · rfl
    rw [e]
    show Calls Try.prog 28 #[.pointer (some ⟨sb, 0, none⟩), .int .i64 k] W fun e w' => e = .returned (.tuple #[noV, .int .i64 3]) ∧ Below W.heap.size W w'
    by_cases hk1 : k < 0
    · clear h hv1 hv2 hN hX e hvo hk
      go_enter Try.func28, Try.ntmps28
      go_upto_region 3 with fail
      all_goals go_region
      all_goals go_wp2
      all_goals refine bodyPost_ret (v := .tuple #[noV, .int .i64 3]) (by simp [results, Try.results28, go_sem, noV]) rfl ⟨rfl, (by repeat (first | exact Below.refl _ _ | refine Below.setCell ?_ (by simp; try omega) _ | refine Below.alloc ?_ (by simp; try omega) _ | refine Below.drew ?_))⟩
    · have hk2 : (x : Int) ≤ k := by omega
      clear h hv1 hv2 hN hX e hvo hk
      go_enter Try.func28, Try.ntmps28
      go_upto_region 3 with fail
      all_goals go_region
      all_goals go_wp2
      all_goals refine bodyPost_ret (v := .tuple #[noV, .int .i64 3]) (by simp [results, Try.results28, go_sem, noV]) rfl ⟨rfl, (by repeat (first | exact Below.refl _ _ | refine Below.setCell ?_ (by simp; try omega) _ | refine Below.alloc ?_ (by simp; try omega) _ | refine Below.drew ?_))⟩
end Go.Proofs.Ytaphlhcenelkbaa
