/- Package stack: take, Take. -/
import Derived.Test.YtaphlhcenelkbaaSkH
namespace Go.Proofs.Ytaphlhcenelkbaa
open Go.RowKit Go.Maps

theorem set_same {w w' : World} {p : Addr} (v : Value) (h : w'.heap[p.block]? = w.heap[p.block]?) : (w'.setCell p v).heap[p.block]? = (w.setCell p v).heap[p.block]? := by
  unfold World.setCell
  simp only [Array.getElem?_modify]
  simp [h]
theorem below_set2 {N : Nat} {w w' : World} (h : Below N w w') (p : Addr) (v : Value) : Below N (w.setCell p v) (w'.setCell p v) :=
  ⟨h.os, h.tape, h.output, by simpa [World.setCell] using h.size, fun j hj => by
    by_cases e : j = p.block
    · subst e; exact set_same v (h.block _ hj)
    · exact (Below.heap_setCell _ _ _ _ e).trans ((h.block j hj).trans (Below.heap_setCell _ _ _ _ e).symm)⟩
theorem cut_last {w : World} {a : Option Addr} {c : Nat} {xs : List (Bool × Int)} (h : w.ownsRow 0 32 2 (.slice a xs.length c) xs.length (flatV xs)) (hx : xs ≠ []) : w.ownsRow 0 32 2 (.slice a (xs.length - 1) c) (xs.length - 1) (flatV xs.dropLast) := by
  refine own_cut (m := xs.length) (ys := flatV [xs.getLast hx]) ?_ (by rw [flatV_len]; simp) (by omega)
  rw [← flatV_app, List.dropLast_concat_getLast]
  exact h
set_option maxRecDepth 100000 in
set_option maxHeartbeats 1000000 in
theorem tk_no {W : World} {g q c : Nat} {a : Option Addr} (c0 : W.cell? ⟨g, q, none⟩ = some (.slice a 0 c)) : Calls Try.prog 35 #[.pointer (some ⟨g, q, none⟩)] W fun e w' => e = .returned (.tuple #[noV, .int .i64 35]) ∧ Below W.heap.size W w' := by
  have hg : g < W.heap.size := World.block_lt_of_cell? W _ c0
  have HP : Hid (∀ w, Below W.heap.size W w → Calls Try.prog 36 #[.pointer (some ⟨g, q, none⟩), .int .i64 0] w fun e w' => e = .returned (.tuple #[noV, .int .i64 35]) ∧ Below w.heap.size w w') := fun w hb => pk_no ((hb.cell (p := ⟨g, q, none⟩) hg).trans c0) (Nat.lt_of_lt_of_le hg hb.size) 0 (.inr (by simp))
  unfold noV at *
  clear c0
  go_enter Try.func35, Try.ntmps35
  go_wp2_with (go_at_call 36; refine (HP.out _ (by repeat (first | exact Below.refl _ _ | refine Below.setCell ?_ (by simp; try omega) _ | refine Below.alloc ?_ (by simp; try omega) _ | refine Below.drew ?_))).mono ?_; rintro e w1 ⟨rfl, hb⟩; obtain ⟨zB, z0, z1, zf, zL, zN⟩ := k2c (n := W.heap.size) hb; have B1 : Hid (Below W.heap.size W w1) := Below.step ((Below.refl _ _).alloc (Nat.le_refl _) _) hb; clear hb)
  refine bodyPost_ret (v := .tuple #[.agg #[.bool false, .int .i64 0], .int .i64 35]) (by simp [results, Try.results35, go_sem, z0, z1, zL]) rfl ⟨rfl, (by repeat (first | refine Below.setCell ?_ (by simp; try omega) _ | refine Below.alloc ?_ (by have := B1.out.size; simp; try omega) _ | refine Below.drew ?_ | exact B1.out))⟩
set_option maxRecDepth 100000 in
set_option maxHeartbeats 1000000 in
theorem tk_yes {W : World} {g q n c : Nat} {a : Option Addr} {v : Bool × Int} (c0 : W.cell? ⟨g, q, none⟩ = some (.slice a n c)) (hfz : W.frozen? ⟨g, q, none⟩ = false) (h0 : 0 < n) (hnc : n ≤ c) (hn : n ≤ 40) (HP : Hid (∀ w, Below W.heap.size W w → Calls Try.prog 36 #[.pointer (some ⟨g, q, none⟩), .int .i64 0] w fun e w' => e = .returned (.tuple #[vlV v, .int .i64 0]) ∧ Below w.heap.size w w')) : Calls Try.prog 35 #[.pointer (some ⟨g, q, none⟩)] W fun e w' => e = .returned (.tuple #[vlV v, .int .i64 0]) ∧ Below W.heap.size (W.setCell ⟨g, q, none⟩ (.slice a (n - 1) c)) w' := by
  have hg : g < W.heap.size := World.block_lt_of_cell? W _ c0
  have HD : Hid (∀ w, Below W.heap.size W w → Calls Try.prog 31 #[.pointer (some ⟨g, q, none⟩)] w fun e w' => e = .returned (.int .i64 (n : Int)) ∧ w' = w) := fun w hb => dep_o ((hb.cell (p := ⟨g, q, none⟩) hg).trans c0)
  obtain ⟨v1, v2⟩ := v
  unfold vlV at *
  have hgn : ¬ g = W.heap.size := by omega
  obtain ⟨m, rfl⟩ : ∃ m, n = m + 1 := ⟨n - 1, by omega⟩
  rw [Nat.add_sub_cancel]
  have w2 : IntKind.i64.wrap (m : Int) = (m : Int) := by rw [IntKind.wrap_i64]; omega
  have w4 : m ≤ c := by omega
  go_enter Try.func35, Try.ntmps35
  go_upto_region 4 with (go_at_call 36; refine (HP.out _ (by repeat (first | exact Below.refl _ _ | refine Below.setCell ?_ (by simp; try omega) _ | refine Below.alloc ?_ (by simp; try omega) _ | refine Below.drew ?_))).mono ?_; rintro e w1 ⟨rfl, hb⟩; obtain ⟨zB, z0, z1, zf, zL, zN⟩ := k2c (n := W.heap.size) hb; have B1 : Hid (Below W.heap.size W w1) := Below.step ((Below.refl _ _).alloc (Nat.le_refl _) _) hb; have y0 : w1.cell? ⟨g, q, none⟩ = some (.slice a (m + 1) c) := (B1.out.cell (p := ⟨g, q, none⟩) hg).trans c0; have yf : w1.frozen? ⟨g, q, none⟩ = false := (World.frozen?_of_block (B1.out.block g hg)).trans hfz; have gL : g < w1.heap.size := Nat.lt_of_lt_of_le hg B1.out.size; have gN : ¬ g = w1.heap.size := Nat.ne_of_lt gL; clear hb)
  go_region_law (refine step_call1 rfl 31 callDep (.tmp 20) 72 rfl (.pointer (some ⟨g, q, none⟩)) (by first | (simp [Act.eval]; done) | (simp [Act.eval, Act.put]; done)) (HD.out _ (by repeat (first | refine Below.setCell ?_ (by simp; try omega) _ | refine Below.alloc ?_ (by have := B1.out.size; simp; try omega) _ | refine Below.drew ?_ | exact B1.out))) ?_; rintro e w3 ⟨rfl, rfl⟩; refine ⟨_, rfl, ?_⟩)
  all_goals go_wp2
  all_goals refine bodyPost_ret (v := .tuple #[.agg #[.bool v1, .int .i64 v2], .int .i64 0]) (by simp [results, Try.results35, go_sem, z0, z1, zL]) rfl ⟨rfl, ?_⟩
  all_goals exact (by repeat (first | exact below_set2 B1.out _ _ | refine Below.setCell ?_ (by simp) _ | refine Below.alloc ?_ (by have := B1.out.size; simp; omega) _ | refine Below.drew ?_))
set_option maxRecDepth 100000 in
theorem takeK_err {W : World} {p : Value} {E : Int} (hE : ¬ E = 0) (HT : Hid (∀ w, Below W.heap.size W w → Calls Try.prog 30 #[p] w fun e w' => e = .returned (.tuple #[.pointer none, .int .i64 E]) ∧ w' = w)) : Calls Try.prog 21 #[p] W fun e w' => e = .returned (.tuple #[noV, .int .i64 E]) ∧ Below W.heap.size W w' := by
  go_enter Try.func21, Try.ntmps21
  go_wp2_with (go_at_call 30; refine (HT.out _ (by repeat (first | exact Below.refl _ _ | refine Below.setCell ?_ (by simp; try omega) _ | refine Below.alloc ?_ (by simp; try omega) _ | refine Below.drew ?_))).mono ?_; rintro e w1 ⟨rfl, rfl⟩)
  refine bodyPost_ret (v := .tuple #[noV, .int .i64 E]) (by simp [results, Try.results21, go_sem, noV]) rfl ⟨rfl, (by repeat (first | exact Below.refl _ _ | refine Below.setCell ?_ (by simp; try omega) _ | refine Below.alloc ?_ (by simp; try omega) _ | refine Below.drew ?_))⟩
theorem takeK_nil (W : World) : Calls Try.prog 21 #[.pointer none] W fun e w' => e = .returned (.tuple #[noV, .int .i64 2]) ∧ Below W.heap.size W w' := takeK_err (by decide) (fun w _ => top_nil w)
set_option maxRecDepth 100000 in
theorem takeK_no {W : World} {sb g q : Nat} (HT : Hid (∀ w, Below W.heap.size W w → Calls Try.prog 30 #[.pointer (some ⟨sb, 0, none⟩)] w fun e w' => e = .returned (.tuple #[.pointer (some ⟨g, q, none⟩), .int .i64 0]) ∧ w' = w.drew)) (HP : Hid (∀ w, Below W.heap.size W w → Calls Try.prog 35 #[.pointer (some ⟨g, q, none⟩)] w fun e w' => e = .returned (.tuple #[noV, .int .i64 35]) ∧ Below w.heap.size w w')) : Calls Try.prog 21 #[.pointer (some ⟨sb, 0, none⟩)] W fun e w' => e = .returned (.tuple #[noV, .int .i64 35]) ∧ Below W.heap.size W w' := by
  unfold noV at *
  go_enter Try.func21, Try.ntmps21
  go_wp2_with (first | (go_at_call 35; refine (HP.out _ (by repeat (first | exact Below.refl _ _ | refine Below.setCell ?_ (by simp; try omega) _ | refine Below.alloc ?_ (by simp; try omega) _ | refine Below.drew ?_))).mono ?_; rintro e w1 ⟨rfl, hb⟩; obtain ⟨zB, z0, z1, zf, zL, zN⟩ := k2c (n := W.heap.size) hb; have B1 : Hid (Below W.heap.size W w1) := Below.step ((Below.refl _ _).alloc (Nat.le_refl _) _) (Below.step (Below.refl _ _).drew hb); clear hb) | (go_at_call 30; refine (HT.out _ (by repeat (first | exact Below.refl _ _ | refine Below.setCell ?_ (by simp; try omega) _ | refine Below.alloc ?_ (by simp; try omega) _ | refine Below.drew ?_))).mono ?_; rintro e w1 ⟨rfl, rfl⟩))
  refine bodyPost_ret (v := .tuple #[.agg #[.bool false, .int .i64 0], .int .i64 35]) (by simp [results, Try.results21, go_sem, z0, z1]) rfl ⟨rfl, (by repeat (first | refine Below.setCell ?_ (by simp; try omega) _ | refine Below.alloc ?_ (by have := B1.out.size; simp; try omega) _ | refine Below.drew ?_ | exact B1.out))⟩
set_option maxRecDepth 100000 in
theorem takeK_yes {W : World} {sb g q : Nat} {v : Bool × Int} {v' : Value} (hg : g < W.heap.size) (HT : Hid (∀ w, Below W.heap.size W w → Calls Try.prog 30 #[.pointer (some ⟨sb, 0, none⟩)] w fun e w' => e = .returned (.tuple #[.pointer (some ⟨g, q, none⟩), .int .i64 0]) ∧ w' = w.drew)) (HP : Hid (∀ w, Below W.heap.size W w → Calls Try.prog 35 #[.pointer (some ⟨g, q, none⟩)] w fun e w' => e = .returned (.tuple #[vlV v, .int .i64 0]) ∧ Below w.heap.size (w.setCell ⟨g, q, none⟩ v') w')) : Calls Try.prog 21 #[.pointer (some ⟨sb, 0, none⟩)] W fun e w' => e = .returned (.tuple #[vlV v, .int .i64 0]) ∧ Below W.heap.size (W.setCell ⟨g, q, none⟩ v') w' := by
  obtain ⟨v1, v2⟩ := v
  unfold vlV at *
  go_enter Try.func21, Try.ntmps21
  go_wp2_with (first | (go_at_call 35; refine (HP.out _ (by repeat (first | exact Below.refl _ _ | refine Below.setCell ?_ (by simp; try omega) _ | refine Below.alloc ?_ (by simp; try omega) _ | refine Below.drew ?_))).mono ?_; rintro e w1 ⟨rfl, hb⟩; obtain ⟨zB, z0, z1, zf, zL, zN⟩ := k2c (n := W.heap.size) hb (by simp) ((Below.heap_setCell _ _ _ _ (Nat.ne_of_gt hg)).trans (halloc1 _ _)); have B1 : Hid (Below W.heap.size (W.setCell ⟨g, q, none⟩ v') w1) := (below_set2 (((Below.refl _ _).alloc (Nat.le_refl _) _).drew) _ _).trans (hb.mono (by simp)); clear hb) | (go_at_call 30; refine (HT.out _ (by repeat (first | exact Below.refl _ _ | refine Below.setCell ?_ (by simp; try omega) _ | refine Below.alloc ?_ (by simp; try omega) _ | refine Below.drew ?_))).mono ?_; rintro e w1 ⟨rfl, rfl⟩))
  refine bodyPost_ret (v := .tuple #[.agg #[.bool v1, .int .i64 v2], .int .i64 0]) (by simp [results, Try.results21, go_sem, z0, z1]) rfl ⟨rfl, (by repeat (first | refine Below.setCell ?_ (by simp; try omega) _ | refine Below.alloc ?_ (by have := B1.out.size; simp; try omega) _ | refine Below.drew ?_ | exact B1.out))⟩
/-- what Take answers, and the frames behind it -/
def tkO : List PF → Option (Bool × Int)
  | [] => none
  | f :: _ => f.xs.getLast?
def tkE : List PF → Int
  | [] => 6
  | f :: _ => oE 35 f.xs.getLast?
def tkP : List PF → List PF
  | [] => []
  | f :: r => { f with xs := f.xs.dropLast } :: r
theorem takeK_c {W : World} {S : Nat → Prop} {sb : Nat} {fv : Value} {fs : List Fr} (h : SkAt true W S sb fv fs) : Calls Try.prog 21 #[.pointer (some ⟨sb, 0, none⟩)] W fun e w' => e = .returned (.tuple #[oV (tkO (fs.map Fr.p)), .int .i64 (tkE (fs.map Fr.p))]) ∧ SkP true S W w' sb (tkP (fs.map Fr.p)) := by
  cases fs with
  | nil => exact (takeK_err (E := 6) (by decide) (fun w hb => top_none (h.below hb))).mono (fun e w' x => ⟨x.1, [], SkN.same h x.2, rfl⟩)
  | cons f r =>
    obtain ⟨g, c, rfl, hc, hf, hg, hne⟩ := h.topc
    have HT : Hid (∀ w, Below W.heap.size W w → Calls Try.prog 30 #[.pointer (some ⟨sb, 0, none⟩)] w fun e w' => e = .returned (.tuple #[.pointer (some ⟨g, r.length * 3, none⟩), .int .i64 0]) ∧ w' = w.drew) := fun w hb => top_yes (h.below hb)
    have hvo := h.vo f List.mem_cons_self
    obtain ⟨a, k1, hv⟩ := ownv hvo
    have hbd := h.bd f List.mem_cons_self
    have c0 : ∀ w, Below W.heap.size W w → w.cell? ⟨g, r.length * 3, none⟩ = some (.slice a f.xs.length k1) := fun w hb => (hb.cell (p := ⟨g, r.length * 3, none⟩) hg).trans ((hc 0 (by omega)).trans (by rw [← hv]; rfl))
    simp only [List.map_cons, tkO, tkE, tkP]
    by_cases h0 : f.xs.length = 0
    · have e : f.xs = [] := List.length_eq_zero_iff.1 h0
      have e1 : f.p.xs = [] := e
      rw [e1]
      refine (takeK_no HT (fun w hb => tk_no (by rw [← h0]; exact c0 w hb))).mono ?_
      rintro e w' ⟨rfl, hb⟩
      exact ⟨rfl, f :: r, SkN.same h hb, by simp [Fr.p, *]⟩
    · have hl : f.xs.length - 1 < f.xs.length := by omega
      have e1 : f.p.xs.getLast? = some f.xs[f.xs.length - 1] := by
        show f.xs.getLast? = _
        rw [List.getLast?_eq_getElem?]
        exact List.getElem?_eq_getElem hl
      have hcap : f.xs.length ≤ k1 := by
        rcases hvo.2 with ⟨e, e2⟩ | ⟨g', cap', cur, e, _, _, h3, _⟩
        · omega
        · rw [hv] at e; injection e with _ _ e; omega
      rw [e1]
      have HP : Hid (∀ w, Below W.heap.size W w → Calls Try.prog 36 #[.pointer (some ⟨g, r.length * 3, none⟩), .int .i64 0] w fun e w' => e = .returned (.tuple #[vlV f.xs[f.xs.length - 1], .int .i64 0]) ∧ Below w.heap.size w w') := fun w hb => by
        have := pk_c (c0 w hb) (by rw [← hv]; exact (h.below hb).vo f List.mem_cons_self) 0 (by omega)
        have e2 : pkI f.xs 0 = some f.xs[f.xs.length - 1] := by rw [pkI, if_pos (by omega)]; exact List.getElem?_eq_getElem hl
        rw [e2] at this
        exact this
      refine (takeK_yes (v := f.xs[f.xs.length - 1]) (v' := .slice a (f.xs.length - 1) k1) hg HT (fun w hb => tk_yes (c0 w hb) ((World.frozen?_of_block (hb.block g hg)).trans (hf _)) (by omega) hcap (by omega) (fun w2 hb2 => HP.out w2 (Below.step hb hb2)))).mono ?_
      rintro e w' ⟨rfl, hb⟩
      refine ⟨rfl, { f with vv := .slice a (f.xs.length - 1) k1, xs := f.xs.dropLast } :: r, ?_, by simp [Fr.p]⟩
      have hcut := cut_last (by rw [← hv]; exact hvo) (fun e => h0 (by rw [e]; rfl))
      refine SkN.aft (w1 := W.setCell ⟨g, r.length * 3, none⟩ (.slice a (f.xs.length - 1) k1)) (vv_fin h (.slice a (f.xs.length - 1) k1) f.xs.dropLast ⟨rfl, rfl, rfl, Nat.le_refl _, fun _ _ _ => rfl⟩ (by simpa using hcut) (fun j hj => .inl (by rw [hv, ← hj]; exact sl_own _ _ _ _)) (by simp; omega)) ?_
      simpa using hb
end Go.Proofs.Ytaphlhcenelkbaa
