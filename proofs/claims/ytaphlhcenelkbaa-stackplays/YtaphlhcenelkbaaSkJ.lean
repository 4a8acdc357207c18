/- Package stack: Leave. -/
import Derived.Test.YtaphlhcenelkbaaSkI
namespace Go.Proofs.Ytaphlhcenelkbaa
open Go.RowKit Go.Maps

theorem callWds (vs : Array Value) (w : World) : (callFunc 32 vs).run Try.prog w = .ok (.enter 32 vs) w := by simp [go_sem]
set_option maxRecDepth 100000 in
theorem lev_err {W : World} {p : Value} {E : Int} (hE : ¬ E = 0) (HT : Calls Try.prog 30 #[p] W fun e w' => e = .returned (.tuple #[.pointer none, .int .i64 E]) ∧ w' = W) : Calls Try.prog 16 #[p] W fun e w' => e = .returned (.int .i64 E) ∧ Below W.heap.size W w' := by
  go_enter Try.func16, Try.ntmps16
  go_wp2_with (go_at_call 30; refine (HT).mono ?_; rintro e w1 ⟨rfl, rfl⟩)
  go_ret
  exact ⟨rfl, (by repeat (first | exact Below.refl _ _ | refine Below.setCell ?_ (by simp; try omega) _ | refine Below.alloc ?_ (by simp; try omega) _ | refine Below.drew ?_))⟩
theorem lev_nil (W : World) : Calls Try.prog 16 #[.pointer none] W fun e w' => e = .returned (.int .i64 2) ∧ Below W.heap.size W w' := lev_err (by decide) (top_nil W)
theorem lev_mem {W : World} {S : Nat → Prop} {sb g c : Nat} {f : Fr} {r : List Fr} (h : SkAt true W S sb (.slice (some ⟨g, 0, none⟩) (r.length + 1) c) (f :: r)) (x : Int) (hx : x = (wdF r : Int)) {a b d : Value} : SkN true S W (((((W.setCell ⟨sb, 1, none⟩ (.int .i64 x)).setCell ⟨g, r.length * 3, none⟩ a).setCell ⟨g, r.length * 3 + 1, none⟩ b).setCell ⟨g, r.length * 3 + 2, none⟩ d).setCell ⟨sb, 0, none⟩ (.slice (some ⟨g, 0, none⟩) r.length c)) sb r := by
  have gne : g ≠ sb := fun e => h.fne (e ▸ rfl)
  have gS' : S g := h.oS g rfl
  refine lev_fin h (by simp) (fun j _ h1 h2 => ?_) ?_ ?_ ?_
  · rw [Below.heap_setCell _ _ _ _ h1, Below.heap_setCell _ _ _ _ h2, Below.heap_setCell _ _ _ _ h2, Below.heap_setCell _ _ _ _ h2, Below.heap_setCell _ _ _ _ h1]
  · have h0 := Go.Joins.block_setCell (i := 1) (v := .int .i64 x) h.hh
    have h1 : ((((W.setCell ⟨sb, 1, none⟩ (.int .i64 x)).setCell ⟨g, r.length * 3, none⟩ a).setCell ⟨g, r.length * 3 + 1, none⟩ b).setCell ⟨g, r.length * 3 + 2, none⟩ d).heap[sb]? = _ := (Below.heap_setCell _ _ _ _ (Ne.symm gne)).trans ((Below.heap_setCell _ _ _ _ (Ne.symm gne)).trans ((Below.heap_setCell _ _ _ _ (Ne.symm gne)).trans h0))
    rw [Go.Joins.block_setCell (i := 0) h1, hx]
    simp [hdC]
  · have h1 := own_keep h.ow (w' := W.setCell ⟨sb, 1, none⟩ (.int .i64 x)) (fun j hj => Below.heap_setCell _ _ _ _ (fun e => h.fne (hj.trans (congrArg some e))))
    have h2 := (((h1.stored (r.length * 3) a).1.stored (r.length * 3 + 1) b).1.stored (r.length * 3 + 2) d).1
    have h3 : (((flatF true (f :: r)).set (r.length * 3) a).set (r.length * 3 + 1) b).set (r.length * 3 + 2) d = flatF true r ++ [a, b, d] := by
      have := flatF_len true r
      rw [flatF, List.set_append, if_neg (by omega), List.set_append, if_neg (by omega), List.set_append, if_neg (by omega), this]
      simp [frC]
    rw [h3] at h2
    refine own_keep (own_cut h2 (by rw [flatF_len]) (by simp)) (fun j hj => Below.heap_setCell _ _ _ _ (fun e => gne ?_))
    simp [Value.ownBlock] at hj
    exact hj.trans e
  · exact (((((Tch.refl S W).set (p := ⟨sb, 1, none⟩) (.inl h.hS) _).set (p := ⟨g, r.length * 3, none⟩) (.inl gS') _).set (p := ⟨g, r.length * 3 + 1, none⟩) (.inl gS') _).set (p := ⟨g, r.length * 3 + 2, none⟩) (.inl gS') _).set (p := ⟨sb, 0, none⟩) (.inl h.hS) _
set_option maxRecDepth 100000 in
set_option maxHeartbeats 1000000 in
theorem lev_yes {W : World} {S : Nat → Prop} {sb : Nat} {fv : Value} {f : Fr} {r : List Fr} (h : SkAt true W S sb fv (f :: r)) : Calls Try.prog 16 #[.pointer (some ⟨sb, 0, none⟩)] W fun e w' => e = .returned (.int .i64 0) ∧ SkN true S W w' sb r := by
  obtain ⟨g, c, rfl, hc, hf, hg, hne⟩ := h.topc
  obtain ⟨c0, c1, fz, hl⟩ := h.cells
  have HT := top_yes h
  have hbd := h.bd f List.mem_cons_self
  obtain ⟨a1, k1, hv1⟩ := ownv (h.vo f List.mem_cons_self)
  obtain ⟨a2, k2, hv2⟩ := ownv (h.lo f List.mem_cons_self)
  have d0 : W.cell? ⟨g, r.length * 3, none⟩ = some (.slice a1 f.xs.length k1) := by rw [← hv1]; exact hc 0 (by omega)
  have d1 : W.cell? ⟨g, r.length * 3 + 1, none⟩ = some (.int .i64 (f.rm : Int)) := hc 1 (by omega)
  have d2 : W.cell? ⟨g, r.length * 3 + 2, none⟩ = some (.slice a2 f.ls.length k2) := by rw [← hv2]; exact hc 2 (by omega)
  have HW : Hid (Calls Try.prog 32 #[.pointer (some ⟨g, r.length * 3, none⟩)] W.drew.drew fun e w' => e = .returned (.int .i64 ((f.ls.length : Int) + (f.rm : Int) + 3)) ∧ w' = W.drew.drew.drew) := wds_f d1 d2 hbd.1 hbd.2.1
  have n4 := h.n4
  have hbn := h.bnd
  rw [wdF] at c1 n4
  have HH : Hid (SkAt true W S sb (.slice (some ⟨g, 0, none⟩) (r.length + 1) c) (f :: r)) := h
  have hcap : r.length + 1 ≤ c := by
    rcases h.ow.2 with ⟨e, _⟩ | ⟨g', cap', cur, e, _, _, h3, _⟩
    · cases e
    · injection e with _ _ e; subst e; simpa using h3
  simp only [List.length_cons] at hbn
  obtain ⟨n, hn⟩ : ∃ n, r.length = n := ⟨_, rfl⟩
  obtain ⟨x, hx⟩ : ∃ x, f.ls.length = x := ⟨_, rfl⟩
  obtain ⟨y, hy⟩ : ∃ y, f.rm = y := ⟨_, rfl⟩
  obtain ⟨z, hz⟩ : ∃ z, wdF r = z := ⟨_, rfl⟩
  rw [hn] at HT c0 d0 d1 d2 HW hbn hcap
  rw [hx, hy] at HW c1 n4
  rw [hx] at d2
  rw [hy] at d1
  rw [hz] at c1 n4
  have HN : Hid (r.length = n ∧ wdF r = z) := ⟨hn, hz⟩
  clear h hc hn hx hy hz hbd hv1 hv2
  have hne2 : ¬ g = sb := hne
  have hne3 : ¬ sb = g := fun e => hne e.symm
  have w2 : IntKind.i64.wrap (n : Int) = (n : Int) := by rw [IntKind.wrap_i64]; omega
  have hnc : n ≤ c := by omega
  have e1 := fz 1
  have e0 := fz 0
  have f0 := hf (n * 3)
  have f1 := hf (n * 3 + 1)
  have f2 := hf (n * 3 + 2)
  clear fz hf
  go_enter Try.func16, Try.ntmps16
  go_upto_region 4 with (go_at_call 30; refine (HT).mono ?_; rintro e w1 ⟨rfl, rfl⟩)
  go_region_law (refine step_call1 rfl 32 callWds (.tmp 17) 61 rfl (.pointer (some ⟨g, n * 3, none⟩)) (by first | (simp [Act.eval]; done) | (simp [Act.eval, Act.put]; done)) (HW.out) ?_; rintro e w3 ⟨rfl, rfl⟩; refine ⟨_, rfl, ?_⟩)
  all_goals go_upto_region 6 with fail
  all_goals go_region
  all_goals go_wp2
  all_goals
    go_ret
    refine ⟨rfl, ?_⟩
    obtain ⟨hn, hz⟩ := HN.out
    have fin := lev_mem (a := .slice none 0 0) (b := .int .i64 0) (d := .slice none 0 0) HH.out ((x : Int) + y + 3 + z - (x + y + 3)) (by rw [hz]; omega)
    rw [hn] at fin
    exact fin.aft (((((Below.refl _ _).drew).drew).drew).drew)
/-- what Leave answers, and the frames behind it -/
def lvE : List PF → Int
  | [] => 6
  | _ :: _ => 0
theorem lev_c {W : World} {S : Nat → Prop} {sb : Nat} {fv : Value} {fs : List Fr} (h : SkAt true W S sb fv fs) : Calls Try.prog 16 #[.pointer (some ⟨sb, 0, none⟩)] W fun e w' => e = .returned (.int .i64 (lvE (fs.map Fr.p))) ∧ SkP true S W w' sb (fs.map Fr.p).tail := by
  cases fs with
  | nil => exact (lev_err (E := 6) (by decide) (top_none h)).mono (fun e w' x => ⟨x.1, [], SkN.same h x.2, rfl⟩)
  | cons f r => exact (lev_yes h).mono (fun e w' x => ⟨x.1, r, x.2, rfl⟩)
end Go.Proofs.Ytaphlhcenelkbaa
