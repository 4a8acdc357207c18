/- The document's stack: Leave, Put, Take, SetLocal. -/
import Derived.Test.YtaphlhcenelkbaaSkS
namespace Go.Proofs.Ytaphlhcenelkbaa
open Go.RowKit Go.Maps

set_option maxRecDepth 100000 in
theorem dlv_none {W : World} {S : Nat → Prop} {sb : Nat} {fv : Value} (h : SkAt false W S sb fv []) : Calls Try.prog 24 #[.pointer (some ⟨sb, 0, none⟩)] W fun e w' => e = .returned (.int .i64 6) ∧ Below W.heap.size W w' := by
  obtain ⟨c0, fz, hl⟩ := h.dcell
  obtain ⟨a, c, rfl⟩ := ownv h.ow
  simp only [List.length_nil] at c0
  clear h
  go_enter Try.func24, Try.ntmps24
  go_wp2
  go_ret
  exact ⟨rfl, (by repeat (first | exact Below.refl _ _ | refine Below.setCell ?_ (by simp; try omega) _ | refine Below.alloc ?_ (by simp; try omega) _ | refine Below.drew ?_))⟩
theorem dlv_mem {W : World} {S : Nat → Prop} {sb g c : Nat} {f : Fr} {r : List Fr} (h : SkAt false W S sb (.slice (some ⟨g, 0, none⟩) (r.length + 1) c) (f :: r)) : SkN false S W (W.setCell ⟨sb, 0, none⟩ (.slice (some ⟨g, 0, none⟩) r.length c)) sb r := by
  have gne : g ≠ sb := fun e => h.fne (e ▸ rfl)
  refine lev_fin h (by simp) (fun j _ h1 _ => Below.heap_setCell _ _ _ _ h1) ?_ ?_ ((Tch.refl S W).set (p := ⟨sb, 0, none⟩) (.inl h.hS) _)
  · rw [Go.Joins.block_setCell (i := 0) h.hh]
    simp [hdC]
  · have h2 : W.ownsRow 0 (tyF false) 3 (.slice (some ⟨g, 0, none⟩) (r.length + 1) c) (r.length + 1) (flatF false r ++ frC false f) := h.ow
    refine own_keep (own_cut h2 (by rw [flatF_len]) (by omega)) (fun j hj => Below.heap_setCell _ _ _ _ (fun e => gne ?_))
    simp [Value.ownBlock] at hj
    exact hj.trans e
set_option maxRecDepth 100000 in
theorem dlv_yes {W : World} {S : Nat → Prop} {sb : Nat} {fv : Value} {f : Fr} {r : List Fr} (h : SkAt false W S sb fv (f :: r)) : Calls Try.prog 24 #[.pointer (some ⟨sb, 0, none⟩)] W fun e w' => e = .returned (.int .i64 0) ∧ SkN false S W w' sb r := by
  obtain ⟨g, c, a1, k1, a2, k2, rfl, hv1, hv2, c0, e0, e1, e2, hf, hg, hl, hne, hn⟩ := h.dtop
  have fz := h.dcell.2.1 0
  have FIN : Hid _ := dlv_mem h
  have hcap : r.length ≤ c := by
    rcases h.ow.2 with ⟨e, _⟩ | ⟨g', cap', cur, e, _, _, h3, _⟩
    · cases e
    · injection e with _ _ e; subst e; simp at h3; omega
  obtain ⟨n, hN⟩ : ∃ n, r.length = n := ⟨_, rfl⟩
  rw [hN] at c0 hn hcap FIN
  clear h hv1 hv2 hN e0 e1 e2 hf
  have h1 : ¬ ((n : Int) + 1 = 0) := by omega
  have w2 : IntKind.i64.wrap (n : Int) = (n : Int) := by rw [IntKind.wrap_i64]; omega
  go_enter Try.func24, Try.ntmps24
  go_upto_region 3 with fail
  all_goals go_region
  all_goals go_wp2
  all_goals
    go_ret
    exact ⟨rfl, SkN.aft FIN.out ((Below.refl _ _).drew)⟩
set_option maxRecDepth 100000 in
theorem dput_none {W : World} {S : Nat → Prop} {sb : Nat} {fv : Value} (h : SkAt false W S sb fv []) (v : Bool × Int) : Calls Try.prog 25 #[.pointer (some ⟨sb, 0, none⟩), vlV v] W fun e w' => e = .returned (.int .i64 6) ∧ Below W.heap.size W w' := by
  obtain ⟨c0, fz, hl⟩ := h.dcell
  obtain ⟨a, c, rfl⟩ := ownv h.ow
  simp only [List.length_nil] at c0
  have hn : ¬ sb = W.heap.size := by omega
  obtain ⟨v1, v2⟩ := v
  unfold vlV
  clear h
  go_enter Try.func25, Try.ntmps25
  go_wp2
  go_ret
  exact ⟨rfl, (by repeat (first | exact Below.refl _ _ | refine Below.setCell ?_ (by simp; try omega) _ | refine Below.alloc ?_ (by simp; try omega) _ | refine Below.drew ?_))⟩
set_option maxRecDepth 100000 in
theorem dput_full {W : World} {S : Nat → Prop} {sb : Nat} {fv : Value} {f : Fr} {r : List Fr} (h : SkAt false W S sb fv (f :: r)) (hr : f.xs.length = f.rm) (v : Bool × Int) : Calls Try.prog 25 #[.pointer (some ⟨sb, 0, none⟩), vlV v] W fun e w' => e = .returned (.int .i64 35) ∧ Below W.heap.size W w' := by
  obtain ⟨g, c, a1, k1, a2, k2, rfl, hv1, hv2, c0, e0, e1, e2, hf, hg, hl, hne, hn⟩ := h.dtop
  obtain ⟨n, hN⟩ : ∃ n, r.length = n := ⟨_, rfl⟩
  rw [hN] at c0 e0 e1 e2 hn
  rw [hr] at e1
  clear h hv1 hv2 hN hr
  have h1 : ¬ ((n : Int) + 1 = 0) := by omega
  have s1 : ¬ sb = W.heap.size := by omega
  have s2 : ¬ g = W.heap.size := by omega
  obtain ⟨v1, v2⟩ := v
  unfold vlV
  go_enter Try.func25, Try.ntmps25
  go_upto_region 3 with fail
  all_goals go_region
  all_goals go_upto_region 4 with fail
  all_goals go_region
  all_goals go_wp2
  all_goals
    go_ret
    exact ⟨rfl, (by repeat (first | exact Below.refl _ _ | refine Below.setCell ?_ (by simp; try omega) _ | refine Below.alloc ?_ (by simp; try omega) _ | refine Below.drew ?_))⟩
set_option maxRecDepth 100000 in
set_option maxHeartbeats 1000000 in
theorem dput_yes {W : World} {S : Nat → Prop} {sb : Nat} {fv : Value} {f : Fr} {r : List Fr} (h : SkAt false W S sb fv (f :: r)) (hr : f.xs.length < f.rm) (v : Bool × Int) : Calls Try.prog 25 #[.pointer (some ⟨sb, 0, none⟩), vlV v] W fun e w' => e = .returned (.int .i64 0) ∧ ∃ v', SkN false S W w' sb ({ f with vv := v', xs := f.xs ++ [v] } :: r) := by
  obtain ⟨g, c, a1, k1, a2, k2, rfl, hv1, hv2, c0, e0, e1, e2, hf, hg, hl, hne, hn⟩ := h.dtop
  have hbd := h.bd f List.mem_cons_self
  have FIN : Hid (∀ (wr w5 : World) (v' : Value), Below W.heap.size W wr → wr.grownBy w5 f.vv.ownBlock → w5.ownsRow 0 32 2 v' (f.xs ++ [v]).length (flatV (f.xs ++ [v])) → (∀ j, v'.ownBlock = some j → f.vv.ownBlock = some j ∨ wr.heap.size ≤ j) → SkN false S W (w5.setCell ⟨g, r.length * 3 + 1, none⟩ v') sb ({ f with vv := v', xs := f.xs ++ [v] } :: r)) := fun wr w5 v' hb G5 O5 V5 => SkN.bel hb (vv_fin (h.below hb) v' (f.xs ++ [v]) G5 O5 V5 (by simp; omega))
  have ROW : Hid (W.ownsRow 0 32 2 (.slice a1 f.xs.length k1) f.xs.length (flatV f.xs)) := by have := h.vo f List.mem_cons_self; rw [hv1] at this; exact this
  have HNE : Hid (Value.ownBlock (.slice a1 f.xs.length k1) ≠ some g) := by rw [← hv1]; exact fun e => (h.own_far List.mem_cons_self (.inl e)).2 rfl
  rw [hv1, flatV_app] at FIN
  obtain ⟨n, hN⟩ : ∃ n, r.length = n := ⟨_, rfl⟩
  obtain ⟨x, hX⟩ : ∃ x, f.xs.length = x := ⟨_, rfl⟩
  obtain ⟨y, hY⟩ : ∃ y, f.rm = y := ⟨_, rfl⟩
  have hlen : (f.xs ++ [v]).length = x + 1 := by simp [hX]
  rw [hlen, hN, hX] at FIN
  rw [hN] at c0 e0 e1 e2 hn
  rw [hX] at e1 ROW HNE hr hbd
  rw [hY] at e2 hr hbd
  obtain ⟨v1, v2⟩ := v
  simp only [flatV] at FIN
  unfold vlV
  clear h hv1 hv2 hN hlen
  have h1 : ¬ ((n : Int) + 1 = 0) := by omega
  have h2 : ¬ ((x : Int) = (y : Int)) := by omega
  have s1 : ¬ sb = W.heap.size := by omega
  have s2 : ¬ g = W.heap.size := by omega
  have b1 : x ≤ 40 := by omega
  obtain ⟨i0, hi0, hz0, hz1, hz2⟩ := info_parts Try.hinfoVl
  have fz := hf (n * 3 + 1)
  go_enter Try.func25, Try.ntmps25
  go_upto_region 3 with fail
  all_goals go_region
  all_goals go_upto_region 4 with fail
  all_goals go_region
  all_goals go_upto_region 6 with fail
  all_goals go_region_law (refine step_append_lies _ rfl (.tmp 37) (.tmp 39) 38 rfl 0 32 i0 (.agg #[.bool false, .int .i64 0]) 2 16 Try.underlying38 hi0 hz0 hz1 hz2 rfl (by decide) (.slice a1 x k1) x (flatV f.xs) (by first | (simp [Act.eval]; done) | (simp [Act.eval, Act.put]; done)) ((((ROW.out.alloc _).drew.drew.drew)).alloc _) ⟨W.heap.size + 1, 0, none⟩ 1 1 [.bool v1, .int .i64 v2] (by first | (simp [Act.eval]; done) | (simp [Act.eval, Act.put]; done)) rfl (World.news_of_block (haA _ _ (by simp))) ?_ (by decide) ?_ ?_ (Nat.zero_le _) _ rfl ?_; (intro u hu; simp at hu; rcases hu with rfl | rfl <;> rfl); (unfold maxLen; omega); omega; intro g5 cap5 w5 hown hgrow hg5 hl5; have O5 : Hid _ := hown; have G5 : Hid _ := hgrow; have V5 : Hid _ := hg5; have y0 : w5.cell? ⟨g, n * 3 + 1, none⟩ = some (.slice a1 x k1) := grown_cell (by repeat (first | exact Below.refl _ _ | refine Below.setCell ?_ (by simp; try omega) _ | refine Below.alloc ?_ (by simp; try omega) _ | refine Below.drew ?_)) hgrow HNE.out e1; have yf : w5.frozen? ⟨g, n * 3 + 1, none⟩ = false := grown_frz (by repeat (first | exact Below.refl _ _ | refine Below.setCell ?_ (by simp; try omega) _ | refine Below.alloc ?_ (by simp; try omega) _ | refine Below.drew ?_)) hgrow hg HNE.out fz; clear hown hgrow hg5)
  all_goals go_wp2
  all_goals
    go_ret
    exact ⟨rfl, _, FIN.out _ w5 _ (by repeat (first | exact Below.refl _ _ | refine Below.setCell ?_ (by simp; try omega) _ | refine Below.alloc ?_ (by simp; try omega) _ | refine Below.drew ?_)) G5.out O5.out (fun j hj => by simp [Value.ownBlock] at hj; subst hj; exact V5.out.imp id (fun e => Nat.le_of_eq e.symm))⟩
end Go.Proofs.Ytaphlhcenelkbaa
