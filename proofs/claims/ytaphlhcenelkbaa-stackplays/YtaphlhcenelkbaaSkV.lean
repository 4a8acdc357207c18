/- The document's stack: Enter; all its calls by the frames alone. -/
import Derived.Test.YtaphlhcenelkbaaSkU
namespace Go.Proofs.Ytaphlhcenelkbaa
open Go.RowKit Go.Maps

theorem Try.hinfoDf : (Try.prog.info? 60).map (fun i => (i.zero, i.size, i.bytes)) = some (some (.agg #[.slice none 0 0, .slice none 0 0, .int .i64 0]), 3, 56) := by kernel_rfl
set_option maxRecDepth 100000 in
theorem den_arg (sb : Nat) (l m : Int) (h : l < 0 ∨ 40 < l ∨ m < 0 ∨ 40 < m) (W : World) : Calls Try.prog 23 #[.pointer (some ⟨sb, 0, none⟩), .int .i64 l, .int .i64 m] W fun e w' => e = .returned (.int .i64 2) ∧ Below W.heap.size W w' := by
  by_cases h1 : l < 0
  · clear h
    go_enter Try.func23, Try.ntmps23
    go_wp2
    go_ret
    exact ⟨rfl, (by repeat (first | exact Below.refl _ _ | refine Below.setCell ?_ (by simp; try omega) _ | refine Below.alloc ?_ (by simp; try omega) _ | refine Below.drew ?_))⟩
  · by_cases h2 : 40 < l
    · clear h
      go_enter Try.func23, Try.ntmps23
      go_wp2
      go_ret
      exact ⟨rfl, (by repeat (first | exact Below.refl _ _ | refine Below.setCell ?_ (by simp; try omega) _ | refine Below.alloc ?_ (by simp; try omega) _ | refine Below.drew ?_))⟩
    · by_cases h3 : m < 0
      · clear h
        go_enter Try.func23, Try.ntmps23
        go_wp2
        go_ret
        exact ⟨rfl, (by repeat (first | exact Below.refl _ _ | refine Below.setCell ?_ (by simp; try omega) _ | refine Below.alloc ?_ (by simp; try omega) _ | refine Below.drew ?_))⟩
      · have h4 : 40 < m := by omega
        clear h
        go_enter Try.func23, Try.ntmps23
        go_wp2
        go_ret
        exact ⟨rfl, (by repeat (first | exact Below.refl _ _ | refine Below.setCell ?_ (by simp; try omega) _ | refine Below.alloc ?_ (by simp; try omega) _ | refine Below.drew ?_))⟩
set_option maxRecDepth 100000 in
theorem den_full {W : World} {S : Nat → Prop} {sb : Nat} {fv : Value} {fs : List Fr} (h : SkAt false W S sb fv fs) (l m : Nat) (hl : l ≤ 40) (hm : m ≤ 40) (hw : 4000 < wdF fs + l + m + 3) : Calls Try.prog 23 #[.pointer (some ⟨sb, 0, none⟩), .int .i64 (l : Int), .int .i64 (m : Int)] W fun e w' => e = .returned (.int .i64 33) ∧ Below W.heap.size W w' := by
  have n4 := h.n4
  obtain ⟨z, hz⟩ : ∃ z, wdF fs = z := ⟨_, rfl⟩
  have HW : Hid (Calls Try.prog 12 #[.pointer (some ⟨sb, 0, none⟩)] W fun e w' => e = .returned (.int .i64 (z : Int)) ∧ Below W.heap.size W w') := by rw [← hz]; exact dwd_c h
  rw [hz] at n4 hw
  have g1 : ¬ (l : Int) < 0 := by omega
  have g2 : ¬ 40 < (l : Int) := by omega
  have g3 : ¬ (m : Int) < 0 := by omega
  have g4 : ¬ 40 < (m : Int) := by omega
  have hw2 : 4000 < (z : Int) + (l : Int) + (m : Int) + 3 := by omega
  clear h hz hw
  go_enter Try.func23, Try.ntmps23
  go_wp2_with (go_at_call 12; refine (HW.out).mono ?_; rintro e w1 ⟨rfl, hb⟩; have B1 : Hid (Below W.heap.size W w1) := hb; clear hb)
  go_ret
  exact ⟨rfl, B1.out⟩
theorem den_mem {W wr w5 : World} {S : Nat → Prop} {sb b : Nat} {fv v' : Value} {fs : List Fr} (h : SkAt false W S sb fv fs) {l m : Nat} (hl : l ≤ 40) (hm : m ≤ 40) (hw : wdF fs + l + m + 3 ≤ 4000) (hb : Below W.heap.size W wr) (hlb : W.heap.size ≤ b) (hB : wr.heap[b]? = some (.cells (flatV (List.replicate l (false, 0))).toArray 32 (0, 0))) (G5 : wr.grownBy w5 fv.ownBlock) (O5 : w5.ownsRow 0 60 3 v' (fs.length + 1) (flatF false fs ++ [.slice (some ⟨b, 0, none⟩) l l, .slice none 0 0, .int .i64 (m : Int)])) (V5 : ∀ j, v'.ownBlock = some j → fv.ownBlock = some j ∨ wr.heap.size ≤ j) : SkN false S W (w5.setCell ⟨sb, 0, none⟩ v') sb (newF b l m :: fs) := by
  have z0 := hb.size
  have s5 : w5.heap[sb]? = some (.cells #[fv] 29 (0, 0)) := (G5.block sb (by have := h.lt; omega) (fun e => h.fne e.symm)).trans ((hb.block sb h.lt).trans h.hh)
  refine ent_fin (k := false) h hl hm hw hb hlb hB G5 O5 V5 (by simp) (fun j hj => Below.heap_setCell _ _ _ _ hj) ?_ ?_
  · rw [Go.Joins.block_setCell (i := 0) s5 _]
    simp [hdC, tyS]
  · exact (((Tch.refl S W).bel hb).grown G5 (fun j hj => .inl (h.oS j hj))).set (p := ⟨sb, 0, none⟩) (.inl h.hS) _
set_option maxRecDepth 100000 in
set_option maxHeartbeats 2000000 in
theorem den_ok {W : World} {S : Nat → Prop} {sb : Nat} {fv : Value} {fs : List Fr} (h : SkAt false W S sb fv fs) (l m : Nat) (hl : l ≤ 40) (hm : m ≤ 40) (hw : wdF fs + l + m + 3 ≤ 4000) : Calls Try.prog 23 #[.pointer (some ⟨sb, 0, none⟩), .int .i64 (l : Int), .int .i64 (m : Int)] W fun e w' => e = .returned (.int .i64 0) ∧ ∃ b, SkN false S W w' sb (newF b l m :: fs) := by
  obtain ⟨c0, fz, hsl⟩ := h.dcell
  obtain ⟨a, c, hfv⟩ := ownv h.ow
  have hbn := h.bnd
  have HH : Hid (SkAt false W S sb fv fs) := h
  have FIN : Hid (∀ (wr w5 : World) (b : Nat) (v' : Value), _) := fun wr w5 b v' => den_mem (wr := wr) (w5 := w5) (b := b) (v' := v') h hl hm hw
  have HNE : Hid (fv.ownBlock ≠ some sb) := h.fne
  have n4 := h.n4
  obtain ⟨z, hz⟩ : ∃ z, wdF fs = z := ⟨_, rfl⟩
  obtain ⟨n, hn⟩ : ∃ n, fs.length = n := ⟨_, rfl⟩
  have HW : Hid (Calls Try.prog 12 #[.pointer (some ⟨sb, 0, none⟩)] W fun e w' => e = .returned (.int .i64 (z : Int)) ∧ Below W.heap.size W w') := by rw [← hz]; exact dwd_c h
  have ROW : Hid (∀ w, Below W.heap.size W w → w.ownsRow 0 60 3 (.slice a n c) n (flatF false fs)) := fun w hb => by have := (h.below hb).ow; rw [hfv, hn] at this; exact this
  rw [hfv] at c0 FIN HNE
  have f0 := fz 0
  rw [hz] at hw n4
  rw [hn] at c0 FIN HNE hbn
  have hmk := mk_vals l (by omega)
  obtain ⟨i0, hi0, hz0, hz1, hz2⟩ := info_parts Try.hinfoDf
  have g1 : ¬ (l : Int) < 0 := by omega
  have g2 : ¬ 40 < (l : Int) := by omega
  have g3 : ¬ (m : Int) < 0 := by omega
  have g4 : ¬ 40 < (m : Int) := by omega
  have hw2 : ¬ 4000 < (z : Int) + (l : Int) + (m : Int) + 3 := by omega
  clear h hz hn hw hfv fz HH
  go_enter Try.func23, Try.ntmps23
  go_upto_region 5 with (go_at_call 12; refine (HW.out).mono ?_; rintro e w1 ⟨rfl, hb⟩; have B1 : Hid (Below W.heap.size W w1) := hb; have x0 : w1.cell? ⟨sb, 0, none⟩ = some (.slice a n c) := (hb.cell (p := ⟨sb, 0, none⟩) hsl).trans c0; have xf : w1.frozen? ⟨sb, 0, none⟩ = false := (World.frozen?_of_block (hb.block sb hsl)).trans f0; have sL : sb < w1.heap.size := Nat.lt_of_lt_of_le hsl hb.size; have sN : ¬ sb = w1.heap.size := Nat.ne_of_lt sL; have sM : ¬ sb = w1.heap.size + 1 := (by omega); have cc : ∀ o1 o2 : Obj, ((w1.alloc o1).alloc o2).cell? ⟨sb, 0, none⟩ = some (.slice a n c) := (fun o1 o2 => (Below.cell (B := w1.heap.size) (p := ⟨sb, 0, none⟩) (((Below.refl _ _).alloc (Nat.le_refl _) _).alloc (by simp) _) sL).trans x0); clear hb)
  go_region_law (refine step_append_lies _ rfl (.tmp 33) (.tmp 38) 27 rfl 0 60 i0 (.agg #[.slice none 0 0, .slice none 0 0, .int .i64 0]) 3 56 Try.underlying27 hi0 hz0 hz1 hz2 rfl (by decide) (.slice a n c) n (flatF false fs) (by first | (simp [Act.eval]; done) | (simp [Act.eval, Act.put]; done)) (ROW.out _ (by repeat (first | refine Below.setCell ?_ (by simp; try omega) _ | refine Below.alloc ?_ (by have := B1.out.size; simp; try omega) _ | refine Below.drew ?_ | exact B1.out))) ⟨w1.heap.size + 1, 0, none⟩ 1 1 [.slice (some ⟨w1.heap.size, 0, none⟩) l l, .slice none 0 0, .int .i64 (m : Int)] (by first | (simp [Act.eval]; done) | (simp [Act.eval, Act.put]; done)) rfl (World.news_of_block (haA _ _ (by simp))) ?_ (by decide) ?_ ?_ (Nat.zero_le _) _ rfl ?_; (intro u hu; simp at hu; rcases hu with rfl | rfl | rfl <;> rfl); (unfold maxLen; omega); omega; intro g5 cap5 w5 hown hgrow hg5 hl5; have O5 : Hid _ := hown; have G5 : Hid _ := hgrow; have V5 : Hid _ := hg5; have y0 : w5.cell? ⟨sb, 0, none⟩ = some (.slice a n c) := grown_cell (by repeat (first | refine Below.setCell ?_ (by simp; try omega) _ | refine Below.alloc ?_ (by have := B1.out.size; simp; try omega) _ | refine Below.drew ?_ | exact B1.out)) hgrow HNE.out c0; have yf0 : w5.frozen? ⟨sb, 0, none⟩ = false := grown_frz (by repeat (first | refine Below.setCell ?_ (by simp; try omega) _ | refine Below.alloc ?_ (by have := B1.out.size; simp; try omega) _ | refine Below.drew ?_ | exact B1.out)) hgrow hsl HNE.out f0; clear hown hgrow hg5)
  all_goals go_wp2
  all_goals
    go_ret
    refine ⟨rfl, w1.heap.size, ?_⟩
    have fin := FIN.out _ w5 w1.heap.size (.slice (some ⟨g5, 0, none⟩) (n + 1) cap5) (by repeat (first | refine Below.setCell ?_ (by simp; try omega) _ | refine Below.alloc ?_ (by have := B1.out.size; simp; try omega) _ | refine Below.drew ?_ | exact B1.out)) B1.out.size (by exact hkA (halloc1 _ _)) G5.out O5.out (fun j hj => by simp [Value.ownBlock] at hj; subst hj; exact V5.out.imp id (fun e => Nat.le_of_eq e.symm))
    exact fin
theorem den_c {W : World} {S : Nat → Prop} {sb : Nat} {fv : Value} {fs : List Fr} (h : SkAt false W S sb fv fs) (l m : Int) : Calls Try.prog 23 #[.pointer (some ⟨sb, 0, none⟩), .int .i64 l, .int .i64 m] W fun e w' => e = .returned (.int .i64 (enE (fs.map Fr.p) l m)) ∧ SkP false S W w' sb (enP (fs.map Fr.p) l m) := by
  unfold enE enP
  by_cases h1 : l < 0 ∨ 40 < l ∨ m < 0 ∨ 40 < m
  · rw [if_pos h1, if_pos h1]
    exact (den_arg sb l m h1 W).mono (fun e w' x => ⟨x.1, fs, SkN.same h x.2, rfl⟩)
  · rw [if_neg h1, if_neg h1]
    obtain ⟨a, rfl⟩ : ∃ a : Nat, l = (a : Int) := ⟨l.toNat, by omega⟩
    obtain ⟨b, rfl⟩ : ∃ b : Nat, m = (b : Int) := ⟨m.toNat, by omega⟩
    have hp := wdF_p fs
    by_cases h2 : 4000 < (wdP (fs.map Fr.p) : Int) + (a : Int) + (b : Int) + 3
    · rw [if_pos h2, if_pos h2]
      exact (den_full h a b (by omega) (by omega) (by omega)).mono (fun e w' x => ⟨x.1, fs, SkN.same h x.2, rfl⟩)
    · rw [if_neg h2, if_neg h2]
      exact (den_ok h a b (by omega) (by omega) (by omega)).mono (fun e w' ⟨x, y, z⟩ => ⟨x, _, z, by simp [Fr.p, newF]⟩)
theorem dput_c {W : World} {S : Nat → Prop} {sb : Nat} {fv : Value} {fs : List Fr} (h : SkAt false W S sb fv fs) (v : Bool × Int) : Calls Try.prog 25 #[.pointer (some ⟨sb, 0, none⟩), vlV v] W fun e w' => e = .returned (.int .i64 (puE (fs.map Fr.p))) ∧ SkP false S W w' sb (puP v (fs.map Fr.p)) := by
  cases fs with
  | nil => exact (dput_none h v).mono (fun e w' x => ⟨x.1, [], SkN.same h x.2, rfl⟩)
  | cons f r =>
    have hbd := h.bd f List.mem_cons_self
    simp only [List.map_cons, puE, puP]
    by_cases hr : f.xs.length < f.rm
    · have hr' : f.p.xs.length < f.p.rm := hr
      rw [if_pos hr', if_pos hr']
      exact (dput_yes h hr v).mono (fun e w' ⟨x, y, z⟩ => ⟨x, _, z, by simp [Fr.p]⟩)
    · have hr' : ¬ f.p.xs.length < f.p.rm := hr
      rw [if_neg hr', if_neg hr']
      exact (dput_full h (by omega) v).mono (fun e w' x => ⟨x.1, f :: r, SkN.same h x.2, by simp [Fr.p]⟩)
section
variable {W w : World} {S : Nat → Prop} {sb : Nat} {ps : List PF} (h : One false W w S sb ps)
include h
theorem two_ent (l m : Int) : Calls Try.prog 23 #[.pointer (some ⟨sb, 0, none⟩), .int .i64 l, .int .i64 m] w fun e w' => e = .returned (.int .i64 (enE ps l m)) ∧ OneN false W w S sb w' (enP ps l m) := by
  obtain ⟨fv, fs, h1, rfl⟩ := h.st
  exact (den_c h1 l m).mono (fun e w' x => ⟨x.1, h.step x.2⟩)
theorem two_lev : Calls Try.prog 24 #[.pointer (some ⟨sb, 0, none⟩)] w fun e w' => e = .returned (.int .i64 (lvE ps)) ∧ OneN false W w S sb w' ps.tail := by
  obtain ⟨fv, fs, h1, rfl⟩ := h.st
  cases fs with
  | nil => exact (dlv_none h1).mono (fun e w' x => ⟨x.1, h.step ⟨[], SkN.same h1 x.2, rfl⟩⟩)
  | cons f r => exact (dlv_yes h1).mono (fun e w' x => ⟨x.1, h.step ⟨r, x.2, rfl⟩⟩)
theorem two_put (v : Bool × Int) : Calls Try.prog 25 #[.pointer (some ⟨sb, 0, none⟩), vlV v] w fun e w' => e = .returned (.int .i64 (puE ps)) ∧ OneN false W w S sb w' (puP v ps) := by
  obtain ⟨fv, fs, h1, rfl⟩ := h.st
  exact (dput_c h1 v).mono (fun e w' x => ⟨x.1, h.step x.2⟩)
theorem two_take : Calls Try.prog 26 #[.pointer (some ⟨sb, 0, none⟩)] w fun e w' => e = .returned (.tuple #[oV (tkO ps), .int .i64 (tkE ps)]) ∧ OneN false W w S sb w' (tkP ps) := by
  obtain ⟨fv, fs, h1, rfl⟩ := h.st
  exact (dtk_c h1).mono (fun e w' x => ⟨x.1, h.step x.2⟩)
theorem two_wrd : Calls Try.prog 12 #[.pointer (some ⟨sb, 0, none⟩)] w fun e w' => e = .returned (.int .i64 (wdP ps : Int)) ∧ Below w.heap.size w w' := by
  obtain ⟨fv, fs, h1, rfl⟩ := h.st
  exact dwd_p h1
theorem two_set (i : Int) (v : Bool × Int) : Calls Try.prog 29 #[.pointer (some ⟨sb, 0, none⟩), .int .i64 i, vlV v] w fun e w' => e = .returned (.int .i64 (seE ps i)) ∧ OneN false W w S sb w' (seP i v ps) := by
  obtain ⟨fv, fs, h1, rfl⟩ := h.st
  rw [← slE_p]
  exact (dsl_c h1 i v).mono (fun e w' x => ⟨x.1, h.step ⟨_, x.2, slF_p fs i v⟩⟩)
theorem two_dpt : Calls Try.prog 14 #[.pointer (some ⟨sb, 0, none⟩)] w fun e w' => e = .returned (.int .i64 (dpP ps : Int)) ∧ Below w.heap.size w w' := by
  obtain ⟨fv, fs, h1, rfl⟩ := h.st
  cases fs with
  | nil => exact ddp_none h1
  | cons f r => exact ddp_yes h1
theorem two_peek (k : Int) : Calls Try.prog 27 #[.pointer (some ⟨sb, 0, none⟩), .int .i64 k] w fun e w' => e = .returned (.tuple #[oV (peO ps k), .int .i64 (peE ps k)]) ∧ Below w.heap.size w w' := by
  obtain ⟨fv, fs, h1, rfl⟩ := h.st
  cases fs with
  | nil => exact dpk_none h1 k
  | cons f r => exact dpk_yes h1 k
theorem two_local (i : Int) : Calls Try.prog 28 #[.pointer (some ⟨sb, 0, none⟩), .int .i64 i] w fun e w' => e = .returned (.tuple #[oV (loO ps i), .int .i64 (loE ps i)]) ∧ Below w.heap.size w w' := by
  obtain ⟨fv, fs, h1, rfl⟩ := h.st
  cases fs with
  | nil => exact dlc_none h1 i
  | cons f r => exact dlc_yes h1 i
end
end Go.Proofs.Ytaphlhcenelkbaa
