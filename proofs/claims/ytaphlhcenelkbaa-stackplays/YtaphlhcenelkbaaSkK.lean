/- Package stack: Enter. -/
import Derived.Test.YtaphlhcenelkbaaSkJ
namespace Go.Proofs.Ytaphlhcenelkbaa
open Go.RowKit Go.Maps

def noF : Value := .agg #[.slice none 0 0, .int .i64 0, .slice none 0 0]
theorem Try.hinfoFr : (Try.prog.info? 67).map (fun i => (i.zero, i.size, i.bytes)) = some (some noF, 3, 56) := by kernel_rfl
set_option maxRecDepth 100000 in
theorem ent_nil (l m : Int) (W : World) : Calls Try.prog 15 #[.pointer none, .int .i64 l, .int .i64 m] W fun e w' => e = .returned (.int .i64 2) ∧ Below W.heap.size W w' := by
  go_enter Try.func15, Try.ntmps15
  go_wp2
  go_ret
  exact ⟨rfl, (by repeat (first | exact Below.refl _ _ | refine Below.setCell ?_ (by simp; try omega) _ | refine Below.alloc ?_ (by simp; try omega) _ | refine Below.drew ?_))⟩
set_option maxRecDepth 100000 in
theorem ent_arg (sb : Nat) (l m : Int) (h : l < 0 ∨ 40 < l ∨ m < 0 ∨ 40 < m) (W : World) : Calls Try.prog 15 #[.pointer (some ⟨sb, 0, none⟩), .int .i64 l, .int .i64 m] W fun e w' => e = .returned (.int .i64 2) ∧ Below W.heap.size W w' := by
  by_cases h1 : l < 0
  · clear h
    go_enter Try.func15, Try.ntmps15
    go_wp2
    go_ret
    exact ⟨rfl, (by repeat (first | exact Below.refl _ _ | refine Below.setCell ?_ (by simp; try omega) _ | refine Below.alloc ?_ (by simp; try omega) _ | refine Below.drew ?_))⟩
  · by_cases h2 : 40 < l
    · clear h
      go_enter Try.func15, Try.ntmps15
      go_wp2
      go_ret
      exact ⟨rfl, (by repeat (first | exact Below.refl _ _ | refine Below.setCell ?_ (by simp; try omega) _ | refine Below.alloc ?_ (by simp; try omega) _ | refine Below.drew ?_))⟩
    · by_cases h3 : m < 0
      · clear h
        go_enter Try.func15, Try.ntmps15
        go_wp2
        go_ret
        exact ⟨rfl, (by repeat (first | exact Below.refl _ _ | refine Below.setCell ?_ (by simp; try omega) _ | refine Below.alloc ?_ (by simp; try omega) _ | refine Below.drew ?_))⟩
      · have h4 : 40 < m := by omega
        clear h
        go_enter Try.func15, Try.ntmps15
        go_wp2
        go_ret
        exact ⟨rfl, (by repeat (first | exact Below.refl _ _ | refine Below.setCell ?_ (by simp; try omega) _ | refine Below.alloc ?_ (by simp; try omega) _ | refine Below.drew ?_))⟩
set_option maxRecDepth 100000 in
set_option maxHeartbeats 1000000 in
theorem ent_full {W : World} {S : Nat → Prop} {sb : Nat} {fv : Value} {fs : List Fr} (h : SkAt true W S sb fv fs) (l m : Nat) (hl : l ≤ 40) (hm : m ≤ 40) (hw : 4000 < wdF fs + l + m + 3) : Calls Try.prog 15 #[.pointer (some ⟨sb, 0, none⟩), .int .i64 (l : Int), .int .i64 (m : Int)] W fun e w' => e = .returned (.int .i64 33) ∧ Below W.heap.size W w' := by
  obtain ⟨c0, c1, fz, hsl⟩ := h.cells
  have n4 := h.n4
  obtain ⟨z, hz⟩ : ∃ z, wdF fs = z := ⟨_, rfl⟩
  rw [hz] at c1 n4 hw
  have hmk := mk_vals l (by omega)
  have HW : Hid (∀ w : World, w.cell? ⟨W.heap.size + 1, 1, none⟩ = some (.int .i64 (m : Int)) → w.cell? ⟨W.heap.size + 1, 2, none⟩ = some (.slice (some ⟨W.heap.size, 0, none⟩) l l) → Calls Try.prog 32 #[.pointer (some ⟨W.heap.size + 1, 0, none⟩)] w fun e w' => e = .returned (.int .i64 ((l : Int) + (m : Int) + 3)) ∧ w' = w.drew) := fun w h1 h2 => wds_f (g := W.heap.size + 1) (q := 0) h1 h2 hl hm
  have g1 : ¬ (l : Int) < 0 := by omega
  have g2 : ¬ 40 < (l : Int) := by omega
  have g3 : ¬ (m : Int) < 0 := by omega
  have g4 : ¬ 40 < (m : Int) := by omega
  have sn : ¬ sb = W.heap.size := by omega
  have sn1 : ¬ sb = W.heap.size + 1 := by omega
  have hw2 : 4000 < (z : Int) + ((l : Int) + (m : Int) + 3) := by omega
  have hw3 : IntKind.i64.wrap ((z : Int) + ((l : Int) + (m : Int) + 3)) = (z : Int) + ((l : Int) + (m : Int) + 3) := by rw [IntKind.wrap_i64]; omega
  clear h hz hw
  go_enter Try.func15, Try.ntmps15
  go_upto_region 4 with fail
  go_region_law (refine step_call1 rfl 32 callWds (.tmp 7) 67 rfl (.pointer (some ⟨W.heap.size + 1, 0, none⟩)) (by first | (simp [Act.eval]; done) | (simp [Act.eval, Act.put]; done)) (HW.out _ (by simp) (by simp)) ?_; rintro e w3 ⟨rfl, rfl⟩; refine ⟨_, rfl, ?_⟩)
  all_goals go_wp2
  all_goals
    go_ret
    exact ⟨rfl, (by repeat (first | exact Below.refl _ _ | refine Below.setCell ?_ (by simp; try omega) _ | refine Below.alloc ?_ (by simp; try omega) _ | refine Below.drew ?_))⟩
theorem ent_mem {W wr w5 : World} {S : Nat → Prop} {sb : Nat} {fv v' : Value} {fs : List Fr} (h : SkAt true W S sb fv fs) {l m : Nat} (hl : l ≤ 40) (hm : m ≤ 40) (hw : wdF fs + l + m + 3 ≤ 4000) (hb : Below W.heap.size W wr) (hB : wr.heap[W.heap.size]? = some (.cells (flatV (List.replicate l (false, 0))).toArray 32 (0, 0))) (G5 : wr.grownBy w5 fv.ownBlock) (O5 : w5.ownsRow 0 67 3 v' (fs.length + 1) (flatF true fs ++ frC true (newF W.heap.size l m))) (V5 : ∀ j, v'.ownBlock = some j → fv.ownBlock = some j ∨ wr.heap.size ≤ j) (x : Int) (hx : x = (wdF fs : Int) + ((l : Int) + (m : Int) + 3)) : SkN true S W ((w5.setCell ⟨sb, 0, none⟩ v').setCell ⟨sb, 1, none⟩ (.int .i64 x)) sb (newF W.heap.size l m :: fs) := by
  have z0 := hb.size
  have s5 : w5.heap[sb]? = some (.cells #[fv, .int .i64 (wdF fs : Int)] 52 (0, 0)) := (G5.block sb (by have := h.lt; omega) (fun e => h.fne e.symm)).trans ((hb.block sb h.lt).trans h.hh)
  refine ent_fin (k := true) h hl hm hw hb (Nat.le_refl _) hB G5 O5 V5 (by simp) (fun j hj => (Below.heap_setCell _ _ _ _ hj).trans (Below.heap_setCell _ _ _ _ hj)) ?_ ?_
  · rw [Go.Joins.block_setCell (i := 1) (Go.Joins.block_setCell (i := 0) s5 _)]
    simp [hdC, wdF, newF, tyS, hx]
    omega
  · exact ((((Tch.refl S W).bel hb).grown G5 (fun j hj => .inl (h.oS j hj))).set (p := ⟨sb, 0, none⟩) (.inl h.hS) _).set (p := ⟨sb, 1, none⟩) (.inl h.hS) _
set_option maxRecDepth 100000 in
set_option maxHeartbeats 2000000 in
theorem ent_ok {W : World} {S : Nat → Prop} {sb : Nat} {fv : Value} {fs : List Fr} (h : SkAt true W S sb fv fs) (l m : Nat) (hl : l ≤ 40) (hm : m ≤ 40) (hw : wdF fs + l + m + 3 ≤ 4000) : Calls Try.prog 15 #[.pointer (some ⟨sb, 0, none⟩), .int .i64 (l : Int), .int .i64 (m : Int)] W fun e w' => e = .returned (.int .i64 0) ∧ SkN true S W w' sb (newF W.heap.size l m :: fs) := by
  obtain ⟨c0, c1, fz, hsl⟩ := h.cells
  obtain ⟨a, c, hfv⟩ := ownv h.ow
  have hbn := h.bnd
  have ROW : Hid (W.ownsRow 0 67 3 (.slice a fs.length c) fs.length (flatF true fs)) := by have := h.ow; rw [hfv] at this; exact this
  obtain ⟨i0, hi0, hz0, hz1, hz2⟩ := info_parts Try.hinfoFr
  have FIN : Hid (∀ (wr w5 : World) (v' : Value) (x : Int), _) := fun wr w5 v' x => ent_mem (wr := wr) (w5 := w5) (v' := v') h hl hm hw (x := x)
  have HNE : Hid (fv.ownBlock ≠ some sb) := h.fne
  have OL : Hid (∀ j, fv.ownBlock = some j → j < W.heap.size) := fun j hj => (h.ow.lt j hj).2
  rw [hfv] at c0 FIN HNE OL
  have e0 := fz 0
  have e1 := fz 1
  obtain ⟨z, hz⟩ : ∃ z, wdF fs = z := ⟨_, rfl⟩
  obtain ⟨n, hn⟩ : ∃ n, fs.length = n := ⟨_, rfl⟩
  rw [hz] at c1 hw FIN
  rw [hn] at c0 ROW FIN HNE OL hbn
  have hmk := mk_vals l (by omega)
  have HW : Hid (∀ w : World, w.heap[W.heap.size + 1]? = some (.cells #[.slice none 0 0, .int .i64 (m : Int), .slice (some ⟨W.heap.size, 0, none⟩) l l] 67 (0, 0)) → Calls Try.prog 32 #[.pointer (some ⟨W.heap.size + 1, 0, none⟩)] w fun e w' => e = .returned (.int .i64 ((l : Int) + (m : Int) + 3)) ∧ w' = w.drew) := fun w h1 => wds_f (g := W.heap.size + 1) (q := 0) (r3c h1).2.1 (r3c h1).2.2.1 hl hm
  have g1 : ¬ (l : Int) < 0 := by omega
  have g2 : ¬ 40 < (l : Int) := by omega
  have g3 : ¬ (m : Int) < 0 := by omega
  have g4 : ¬ 40 < (m : Int) := by omega
  have sn : ¬ sb = W.heap.size := by omega
  have sn1 : ¬ sb = W.heap.size + 1 := by omega
  have cc : ∀ o1 o2 o3 : Obj, (((W.alloc o1).alloc o2).alloc o3).cell? ⟨sb, 0, none⟩ = some (.slice a n c) := fun o1 o2 o3 => (Below.cell (B := W.heap.size) (p := ⟨sb, 0, none⟩) ((((Below.refl _ _).alloc (Nat.le_refl _) _).alloc (by simp) _).alloc (by simp; omega) _) hsl).trans c0
  have hw2 : ¬ 4000 < (z : Int) + ((l : Int) + (m : Int) + 3) := by omega
  have hw3 : IntKind.i64.wrap ((z : Int) + ((l : Int) + (m : Int) + 3)) = (z : Int) + ((l : Int) + (m : Int) + 3) := by rw [IntKind.wrap_i64]; omega
  clear h hz hw hn hfv fz
  go_enter Try.func15, Try.ntmps15
  go_upto_region 4 with fail
  go_region_law (refine step_call1 rfl 32 callWds (.tmp 7) 67 rfl (.pointer (some ⟨W.heap.size + 1, 0, none⟩)) (by first | (simp [Act.eval]; done) | (simp [Act.eval, Act.put]; done)) (HW.out _ (haA _ _ (by simp))) ?_; rintro e w3 ⟨rfl, rfl⟩; refine ⟨_, rfl, ?_⟩)
  all_goals go_upto_region 6 with fail
  all_goals go_region_law (refine step_append_lies _ rfl (.tmp 42) (.tmp 44) 50 rfl 0 67 i0 noF 3 56 Try.underlying50 hi0 hz0 hz1 hz2 rfl (by decide) (.slice a n c) n (flatF true fs) (by first | (simp [Act.eval]; done) | (simp [Act.eval, Act.put]; done)) (((((ROW.out.alloc _).alloc _).drew.drew.drew)).alloc _) ⟨W.heap.size + 1 + 1, 0, none⟩ 1 1 [.slice none 0 0, .int .i64 (m : Int), .slice (some ⟨W.heap.size, 0, none⟩) l l] (by first | (simp [Act.eval]; done) | (simp [Act.eval, Act.put]; done)) rfl (World.news_of_block (haA _ _ (by simp))) ?_ (by decide) ?_ ?_ (Nat.zero_le _) _ rfl ?_; (intro u hu; simp at hu; rcases hu with rfl | rfl | rfl <;> rfl); (unfold maxLen; omega); omega; intro g5 cap5 w5 hown hgrow hg5 hl5; have O5 : Hid _ := hown; have G5 : Hid _ := hgrow; have V5 : Hid _ := hg5; have y0 : w5.cell? ⟨sb, 0, none⟩ = some (.slice a n c) := grown_cell (by repeat (first | exact Below.refl _ _ | refine Below.setCell ?_ (by simp; try omega) _ | refine Below.alloc ?_ (by simp; try omega) _ | refine Below.drew ?_)) hgrow HNE.out c0; have y1 : w5.cell? ⟨sb, 1, none⟩ = some (.int .i64 (z : Int)) := grown_cell (by repeat (first | exact Below.refl _ _ | refine Below.setCell ?_ (by simp; try omega) _ | refine Below.alloc ?_ (by simp; try omega) _ | refine Below.drew ?_)) hgrow HNE.out c1; have yf0 : w5.frozen? ⟨sb, 0, none⟩ = false := grown_frz (by repeat (first | exact Below.refl _ _ | refine Below.setCell ?_ (by simp; try omega) _ | refine Below.alloc ?_ (by simp; try omega) _ | refine Below.drew ?_)) hgrow hsl HNE.out e0; have yf1 : w5.frozen? ⟨sb, 1, none⟩ = false := grown_frz (by repeat (first | exact Below.refl _ _ | refine Below.setCell ?_ (by simp; try omega) _ | refine Below.alloc ?_ (by simp; try omega) _ | refine Below.drew ?_)) hgrow hsl HNE.out e1; have bx5 := (hgrow.block (W.heap.size + 1) (by simp) (fun e => by have := OL.out _ e.symm; omega)).trans (hkA (haA _ _ (by simp))); have BX5 : Hid _ := bx5; clear hown hgrow hg5 bx5)
  all_goals have sn3 : ¬ W.heap.size + 1 = sb := fun e => sn1 e.symm
  all_goals go_upto_region 7 with fail
  all_goals go_region_law (refine step_call1 rfl 32 callWds (.tmp 7) 67 rfl (.pointer (some ⟨W.heap.size + 1, 0, none⟩)) (by first | (simp [Act.eval]; done) | (simp [Act.eval, Act.put]; done)) (HW.out _ ((Below.heap_setCell _ _ _ _ sn3).trans BX5.out)) ?_; rintro e w3 ⟨rfl, rfl⟩; refine ⟨_, rfl, ?_⟩)
  all_goals go_wp2
  all_goals
    go_ret
    refine ⟨rfl, ?_⟩
    have fin := FIN.out _ w5 (.slice (some ⟨g5, 0, none⟩) (n + 1) cap5) ((z : Int) + ((l : Int) + (m : Int) + 3)) (by repeat (first | exact Below.refl _ _ | refine Below.setCell ?_ (by simp; try omega) _ | refine Below.alloc ?_ (by simp; try omega) _ | refine Below.drew ?_)) (by exact hkA (hkA (halloc1 _ _))) G5.out O5.out (fun j hj => by simp [Value.ownBlock] at hj; subst hj; exact V5.out.imp id (fun e => Nat.le_of_eq e.symm)) rfl
    exact fin.aft ((Below.refl _ _).drew.drew)
/-- the words of frames without their places -/
def wdP : List PF → Nat
  | [] => 0
  | f :: r => f.ls.length + f.rm + 3 + wdP r
theorem wdF_p : ∀ fs : List Fr, wdF fs = wdP (fs.map Fr.p)
  | [] => rfl
  | f :: r => by rw [wdF, List.map_cons, wdP, wdF_p r]; rfl
/-- what Enter answers, and the frames behind it -/
def enE (ps : List PF) (l m : Int) : Int := if l < 0 ∨ 40 < l ∨ m < 0 ∨ 40 < m then 2 else if 4000 < (wdP ps : Int) + l + m + 3 then 33 else 0
def enP (ps : List PF) (l m : Int) : List PF := if l < 0 ∨ 40 < l ∨ m < 0 ∨ 40 < m then ps else if 4000 < (wdP ps : Int) + l + m + 3 then ps else ⟨[], m.toNat, List.replicate l.toNat (false, 0)⟩ :: ps
theorem ent_c {W : World} {S : Nat → Prop} {sb : Nat} {fv : Value} {fs : List Fr} (h : SkAt true W S sb fv fs) (l m : Int) : Calls Try.prog 15 #[.pointer (some ⟨sb, 0, none⟩), .int .i64 l, .int .i64 m] W fun e w' => e = .returned (.int .i64 (enE (fs.map Fr.p) l m)) ∧ SkP true S W w' sb (enP (fs.map Fr.p) l m) := by
  unfold enE enP
  by_cases h1 : l < 0 ∨ 40 < l ∨ m < 0 ∨ 40 < m
  · rw [if_pos h1, if_pos h1]
    exact (ent_arg sb l m h1 W).mono (fun e w' x => ⟨x.1, fs, SkN.same h x.2, rfl⟩)
  · rw [if_neg h1, if_neg h1]
    obtain ⟨a, rfl⟩ : ∃ a : Nat, l = (a : Int) := ⟨l.toNat, by omega⟩
    obtain ⟨b, rfl⟩ : ∃ b : Nat, m = (b : Int) := ⟨m.toNat, by omega⟩
    have hp := wdF_p fs
    by_cases h2 : 4000 < (wdP (fs.map Fr.p) : Int) + (a : Int) + (b : Int) + 3
    · rw [if_pos h2, if_pos h2]
      exact (ent_full h a b (by omega) (by omega) (by omega)).mono (fun e w' x => ⟨x.1, fs, SkN.same h x.2, rfl⟩)
    · rw [if_neg h2, if_neg h2]
      exact (ent_ok h a b (by omega) (by omega) (by omega)).mono (fun e w' x => ⟨x.1, _, x.2, by simp [Fr.p, newF]⟩)
end Go.Proofs.Ytaphlhcenelkbaa
