/- The law MaxspecPlays: the walk. (Written by genlya.py.) -/
import Derived.Test.YtgppadlkollfaaaGreatMxH
import Derived.Test.YtgppadlkollfaaaGreatRfF
namespace Go.Proofs.YtgppadlkollfaaaGreat
open Go.RowKit Go.Maps

set_option maxRecDepth 100000 in
set_option maxHeartbeats 4000000 in
theorem sameIDs_eq (N1 N2 : Nat) (l : List (Int × Int)) (v1 v2 : Value) (W : World) (h1 : W.ownsRow N1 38 2 v1 l.length (flatD l)) (h2 : W.ownsRow N2 38 2 v2 l.length (flatD l)) (hn : l.length ≤ 1000000) : Calls Tryz.prog 39 #[v1, v2] W fun e w' => e = .returned (.bool true) ∧ Below W.heap.size W w' := by
  obtain ⟨a1, c1, rfl⟩ := ownv h1
  obtain ⟨a2, c2, rfl⟩ := ownv h2
  have H1 : Hid (W.ownsRow N1 38 2 (.slice a1 l.length c1) l.length (flatD l)) := h1
  have H2 : Hid (W.ownsRow N2 38 2 (.slice a2 l.length c2) l.length (flatD l)) := h2
  obtain ⟨K, hK⟩ : ∃ K, l.length = K := ⟨_, rfl⟩
  have HK : Hid (l.length = K) := hK
  rw [hK] at hn ⊢
  clear h1 h2 hK
  go_enter Tryz.func39, Tryz.ntmps39
  go_wp2
  go_loopw [5] (fun iv wr => ∃ i : Nat, iv = .int .i64 i ∧ i ≤ K ∧ Hid (Below W.heap.size W wr)) (fun iv _ => K - (intOf iv).toNat)
  case atStart => exact ⟨0, rfl, Nat.zero_le _, Below.refl _ _⟩
  case round =>
    obtain ⟨i, rfl, hi, hb⟩ := hrel
    by_cases hlt : i < K
    · have hlq : i < l.length := by rw [HK.out]; exact hlt
      obtain ⟨x, hx⟩ : ∃ x, l[i]? = some x := ⟨_, List.getElem?_eq_getElem hlq⟩
      obtain ⟨g1, d1, hf1⟩ := Go.Joins.ownsRow_form H1.out (by omega)
      obtain ⟨g2, d2, hf2⟩ := Go.Joins.ownsRow_form H2.out (by omega)
      have r1 := H1.out
      have r2 := H2.out
      rw [hf1] at r1
      rw [hf2] at r2
      obtain ⟨e0, e1, hgl1⟩ := rowD_cells r1 hx
      obtain ⟨f0, f1, hgl2⟩ := rowD_cells r2 hx
      injection hf1 with ha1 _ hc1
      injection hf2 with ha2 _ hc2
      subst ha1 hc1 ha2 hc2
      obtain ⟨σ, V, hne, V1, V2⟩ := class_of' (fun w' => Below W.heap.size W w') ⟨_, Below.refl _ _⟩
      have kp : ∀ (s : σ) (bb j : Nat) (v : Value), bb < W.heap.size → W.cell? ⟨bb, j, none⟩ = some v → (V s).cell? ⟨bb, j, none⟩ = some v := fun s bb j v hl h => ((V1.out s).cell (p := ⟨bb, j, none⟩) hl).trans h
      replace e0 := fun s => kp s _ _ _ hgl1 e0
      replace e1 := fun s => kp s _ _ _ hgl1 e1
      replace f0 := fun s => kp s _ _ _ hgl2 f0
      replace f1 := fun s => kp s _ _ _ hgl2 f1
      have HS : Hid (∀ s, Calls Tryz.prog 33 #[.agg #[.int .i64 x.1, .int .i64 x.2], .agg #[.int .i64 x.1, .int .i64 x.2]] (V s) fun e w' => e = .returned (.bool true) ∧ ∃ s', w' = V s') := fun s => (sameID_c x x (V s)).mono fun e w' zz => ⟨by rw [zz.1]; simp, V2.out _ (bstep (V1.out s) zz.2)⟩
      have hiI : (i : Int) < (K : Int) := by omega
      obtain ⟨x1, x2⟩ := x
      simp only at e0 e1 f0 f1 HS
      clear hx r1 r2 kp hlq H1 H2
      go_wp2
      refine wp_region_class (C := fun w' => ∃ s, w' = V s) (by kernel_rfl) (by kernel_rfl) (V2.out _ (hb.out.drew)) ?_
      repeat (go_big_quiet_step ((go_at_call 33; exact HS.out _)))
      refine wpQuiet_nil ?_
      intro w9 hw9
      obtain ⟨s9, rfl⟩ := hw9
      have B9 : Hid (Below W.heap.size W (V s9)) := V1.out s9
      go_wp2
      go_roundw
      case rel => exact ⟨i + 1, by go_num, by omega, B9⟩
      case measure => simp [intOf]; omega
    · have e : i = K := by omega
      subst e
      go_wp2
      exact bodyPost_ret (results_tmp rfl _ _ _) rfl ⟨rfl, hb.out⟩


theorem wi_cl {ps : List Plc} (hW : WI ps) {j : Nat} {r : Plc} (hr : ps[j]? = some r) : r.cl.length ≤ ps.length := by
  have hj := (List.getElem?_eq_some_iff.1 hr).1
  have e : clO (ps.map nd) j = r.cl := by rw [clO, nd_at' hr]; rfl
  refine nodup_lt_len _ _ (by rw [← e]; exact cl_nodup hW.wo j) (fun i hi => ?_)
  rw [← e] at hi
  have := (cl_facts hW.wo hi).1
  omega


def lst0 (l : List (Int × Int)) : Int × Int := l.getLast?.getD (0, 0)
theorem lst0_snoc (l : List (Int × Int)) (x : Int × Int) : lst0 (l ++ [x]) = x := by simp [lst0]
theorem row_facts {W w : World} {c d : Value} {i : Nat} {T : TypeId} (h : w.heap[i]? = some (.cells #[c, d] T (0, 0))) : w.cell? ⟨i, 0, none⟩ = some c ∧ w.cell? ⟨i, 1, none⟩ = some d ∧ w.frozen? ⟨i, 0, none⟩ = false ∧ w.frozen? ⟨i, 1, none⟩ = false ∧ i < w.heap.size ∧ W = W :=
  ⟨(cell_of_row w i 0 _ _ _ h).trans rfl, (cell_of_row w i 1 _ _ _ h).trans rfl, frozen_of_row w i 0 _ _ h, frozen_of_row w i 1 _ _ h, (Array.getElem?_eq_some_iff.1 h).1, rfl⟩
set_option maxRecDepth 100000 in
set_option maxHeartbeats 4000000 in
theorem rOne_yes {b : Nat} {cs : List Cls} {ps : List Plc} {W : World} (h : RAt b cs W) (ht : TwW cs ps) (hJ : WJ ps) (k : Nat) (q : Plc) (hq : ps[k]? = some q) (nm ds : ByteArray) : Calls Tryz.prog 43 #[.pointer (some ⟨b, 0, none⟩), .int .i64 (k : Int), .string nm, .string ds] W fun e w' => e = .returned (idE (oneV ps (candL ps nm ds q.cl))) ∧ Below W.heap.size W w' := by
  have hcb : (candL ps nm ds q.cl).length ≤ 300 := Nat.le_trans (candL_len ps nm ds q.cl) (Nat.le_trans (wi_cl ht.wi hq) ht.wi.hi)
  have HW0 : Hid (RAt b cs W) := h
  have HTW : Hid (TwW cs ps) := ht
  have HQ : Hid (∀ w, Below W.heap.size W w → Calls Tryz.prog 41 #[.pointer (some ⟨b, 0, none⟩), .int .i64 (k : Int), .string nm, .string ds] w fun e w' => (∃ v, e = .returned (.tuple #[v, .int .i64 0]) ∧ w'.ownsRow w.heap.size 38 2 v (maxL ps (candL ps nm ds q.cl)).length (flatD (maxL ps (candL ps nm ds q.cl)))) ∧ Below w.heap.size w w') := fun w hb => rMax_any (h.below hb) ht hJ k 0 nm ds _ hcb fun w' hb' => rCand_yes ((h.below hb).below hb') ht hJ k q hq nm ds
  have HCF : Hid (∀ m ∈ maxL ps (candL ps nm ds q.cl), ∃ (i : Nat) (x : HM), m.1 = (i : Int) ∧ methI ps (i : Int) m.2 = some x) := fun m hm => by
    obtain ⟨⟨i, h1, _⟩, _, _, x, h2, _⟩ := cand_facts ht.wi hq (max_mem hm)
    exact ⟨i, x, h1, by rw [← h1]; exact h2⟩
  have HOV : Hid (oneV ps (candL ps nm ds q.cl) = match (maxL ps (candL ps nm ds q.cl)).filter (fun m => !hasS ps m.1 m.2 1024) with | [] => ((0, 0), 24) | [m] => (m, 0) | _ => ((0, 0), 23)) := rfl
  have hmb : (maxL ps (candL ps nm ds q.cl)).length ≤ 300 := Nat.le_trans (List.length_filter_le _ _) hcb
  generalize oneV ps (candL ps nm ds q.cl) = R at *
  generalize maxL ps (candL ps nm ds q.cl) = M at *
  obtain ⟨K, hK⟩ : ∃ K, M.length = K := ⟨_, rfl⟩
  have HK : Hid (M.length = K) := hK
  rw [hK] at hmb
  clear h ht hJ hq hcb hK
  go_enter Tryz.func43, Tryz.ntmps43
  go_wp2_with (first
    | (go_at_call 41; refine (HQ.out _ (by repeat (first | exact Below.refl _ _ | refine Below.setCell ?_ (by simp; try omega) _ | refine Below.alloc ?_ (by simp; try omega) _ | refine Below.drew ?_))).mono ?_; rintro e w1 ⟨⟨v, rfl, ho⟩, hb⟩; rw [HK.out] at ho; obtain ⟨ca, cc, rfl⟩ := ownv ho; have O1 : Hid (w1.ownsRow W.heap.size 38 2 (.slice ca K cc) K (flatD M)) := Go.Joins.ownsRow_le ho (by simp); have zd : w1.heap[W.heap.size]? = some (.cells #[.int .i64 0, .int .i64 0] 38 (0, 0)) := (hb.block (W.heap.size) (by first | omega | (simp; try omega))).trans (by first | exact zB.out | exact hkeep zB.out | exact hkeep (hkeep zB.out) | exact halloc2 _ _ rfl | exact heap_alloc2_old _ _ _ | exact heap_alloc2_new _ _ _ | exact hkeep (halloc2 _ _ rfl) | exact hkeep (hkeep (halloc2 _ _ rfl)) | exact halloc2 _ _ (by simp; done)); (try clear zB zL zN z0 z1 zf0 zf1); have zB : Hid (w1.heap[W.heap.size]? = some (.cells #[.int .i64 0, .int .i64 0] 38 (0, 0))) := zd; have z0 : w1.cell? ⟨W.heap.size, 0, none⟩ = some (.int .i64 0) := (cell_of_row w1 (W.heap.size) 0 _ _ _ zd).trans rfl; have zf0 := frozen_of_row w1 (W.heap.size) 0 _ _ zd; have z1 : w1.cell? ⟨W.heap.size, 1, none⟩ = some (.int .i64 0) := (cell_of_row w1 (W.heap.size) 1 _ _ _ zd).trans rfl; have zf1 := frozen_of_row w1 (W.heap.size) 1 _ _ zd; have zL : W.heap.size < w1.heap.size := (Array.getElem?_eq_some_iff.1 zd).1; have zN : ¬ W.heap.size = w1.heap.size := (by omega); clear zd; have hWw : W.heap.size < w1.heap.size := zL; have hWn : ¬ W.heap.size = w1.heap.size := (by omega); have hWm : ¬ w1.heap.size = W.heap.size := (by omega); have B1 : Hid (Below W.heap.size W w1) := bstep (by repeat (first | exact Below.refl _ _ | refine Below.setCell ?_ (by simp; try omega) _ | refine Below.alloc ?_ (by simp; try omega) _ | refine Below.drew ?_)) hb; have HW1 : Hid (RAt b cs w1) := HW0.out.below B1.out; clear ho hb HQ))
  go_loopw [12, 14] (fun nv iv wr => ∃ (i : Nat), iv = .int .i64 i ∧ i ≤ K ∧ nv = .int .i64 (((M.take i).filter fun m => !hasS ps m.1 m.2 1024).length : Int) ∧ Hid (wr.heap[w1.heap.size]? = some (.cells #[.int .i64 (lst0 ((M.take i).filter fun m => !hasS ps m.1 m.2 1024)).1, .int .i64 (lst0 ((M.take i).filter fun m => !hasS ps m.1 m.2 1024)).2] 38 (0, 0))) ∧ Hid (Below w1.heap.size w1 wr)) (fun _ iv _ => K - (intOf iv).toNat)
  case atStart => exact ⟨0, rfl, Nat.zero_le _, rfl, halloc2 _ _ rfl, (Below.refl _ _).alloc (Nat.le_refl _) _⟩
  case round =>
    obtain ⟨i, rfl, hi, rfl, hR, hB⟩ := hrel
    have hb := hB.out
    have zd : wr.heap[W.heap.size]? = some (.cells #[.int .i64 0, .int .i64 0] 38 (0, 0)) := (hb.block (W.heap.size) (by first | omega | (simp; try omega))).trans (by first | exact zB.out | exact hkeep zB.out | exact hkeep (hkeep zB.out) | exact halloc2 _ _ rfl | exact heap_alloc2_old _ _ _ | exact heap_alloc2_new _ _ _ | exact hkeep (halloc2 _ _ rfl) | exact hkeep (hkeep (halloc2 _ _ rfl)) | exact halloc2 _ _ (by simp; done)); (try clear zB zL zN z0 z1 zf0 zf1); have zB : Hid (wr.heap[W.heap.size]? = some (.cells #[.int .i64 0, .int .i64 0] 38 (0, 0))) := zd; have z0 : wr.cell? ⟨W.heap.size, 0, none⟩ = some (.int .i64 0) := (cell_of_row wr (W.heap.size) 0 _ _ _ zd).trans rfl; have zf0 := frozen_of_row wr (W.heap.size) 0 _ _ zd; have z1 : wr.cell? ⟨W.heap.size, 1, none⟩ = some (.int .i64 0) := (cell_of_row wr (W.heap.size) 1 _ _ _ zd).trans rfl; have zf1 := frozen_of_row wr (W.heap.size) 1 _ _ zd; have zL : W.heap.size < wr.heap.size := (Array.getElem?_eq_some_iff.1 zd).1; have zN : ¬ W.heap.size = wr.heap.size := (by omega); clear zd
    clear hb
    by_cases hlt : i < K
    · have hiM : i < M.length := by rw [HK.out]; exact hlt
      obtain ⟨x, hx⟩ : ∃ x, M[i]? = some x := ⟨_, List.getElem?_eq_getElem hiM⟩
      have hst := filt_take (p := fun m => !hasS ps m.1 m.2 1024) hx
      obtain ⟨g, c2, hform⟩ := Go.Joins.ownsRow_form O1.out (by omega)
      have HROW : Hid (w1.ownsRow W.heap.size 38 2 (.slice (some ⟨g, 0, none⟩) M.length cc) M.length (flatD M)) := by
        have hrow := O1.out
        injection hform with hca _ _
        rw [Hid, HK.out, ← hca]; exact hrow
      injection hform with hca _ hcc
      subst hca
      obtain ⟨e0, e1, hgl⟩ := rowD_cells HROW.out hx
      have hgr : g < wr.heap.size := Nat.lt_of_lt_of_le hgl hB.out.size
      replace e0 := (hB.out.cell (p := ⟨g, i * 2, none⟩) hgl).trans e0
      replace e1 := (hB.out.cell (p := ⟨g, i * 2 + 1, none⟩) hgl).trans e1
      obtain ⟨ix, X, hx1, hxm⟩ := HCF.out x (List.mem_of_getElem? hx)
      have hhs : hasS ps x.1 x.2 1024 = hasI X.fl 1024 := by rw [hasS, hx1, hxm]
      obtain ⟨x1, x2⟩ := x
      simp only at e0 e1 hx1 hxm hhs hst
      subst hx1
      rw [hhs] at hst
      have HRr : Hid (RAt b cs wr) := HW1.out.below hB.out
      obtain ⟨g9, cap9, bk9, o9, n9, cm9, j9, rfl, c91, c92, c93, c94, c95, c96, c97, c98⟩ := HRr.out.flag HTW.out hxm
      have H4 : Hid (∀ w : World, Calls Tryz.prog 85 #[.int .i64 X.fl, .int .i64 1024] w fun e w' => e = .returned (.bool (hasI X.fl 1024)) ∧ w' = w) := has_any X.fl 1024
      generalize hasI X.fl 1024 = ab at *
      generalize X.fl = fl at *
      obtain ⟨P, hP⟩ : ∃ P, ((M.take i).filter fun m => !hasS ps m.1 m.2 1024) = P := ⟨_, rfl⟩
      rw [hP] at hst hR
      rw [hP]
      have hPb : P.length ≤ 300 := by rw [← hP]; exact Nat.le_trans (filt_len i) (by rw [HK.out]; exact hmb)
      have HST : Hid (List.filter (fun m => !hasS ps m.1 m.2 1024) (List.take (i + 1) M) = P ++ if !ab then [((ix : Int), (j9 : Int))] else []) := hst
      obtain ⟨r0, r1, rf0, rf1, rL, _⟩ := row_facts (W := W) hR.out
      have hgn : ¬ g = w1.heap.size := by omega
      clear hst hP hx hiM hcc hxm hhs HROW
      cases ab with
      | true =>
        have hst2 : List.filter (fun m => !hasS ps m.1 m.2 1024) (List.take (i + 1) M) = P := by rw [HST.out]; simp
        clear HST
        go_wp2
        go_quiet ((go_at_call 85; refine Calls.quiet_of_same (H4.out _)))
        go_wp2
        refine ⟨⟨i + 1, by simp, by omega, by rw [hst2], ?_, below_drewN hB.out _⟩, by simp [intOf]; omega⟩
        rw [hst2]; exact ((below_drewN (Below.refl wr.heap.size wr) nq).block w1.heap.size rL).trans hR.out
      | false =>
        have hst2 : List.filter (fun m => !hasS ps m.1 m.2 1024) (List.take (i + 1) M) = P ++ [((ix : Int), (j9 : Int))] := by rw [HST.out]; simp
        clear HST
        go_wp2
        go_quiet ((go_at_call 85; refine Calls.quiet_of_same (H4.out _)))
        go_wp2
        have hD : (wr.drewN nq).heap[w1.heap.size]? = some (.cells #[.int .i64 (lst0 P).1, .int .i64 (lst0 P).2] 38 (0, 0)) := ((below_drewN (Below.refl wr.heap.size wr) nq).block w1.heap.size rL).trans hR.out
        refine ⟨⟨i + 1, by simp, by omega, by rw [hst2]; simp, ?_, ((below_drewN hB.out _).setCell (by simp) _).setCell (by simp) _⟩, by simp [intOf]; omega⟩
        rw [hst2, lst0_snoc, Hid, heap_setCell_same _ _ _ #[.int .i64 (ix : Int), .int .i64 (lst0 P).2] 38 _ (by rw [heap_setCell_same _ _ _ _ _ _ hD]; rfl)]
        rfl
    · have e : i = K := by omega
      subst e
      have HE : Hid (((M.take i).filter fun m => !hasS ps m.1 m.2 1024) = M.filter fun m => !hasS ps m.1 m.2 1024) := by rw [Hid, List.take_of_length_le (by rw [HK.out]; exact Nat.le_refl _)]
      rw [HE.out] at hR ⊢
      have BB : Hid (Below W.heap.size W wr) := B1.out.trans (hB.out.mono B1.out.size)
      obtain ⟨r0, r1, rf0, rf1, rL, _⟩ := row_facts (W := W) hR.out
      have HF : Hid (R = match (M.filter fun m => !hasS ps m.1 m.2 1024) with | [] => ((0, 0), 24) | [m] => (m, 0) | _ => ((0, 0), 23)) := HOV
      clear HE HOV hR HCF
      generalize (M.filter fun m => !hasS ps m.1 m.2 1024) = F at *
      match F with
      | [] =>
        have eR : R = ((0, 0), 24) := HF.out
        subst eR
        clear HF
        go_wp2
        exact bodyPost_ret (v := idE ((0, 0), 24)) (by simp [results, Tryz.results43, go_sem, idE, *]) rfl ⟨rfl, (by repeat (first | exact BB.out | exact Below.refl _ _ | refine Below.setCell ?_ (by simp; try omega) _ | refine Below.alloc ?_ (by have := BB.out.size; simp; try omega) _ | refine Below.drew ?_))⟩
      | [m] =>
        have eR : R = (m, 0) := HF.out
        subst eR
        clear HF
        obtain ⟨m1, m2⟩ := m
        have hl : lst0 [(m1, m2)] = (m1, m2) := rfl
        rw [hl] at r0 r1
        go_wp2
        exact bodyPost_ret (v := idE ((m1, m2), 0)) (by simp [results, Tryz.results43, go_sem, idE, *]) rfl ⟨rfl, (by repeat (first | exact BB.out | exact Below.refl _ _ | refine Below.setCell ?_ (by simp; try omega) _ | refine Below.alloc ?_ (by have := BB.out.size; simp; try omega) _ | refine Below.drew ?_))⟩
      | m :: m' :: r =>
        have eR : R = ((0, 0), 23) := HF.out
        subst eR
        have hl2 : (m :: m' :: r).length = r.length + 2 := rfl
        clear HF r0 r1
        generalize (m :: m' :: r) = ol at *
        have n1 : ¬ (ol.length : Int) = 0 := by omega
        have n2 : (1 : Int) < (ol.length : Int) := by omega
        clear hl2
        go_wp2
        exact bodyPost_ret (v := idE ((0, 0), 23)) (by simp [results, Tryz.results43, go_sem, idE, *]) rfl ⟨rfl, (by repeat (first | exact BB.out | exact Below.refl _ _ | refine Below.setCell ?_ (by simp; try omega) _ | refine Below.alloc ?_ (by have := BB.out.size; simp; try omega) _ | refine Below.drew ?_))⟩
set_option maxRecDepth 100000 in
theorem rOne_no {b : Nat} {cs : List Cls} {ps : List Plc} {W : World} (h : RAt b cs W) (ht : TwW cs ps) (hJ : WJ ps) (c : Int) (hc : plcI ps c = none) (nm ds : ByteArray) : Calls Tryz.prog 43 #[.pointer (some ⟨b, 0, none⟩), .int .i64 c, .string nm, .string ds] W fun e w' => e = .returned (idE ((0, 0), 3)) ∧ Below W.heap.size W w' := by
  have HQ : Hid (∀ w, Below W.heap.size W w → Calls Tryz.prog 41 #[.pointer (some ⟨b, 0, none⟩), .int .i64 c, .string nm, .string ds] w fun e w' => (∃ v, e = .returned (.tuple #[v, .int .i64 3]) ∧ w'.ownsRow w.heap.size 38 2 v 0 []) ∧ Below w.heap.size w w') := fun w hb => rMax_any (h.below hb) ht hJ c 3 nm ds [] (by simp) fun w' hb' => (rCand_no ((h.below hb).below hb') ht c hc nm ds).mono fun e w'' zz => ⟨⟨_, zz.1, World.ownsRow_nil _ _ _ _⟩, zz.2⟩
  clear h ht hJ hc
  go_enter Tryz.func43, Tryz.ntmps43
  go_wp2_with (first
    | (go_at_call 41; refine (HQ.out _ (by repeat (first | exact Below.refl _ _ | refine Below.setCell ?_ (by simp; try omega) _ | refine Below.alloc ?_ (by simp; try omega) _ | refine Below.drew ?_))).mono ?_; rintro e w1 ⟨⟨v, rfl, ho⟩, hb⟩; obtain ⟨ca, cc, rfl⟩ := ownv ho; have zd : w1.heap[W.heap.size]? = some (.cells #[.int .i64 0, .int .i64 0] 38 (0, 0)) := (hb.block (W.heap.size) (by first | omega | (simp; try omega))).trans (by first | exact zB.out | exact hkeep zB.out | exact hkeep (hkeep zB.out) | exact halloc2 _ _ rfl | exact heap_alloc2_old _ _ _ | exact heap_alloc2_new _ _ _ | exact hkeep (halloc2 _ _ rfl) | exact hkeep (hkeep (halloc2 _ _ rfl)) | exact halloc2 _ _ (by simp; done)); (try clear zB zL zN z0 z1 zf0 zf1); have zB : Hid (w1.heap[W.heap.size]? = some (.cells #[.int .i64 0, .int .i64 0] 38 (0, 0))) := zd; have z0 : w1.cell? ⟨W.heap.size, 0, none⟩ = some (.int .i64 0) := (cell_of_row w1 (W.heap.size) 0 _ _ _ zd).trans rfl; have zf0 := frozen_of_row w1 (W.heap.size) 0 _ _ zd; have z1 : w1.cell? ⟨W.heap.size, 1, none⟩ = some (.int .i64 0) := (cell_of_row w1 (W.heap.size) 1 _ _ _ zd).trans rfl; have zf1 := frozen_of_row w1 (W.heap.size) 1 _ _ zd; have zL : W.heap.size < w1.heap.size := (Array.getElem?_eq_some_iff.1 zd).1; have zN : ¬ W.heap.size = w1.heap.size := (by omega); clear zd; have B1 : Hid (Below W.heap.size W w1) := bstep (by repeat (first | exact Below.refl _ _ | refine Below.setCell ?_ (by simp; try omega) _ | refine Below.alloc ?_ (by simp; try omega) _ | refine Below.drew ?_)) hb; clear ho hb HQ))
  exact bodyPost_ret (v := idE ((0, 0), 3)) (by simp [results, Tryz.results43, go_sem, idE, *]) rfl ⟨rfl, (by repeat (first | exact B1.out | refine Below.setCell ?_ (by simp; try omega) _ | refine Below.alloc ?_ (by have := B1.out.size; simp; try omega) _ | refine Below.drew ?_))⟩
set_option maxRecDepth 100000 in
set_option maxHeartbeats 1000000 in
theorem rSome_yes {b : Nat} {cs : List Cls} {ps : List Plc} {W : World} (h : RAt b cs W) (ht : TwW cs ps) (hJ : WJ ps) (k : Nat) (q : Plc) (hq : ps[k]? = some q) (nm ds : ByteArray) : Calls Tryz.prog 45 #[.pointer (some ⟨b, 0, none⟩), .int .i64 (k : Int), .string nm, .string ds] W fun e w' => e = .returned (idE (someV (candL ps nm ds q.cl))) ∧ Below W.heap.size W w' := by
  have HC : Hid (∀ w, Below W.heap.size W w → Calls Tryz.prog 38 #[.pointer (some ⟨b, 0, none⟩), .int .i64 (k : Int), .string nm, .string ds] w fun e w' => (∃ v, e = .returned (.tuple #[v, .int .i64 0]) ∧ w'.ownsRow w.heap.size 38 2 v (candL ps nm ds q.cl).length (flatD (candL ps nm ds q.cl))) ∧ Below w.heap.size w w') := fun w hb => rCand_yes (h.below hb) ht hJ k q hq nm ds
  generalize candL ps nm ds q.cl = l at *
  clear h ht hJ hq
  match l with
  | [] =>
    rw [someV]
    go_enter Tryz.func45, Tryz.ntmps45
    go_wp2_with (go_at_call 38; refine (HC.out _ (by repeat (first | exact Below.refl _ _ | refine Below.setCell ?_ (by simp; try omega) _ | refine Below.alloc ?_ (by simp; try omega) _ | refine Below.drew ?_))).mono ?_; rintro e w3 ⟨⟨v, rfl, ho⟩, hb⟩; obtain ⟨va3, vn3, rfl⟩ := ownv ho; have zd : w3.heap[W.heap.size]? = some (.cells #[.int .i64 0, .int .i64 0] 38 (0, 0)) := (hb.block (W.heap.size) (by first | omega | (simp; try omega))).trans (by first | exact zB.out | exact hkeep zB.out | exact hkeep (hkeep zB.out) | exact halloc2 _ _ rfl | exact heap_alloc2_old _ _ _ | exact heap_alloc2_new _ _ _ | exact hkeep (halloc2 _ _ rfl) | exact hkeep (hkeep (halloc2 _ _ rfl)) | exact halloc2 _ _ (by simp; done)); (try clear zB zL zN z0 z1 zf0 zf1); have zB : Hid (w3.heap[W.heap.size]? = some (.cells #[.int .i64 0, .int .i64 0] 38 (0, 0))) := zd; have z0 : w3.cell? ⟨W.heap.size, 0, none⟩ = some (.int .i64 0) := (cell_of_row w3 (W.heap.size) 0 _ _ _ zd).trans rfl; have zf0 := frozen_of_row w3 (W.heap.size) 0 _ _ zd; have z1 : w3.cell? ⟨W.heap.size, 1, none⟩ = some (.int .i64 0) := (cell_of_row w3 (W.heap.size) 1 _ _ _ zd).trans rfl; have zf1 := frozen_of_row w3 (W.heap.size) 1 _ _ zd; have zL : W.heap.size < w3.heap.size := (Array.getElem?_eq_some_iff.1 zd).1; have zN : ¬ W.heap.size = w3.heap.size := (by omega); clear zd; have B3 : Hid (Below W.heap.size W w3) := bstep (by repeat (first | exact Below.refl _ _ | refine Below.setCell ?_ (by simp; try omega) _ | refine Below.alloc ?_ (by simp; try omega) _ | refine Below.drew ?_)) hb; clear hb HC ho)
    exact bodyPost_ret (v := idE ((0, 0), 6)) (by simp [results, Tryz.results45, go_sem, idE, *]) rfl ⟨rfl, (by repeat (first | exact B3.out | refine Below.setCell ?_ (by simp; try omega) _ | refine Below.alloc ?_ (by have := B3.out.size; simp; try omega) _ | refine Below.drew ?_))⟩
  | m :: r =>
    rw [someV]
    have hl2 : (m :: r).length = r.length + 1 := rfl
    have hat : Hid ((m :: r)[0]? = some m) := rfl
    generalize (m :: r) = l at *
    have n1 : ¬ (l.length : Int) = 0 := by omega
    have n2 : (0 : Int) < (l.length : Int) := by omega
    have n3 : Hid (0 < l.length) := by rw [Hid, hl2]; omega
    clear hl2
    go_enter Tryz.func45, Tryz.ntmps45
    go_wp2_with (go_at_call 38; refine (HC.out _ (by repeat (first | exact Below.refl _ _ | refine Below.setCell ?_ (by simp; try omega) _ | refine Below.alloc ?_ (by simp; try omega) _ | refine Below.drew ?_))).mono ?_; rintro e w3 ⟨⟨v, rfl, ho⟩, hb⟩; obtain ⟨g3, vn3, rfl⟩ := Go.Joins.ownsRow_form ho n3.out; obtain ⟨r0, r1, _⟩ := rowD_cells ho hat.out; simp only [Nat.zero_mul, Nat.zero_add] at r0 r1; have hg3 : ¬ g3 = W.heap.size := (by have := (ho.lt g3 rfl).1; simp at this; omega); have zd : w3.heap[W.heap.size]? = some (.cells #[.int .i64 0, .int .i64 0] 38 (0, 0)) := (hb.block (W.heap.size) (by first | omega | (simp; try omega))).trans (by first | exact zB.out | exact hkeep zB.out | exact hkeep (hkeep zB.out) | exact halloc2 _ _ rfl | exact heap_alloc2_old _ _ _ | exact heap_alloc2_new _ _ _ | exact hkeep (halloc2 _ _ rfl) | exact hkeep (hkeep (halloc2 _ _ rfl)) | exact halloc2 _ _ (by simp; done)); (try clear zB zL zN z0 z1 zf0 zf1); have zB : Hid (w3.heap[W.heap.size]? = some (.cells #[.int .i64 0, .int .i64 0] 38 (0, 0))) := zd; have z0 : w3.cell? ⟨W.heap.size, 0, none⟩ = some (.int .i64 0) := (cell_of_row w3 (W.heap.size) 0 _ _ _ zd).trans rfl; have zf0 := frozen_of_row w3 (W.heap.size) 0 _ _ zd; have z1 : w3.cell? ⟨W.heap.size, 1, none⟩ = some (.int .i64 0) := (cell_of_row w3 (W.heap.size) 1 _ _ _ zd).trans rfl; have zf1 := frozen_of_row w3 (W.heap.size) 1 _ _ zd; have zL : W.heap.size < w3.heap.size := (Array.getElem?_eq_some_iff.1 zd).1; have zN : ¬ W.heap.size = w3.heap.size := (by omega); clear zd; have B3 : Hid (Below W.heap.size W w3) := bstep (by repeat (first | exact Below.refl _ _ | refine Below.setCell ?_ (by simp; try omega) _ | refine Below.alloc ?_ (by simp; try omega) _ | refine Below.drew ?_)) hb; clear hb HC ho)
    exact bodyPost_ret (v := idE (m, 0)) (by simp [results, Tryz.results45, go_sem, idE, *]) rfl ⟨rfl, (by repeat (first | exact B3.out | refine Below.setCell ?_ (by simp; try omega) _ | refine Below.alloc ?_ (by have := B3.out.size; simp; try omega) _ | refine Below.drew ?_))⟩
set_option maxRecDepth 100000 in
theorem rSome_no {b : Nat} {cs : List Cls} {ps : List Plc} {W : World} (h : RAt b cs W) (ht : TwW cs ps) (c : Int) (hc : plcI ps c = none) (nm ds : ByteArray) : Calls Tryz.prog 45 #[.pointer (some ⟨b, 0, none⟩), .int .i64 c, .string nm, .string ds] W fun e w' => e = .returned (idE ((0, 0), 3)) ∧ Below W.heap.size W w' := by
  have HC : Hid (∀ w, Below W.heap.size W w → Calls Tryz.prog 38 #[.pointer (some ⟨b, 0, none⟩), .int .i64 c, .string nm, .string ds] w fun e w' => e = .returned (.tuple #[.slice none 0 0, .int .i64 3]) ∧ Below w.heap.size w w') := fun w hb => rCand_no (h.below hb) ht c hc nm ds
  clear h ht hc
  go_enter Tryz.func45, Tryz.ntmps45
  go_wp2_with (go_at_call 38; refine (HC.out _ (by repeat (first | exact Below.refl _ _ | refine Below.setCell ?_ (by simp; try omega) _ | refine Below.alloc ?_ (by simp; try omega) _ | refine Below.drew ?_))).mono ?_; rintro e w3 ⟨rfl, hb⟩; have zd : w3.heap[W.heap.size]? = some (.cells #[.int .i64 0, .int .i64 0] 38 (0, 0)) := (hb.block (W.heap.size) (by first | omega | (simp; try omega))).trans (by first | exact zB.out | exact hkeep zB.out | exact hkeep (hkeep zB.out) | exact halloc2 _ _ rfl | exact heap_alloc2_old _ _ _ | exact heap_alloc2_new _ _ _ | exact hkeep (halloc2 _ _ rfl) | exact hkeep (hkeep (halloc2 _ _ rfl)) | exact halloc2 _ _ (by simp; done)); (try clear zB zL zN z0 z1 zf0 zf1); have zB : Hid (w3.heap[W.heap.size]? = some (.cells #[.int .i64 0, .int .i64 0] 38 (0, 0))) := zd; have z0 : w3.cell? ⟨W.heap.size, 0, none⟩ = some (.int .i64 0) := (cell_of_row w3 (W.heap.size) 0 _ _ _ zd).trans rfl; have zf0 := frozen_of_row w3 (W.heap.size) 0 _ _ zd; have z1 : w3.cell? ⟨W.heap.size, 1, none⟩ = some (.int .i64 0) := (cell_of_row w3 (W.heap.size) 1 _ _ _ zd).trans rfl; have zf1 := frozen_of_row w3 (W.heap.size) 1 _ _ zd; have zL : W.heap.size < w3.heap.size := (Array.getElem?_eq_some_iff.1 zd).1; have zN : ¬ W.heap.size = w3.heap.size := (by omega); clear zd; have B3 : Hid (Below W.heap.size W w3) := bstep (by repeat (first | exact Below.refl _ _ | refine Below.setCell ?_ (by simp; try omega) _ | refine Below.alloc ?_ (by simp; try omega) _ | refine Below.drew ?_)) hb; clear hb HC)
  exact bodyPost_ret (v := idE ((0, 0), 3)) (by simp [results, Tryz.results45, go_sem, idE, *]) rfl ⟨rfl, (by repeat (first | exact B3.out | refine Below.setCell ?_ (by simp; try omega) _ | refine Below.alloc ?_ (by have := B3.out.size; simp; try omega) _ | refine Below.drew ?_))⟩


theorem clss_keep {w w' : World} {v : Value} {l : List Cls} (h : IsClss w v l) (hb : Below w.heap.size w w') : IsClss w' v l := by
  obtain ⟨ao, cap, rfl, h1, h2, h3⟩ := h
  refine ⟨ao, cap, rfl, h1, h2, fun hne => ?_⟩
  obtain ⟨bk, o, e, hlt, hc⟩ := h3 hne
  refine ⟨bk, o, e, Nat.lt_of_lt_of_le hlt hb.size, fun k c hk => ?_⟩
  obtain ⟨vi, vm, h4, h5⟩ := hc k c hk
  exact ⟨vi, vm, fun j u hj => (hb.cell hlt).trans (h4 j u hj), h5.keep hb⟩


set_option maxRecDepth 100000 in
theorem some_no {b : Nat} {ps : List Plc} {W : World} (h : WAt b ps W) (c : Int) (hc : plcI ps c = none) (nm ds : ByteArray) : Calls Tryz.prog 44 #[.pointer (some ⟨b, 0, none⟩), .int .i64 c, .string nm, .string ds] W fun e w' => e = .returned (idE ((0, 0), 3)) ∧ Below W.heap.size W w' := by
  have HC : Hid (∀ w, Below W.heap.size W w → Calls Tryz.prog 37 #[.pointer (some ⟨b, 0, none⟩), .int .i64 c, .string nm, .string ds] w fun e w' => e = .returned (.tuple #[.slice none 0 0, .int .i64 3]) ∧ Below w.heap.size w w') := fun w hb => cand_no (h.below hb) c hc nm ds
  clear h hc
  go_enter Tryz.func44, Tryz.ntmps44
  go_wp2_with (go_at_call 37; refine (HC.out _ (by repeat (first | exact Below.refl _ _ | refine Below.setCell ?_ (by simp; try omega) _ | refine Below.alloc ?_ (by simp; try omega) _ | refine Below.drew ?_))).mono ?_; rintro e w3 ⟨rfl, hb⟩; have zd : w3.heap[W.heap.size]? = some (.cells #[.int .i64 0, .int .i64 0] 38 (0, 0)) := (hb.block (W.heap.size) (by first | omega | (simp; try omega))).trans (by first | exact zB.out | exact hkeep zB.out | exact hkeep (hkeep zB.out) | exact halloc2 _ _ rfl | exact heap_alloc2_old _ _ _ | exact heap_alloc2_new _ _ _ | exact hkeep (halloc2 _ _ rfl) | exact hkeep (hkeep (halloc2 _ _ rfl)) | exact halloc2 _ _ (by simp; done)); (try clear zB zL zN z0 z1 zf0 zf1); have zB : Hid (w3.heap[W.heap.size]? = some (.cells #[.int .i64 0, .int .i64 0] 38 (0, 0))) := zd; have z0 : w3.cell? ⟨W.heap.size, 0, none⟩ = some (.int .i64 0) := (cell_of_row w3 (W.heap.size) 0 _ _ _ zd).trans rfl; have zf0 := frozen_of_row w3 (W.heap.size) 0 _ _ zd; have z1 : w3.cell? ⟨W.heap.size, 1, none⟩ = some (.int .i64 0) := (cell_of_row w3 (W.heap.size) 1 _ _ _ zd).trans rfl; have zf1 := frozen_of_row w3 (W.heap.size) 1 _ _ zd; have zL : W.heap.size < w3.heap.size := (Array.getElem?_eq_some_iff.1 zd).1; have zN : ¬ W.heap.size = w3.heap.size := (by omega); clear zd; have B3 : Hid (Below W.heap.size W w3) := bstep (by repeat (first | exact Below.refl _ _ | refine Below.setCell ?_ (by simp; try omega) _ | refine Below.alloc ?_ (by simp; try omega) _ | refine Below.drew ?_)) hb; clear hb HC)
  exact bodyPost_ret (v := idE ((0, 0), 3)) (by simp [results, Tryz.results44, go_sem, idE, *]) rfl ⟨rfl, (by repeat (first | exact B3.out | refine Below.setCell ?_ (by simp; try omega) _ | refine Below.alloc ?_ (by have := B3.out.size; simp; try omega) _ | refine Below.drew ?_))⟩
set_option maxRecDepth 100000 in
set_option maxHeartbeats 4000000 in
theorem plays10 (v : Value) (l : List Cls) (ps : List Plc) (cs : List Cls) (hps : ps = wld l) (hcs : cs = wldC l) (c : Int) (nm ds : ByteArray) (W : World) (h : IsClss W v l) (A M : List (Int × Int)) (hA : A.length ≤ 1000000) (hM : M.length ≤ 1000000) (E o1 o2 o3 s1 s2 s3 : Int)
    (C1 : Hid (∀ b w, WAt b ps w → Calls Tryz.prog 37 #[.pointer (some ⟨b, 0, none⟩), .int .i64 c, .string nm, .string ds] w fun e w' => (∃ v, e = .returned (.tuple #[v, .int .i64 E]) ∧ w'.ownsRow w.heap.size 38 2 v A.length (flatD A)) ∧ Below w.heap.size w w'))
    (C2 : Hid (∀ b w, RAt b cs w → Calls Tryz.prog 38 #[.pointer (some ⟨b, 0, none⟩), .int .i64 c, .string nm, .string ds] w fun e w' => (∃ v, e = .returned (.tuple #[v, .int .i64 E]) ∧ w'.ownsRow w.heap.size 38 2 v A.length (flatD A)) ∧ Below w.heap.size w w'))
    (M1 : Hid (∀ b w, WAt b ps w → Calls Tryz.prog 40 #[.pointer (some ⟨b, 0, none⟩), .int .i64 c, .string nm, .string ds] w fun e w' => (∃ v, e = .returned (.tuple #[v, .int .i64 E]) ∧ w'.ownsRow w.heap.size 38 2 v M.length (flatD M)) ∧ Below w.heap.size w w'))
    (M2 : Hid (∀ b w, RAt b cs w → Calls Tryz.prog 41 #[.pointer (some ⟨b, 0, none⟩), .int .i64 c, .string nm, .string ds] w fun e w' => (∃ v, e = .returned (.tuple #[v, .int .i64 E]) ∧ w'.ownsRow w.heap.size 38 2 v M.length (flatD M)) ∧ Below w.heap.size w w'))
    (N1 : Hid (∀ b w, WAt b ps w → Calls Tryz.prog 42 #[.pointer (some ⟨b, 0, none⟩), .int .i64 c, .string nm, .string ds] w fun e w' => e = .returned (.tuple #[.agg #[.int .i64 o1, .int .i64 o2], .int .i64 o3]) ∧ Below w.heap.size w w'))
    (N2 : Hid (∀ b w, RAt b cs w → Calls Tryz.prog 43 #[.pointer (some ⟨b, 0, none⟩), .int .i64 c, .string nm, .string ds] w fun e w' => e = .returned (.tuple #[.agg #[.int .i64 o1, .int .i64 o2], .int .i64 o3]) ∧ Below w.heap.size w w'))
    (Q1 : Hid (∀ b w, WAt b ps w → Calls Tryz.prog 44 #[.pointer (some ⟨b, 0, none⟩), .int .i64 c, .string nm, .string ds] w fun e w' => e = .returned (.tuple #[.agg #[.int .i64 s1, .int .i64 s2], .int .i64 s3]) ∧ Below w.heap.size w w'))
    (Q2 : Hid (∀ b w, RAt b cs w → Calls Tryz.prog 45 #[.pointer (some ⟨b, 0, none⟩), .int .i64 c, .string nm, .string ds] w fun e w' => e = .returned (.tuple #[.agg #[.int .i64 s1, .int .i64 s2], .int .i64 s3]) ∧ Below w.heap.size w w')) :
    Calls Tryz.prog 7 #[v, .int .i64 c, .string nm, .string ds] W fun e w' => e = .returned (.bool true) ∧ Below W.heap.size W w' := by
  have HA : Hid (∀ w : World, Calls Tryz.prog 35 #[] w fun e w' => e = .returned (.bool true) ∧ Below w.heap.size w w') := awake10_c
  have HB : Hid (∀ w : World, Below W.heap.size W w → Calls Tryz.prog 36 #[v] w fun e w' => (∃ b, e = .returned (.pointer (some ⟨b, 0, none⟩)) ∧ WAt b ps w') ∧ Below w.heap.size w w') := fun w hb => by rw [hps]; exact built10_c v l w (clss_keep h hb)
  have HO : Hid (∀ w : World, Below W.heap.size W w → Calls Tryz.prog 17 #[v] w fun e w' => (∃ b, e = .returned (.pointer (some ⟨b, 0, none⟩)) ∧ RAt b cs w') ∧ Below w.heap.size w w') := fun w hb => by rw [hcs]; exact of_c v l w (clss_keep h hb)
  have SA : Hid (∀ (N1 N2 : Nat) (v1 v2 : Value) (w : World), w.ownsRow N1 38 2 v1 A.length (flatD A) → w.ownsRow N2 38 2 v2 A.length (flatD A) → Calls Tryz.prog 39 #[v1, v2] w fun e w' => e = .returned (.bool true) ∧ Below w.heap.size w w') := fun N1 N2 v1 v2 w h1 h2 => sameIDs_eq N1 N2 A v1 v2 w h1 h2 hA
  have SM : Hid (∀ (N1 N2 : Nat) (v1 v2 : Value) (w : World), w.ownsRow N1 38 2 v1 M.length (flatD M) → w.ownsRow N2 38 2 v2 M.length (flatD M) → Calls Tryz.prog 39 #[v1, v2] w fun e w' => e = .returned (.bool true) ∧ Below w.heap.size w w') := fun N1 N2 v1 v2 w h1 h2 => sameIDs_eq N1 N2 M v1 v2 w h1 h2 hM
  have SO : Hid (∀ w : World, Calls Tryz.prog 33 #[.agg #[.int .i64 o1, .int .i64 o2], .agg #[.int .i64 o1, .int .i64 o2]] w fun e w' => e = .returned (.bool true) ∧ Below w.heap.size w w') := fun w => (sameID_c (o1, o2) (o1, o2) w).mono fun e w' zz => ⟨by rw [zz.1]; simp, zz.2⟩
  have SS : Hid (∀ w : World, Calls Tryz.prog 33 #[.agg #[.int .i64 s1, .int .i64 s2], .agg #[.int .i64 s1, .int .i64 s2]] w fun e w' => e = .returned (.bool true) ∧ Below w.heap.size w w') := fun w => (sameID_c (s1, s2) (s1, s2) w).mono fun e w' zz => ⟨by rw [zz.1]; simp, zz.2⟩
  clear h hps hcs hA hM
  go_enter Tryz.func7, Tryz.ntmps7
  go_wp2_with (first
    | (go_at_call 35; refine (HA.out _).mono ?_; rintro e w1 ⟨rfl, hb⟩; have BB : Hid (Below W.heap.size W w1) := hb; clear hb HA)
    | (go_at_call 36; refine (HB.out _ BB.out).mono ?_; rintro e w2 ⟨⟨b, rfl, hw⟩, hb⟩; have HH : Hid (WAt b ps w2) := hw; have BB2 : Below W.heap.size W w2 := bstep BB.out hb; clear BB; have BB : Hid (Below W.heap.size W w2) := BB2; clear hb HB hw BB2)
    | (go_at_call 17; refine (HO.out _ BB.out).mono ?_; rintro e w3 ⟨⟨bx, rfl, hw⟩, hb⟩; have HR : Hid (RAt bx cs w3) := hw; have HH2 := HH.out.below hb; clear HH; have HH : Hid (WAt b ps w3) := HH2; have BB2 : Below W.heap.size W w3 := bstep BB.out hb; clear BB; have BB : Hid (Below W.heap.size W w3) := BB2; clear hb HO hw BB2 HH2)
    | (go_at_call 37; refine (C1.out _ _ HH.out).mono ?_; rintro e w4 ⟨⟨v4, rfl, ho⟩, hb⟩; obtain ⟨a4, c4, rfl⟩ := ownv ho; have O4 : Hid (w4.ownsRow w3.heap.size 38 2 (.slice a4 A.length c4) A.length (flatD A)) := ho; have HH2 := HH.out.below hb; have HR2 := HR.out.below hb; clear HH HR; have HH : Hid (WAt b ps w4) := HH2; have HR : Hid (RAt bx cs w4) := HR2; have BB2 : Below W.heap.size W w4 := bstep BB.out hb; clear BB; have BB : Hid (Below W.heap.size W w4) := BB2; clear HH2 HR2 BB2; clear hb ho C1)
    | (go_at_call 38; refine (C2.out _ _ HR.out).mono ?_; rintro e w5 ⟨⟨v5, rfl, ho⟩, hb⟩; obtain ⟨a5, c5, rfl⟩ := ownv ho; have O5 : Hid (w5.ownsRow w4.heap.size 38 2 (.slice a5 A.length c5) A.length (flatD A)) := ho; have O4b := rowBelow O4.out hb; have HH2 := HH.out.below hb; have HR2 := HR.out.below hb; clear HH HR; have HH : Hid (WAt b ps w5) := HH2; have HR : Hid (RAt bx cs w5) := HR2; have BB2 : Below W.heap.size W w5 := bstep BB.out hb; clear BB; have BB : Hid (Below W.heap.size W w5) := BB2; clear HH2 HR2 BB2; clear hb ho C2)
    | (go_at_call 39; refine (SA.out _ _ _ _ _ O4b O5.out).mono ?_; rintro e w6 ⟨rfl, hb⟩; have HH2 := HH.out.below hb; have HR2 := HR.out.below hb; clear HH HR; have HH : Hid (WAt b ps w6) := HH2; have HR : Hid (RAt bx cs w6) := HR2; have BB2 : Below W.heap.size W w6 := bstep BB.out hb; clear BB; have BB : Hid (Below W.heap.size W w6) := BB2; clear HH2 HR2 BB2; clear hb SA O4 O4b O5)
    | (go_at_call 40; refine (M1.out _ _ HH.out).mono ?_; rintro e w7 ⟨⟨v7, rfl, ho⟩, hb⟩; obtain ⟨a7, c7, rfl⟩ := ownv ho; have O7 : Hid (w7.ownsRow w6.heap.size 38 2 (.slice a7 M.length c7) M.length (flatD M)) := ho; have HH2 := HH.out.below hb; have HR2 := HR.out.below hb; clear HH HR; have HH : Hid (WAt b ps w7) := HH2; have HR : Hid (RAt bx cs w7) := HR2; have BB2 : Below W.heap.size W w7 := bstep BB.out hb; clear BB; have BB : Hid (Below W.heap.size W w7) := BB2; clear HH2 HR2 BB2; clear hb ho M1)
    | (go_at_call 41; refine (M2.out _ _ HR.out).mono ?_; rintro e w71 ⟨⟨v71, rfl, ho⟩, hb⟩; obtain ⟨a71, c71, rfl⟩ := ownv ho; have O71 : Hid (w71.ownsRow w7.heap.size 38 2 (.slice a71 M.length c71) M.length (flatD M)) := ho; have O7b := rowBelow O7.out hb; have HH2 := HH.out.below hb; have HR2 := HR.out.below hb; clear HH HR; have HH : Hid (WAt b ps w71) := HH2; have HR : Hid (RAt bx cs w71) := HR2; have BB2 : Below W.heap.size W w71 := bstep BB.out hb; clear BB; have BB : Hid (Below W.heap.size W w71) := BB2; clear HH2 HR2 BB2; clear hb ho M2)
    | (go_at_call 39; refine (SM.out _ _ _ _ _ O7b O71.out).mono ?_; rintro e w8 ⟨rfl, hb⟩; have HH2 := HH.out.below hb; have HR2 := HR.out.below hb; clear HH HR; have HH : Hid (WAt b ps w8) := HH2; have HR : Hid (RAt bx cs w8) := HR2; have BB2 : Below W.heap.size W w8 := bstep BB.out hb; clear BB; have BB : Hid (Below W.heap.size W w8) := BB2; clear HH2 HR2 BB2; clear hb SM O7 O7b O71)
    | (go_at_call 42; refine (N1.out _ _ HH.out).mono ?_; rintro e w9 ⟨rfl, hb⟩; have C9 : Hid (Below w8.heap.size w8 w9) := hb; have hle9 : w8.heap.size ≤ w9.heap.size := hb.size; clear hb N1)
    | (go_at_call 43; refine (N2.out _ _ (HR.out.below (C9.out.alloc C9.out.size _))).mono ?_; rintro e w10 ⟨rfl, hb⟩; have mmd : w10.heap[w9.heap.size]? = some (.cells #[.int .i64 o1, .int .i64 o2] 38 (0, 0)) := (hb.block (w9.heap.size) (by first | omega | (simp; try omega))).trans (by first | exact mmB.out | exact hkeep mmB.out | exact hkeep (hkeep mmB.out) | exact halloc2 _ _ rfl | exact heap_alloc2_old _ _ _ | exact heap_alloc2_new _ _ _ | exact hkeep (halloc2 _ _ rfl) | exact hkeep (hkeep (halloc2 _ _ rfl)) | exact halloc2 _ _ (by simp; done)); (try clear mmB mmL mmN mm0 mm1 mmf0 mmf1); have mmB : Hid (w10.heap[w9.heap.size]? = some (.cells #[.int .i64 o1, .int .i64 o2] 38 (0, 0))) := mmd; have mm0 : w10.cell? ⟨w9.heap.size, 0, none⟩ = some (.int .i64 o1) := (cell_of_row w10 (w9.heap.size) 0 _ _ _ mmd).trans rfl; have mmf0 := frozen_of_row w10 (w9.heap.size) 0 _ _ mmd; have mm1 : w10.cell? ⟨w9.heap.size, 1, none⟩ = some (.int .i64 o2) := (cell_of_row w10 (w9.heap.size) 1 _ _ _ mmd).trans rfl; have mmf1 := frozen_of_row w10 (w9.heap.size) 1 _ _ mmd; have mmL : w9.heap.size < w10.heap.size := (Array.getElem?_eq_some_iff.1 mmd).1; have mmN : ¬ w9.heap.size = w10.heap.size := (by omega); clear mmd; have C10 : Hid (Below w8.heap.size w8 w10) := bstep (C9.out.alloc C9.out.size _) hb; have hle10 : w8.heap.size ≤ w10.heap.size := C10.out.size; clear hb N2)
    | (go_at_call 33; refine (SO.out _).mono ?_; rintro e w11 ⟨rfl, hb⟩; have hmn : ¬ w9.heap.size = w10.heap.size := (by omega); have hnm : ¬ w10.heap.size = w9.heap.size := (by omega); have mmd : w11.heap[w9.heap.size]? = some (.cells #[.int .i64 o1, .int .i64 o2] 38 (0, 0)) := (hb.block (w9.heap.size) (by first | omega | (simp; try omega))).trans (by first | exact mmB.out | exact hkeep mmB.out | exact hkeep (hkeep mmB.out) | exact halloc2 _ _ rfl | exact heap_alloc2_old _ _ _ | exact heap_alloc2_new _ _ _ | exact hkeep (halloc2 _ _ rfl) | exact hkeep (hkeep (halloc2 _ _ rfl)) | exact halloc2 _ _ (by simp; done)); (try clear mmB mmL mmN mm0 mm1 mmf0 mmf1); have mmB : Hid (w11.heap[w9.heap.size]? = some (.cells #[.int .i64 o1, .int .i64 o2] 38 (0, 0))) := mmd; have mm0 : w11.cell? ⟨w9.heap.size, 0, none⟩ = some (.int .i64 o1) := (cell_of_row w11 (w9.heap.size) 0 _ _ _ mmd).trans rfl; have mmf0 := frozen_of_row w11 (w9.heap.size) 0 _ _ mmd; have mm1 : w11.cell? ⟨w9.heap.size, 1, none⟩ = some (.int .i64 o2) := (cell_of_row w11 (w9.heap.size) 1 _ _ _ mmd).trans rfl; have mmf1 := frozen_of_row w11 (w9.heap.size) 1 _ _ mmd; have mmL : w9.heap.size < w11.heap.size := (Array.getElem?_eq_some_iff.1 mmd).1; have mmN : ¬ w9.heap.size = w11.heap.size := (by omega); clear mmd; have nnd : w11.heap[w10.heap.size]? = some (.cells #[.int .i64 o1, .int .i64 o2] 38 (0, 0)) := (hb.block (w10.heap.size) (by first | omega | (simp; try omega))).trans (by first | exact nnB.out | exact hkeep nnB.out | exact hkeep (hkeep nnB.out) | exact halloc2 _ _ rfl | exact heap_alloc2_old _ _ _ | exact heap_alloc2_new _ _ _ | exact hkeep (halloc2 _ _ rfl) | exact hkeep (hkeep (halloc2 _ _ rfl)) | exact halloc2 _ _ (by simp; done)); (try clear nnB nnL nnN nn0 nn1 nnf0 nnf1); have nnB : Hid (w11.heap[w10.heap.size]? = some (.cells #[.int .i64 o1, .int .i64 o2] 38 (0, 0))) := nnd; have nn0 : w11.cell? ⟨w10.heap.size, 0, none⟩ = some (.int .i64 o1) := (cell_of_row w11 (w10.heap.size) 0 _ _ _ nnd).trans rfl; have nnf0 := frozen_of_row w11 (w10.heap.size) 0 _ _ nnd; have nn1 : w11.cell? ⟨w10.heap.size, 1, none⟩ = some (.int .i64 o2) := (cell_of_row w11 (w10.heap.size) 1 _ _ _ nnd).trans rfl; have nnf1 := frozen_of_row w11 (w10.heap.size) 1 _ _ nnd; have nnL : w10.heap.size < w11.heap.size := (Array.getElem?_eq_some_iff.1 nnd).1; have nnN : ¬ w10.heap.size = w11.heap.size := (by omega); clear nnd; have C11 : Hid (Below w8.heap.size w8 w11) := bstep (C10.out.alloc C10.out.size _) hb; clear hb SO)
    | (go_at_call 44; refine (Q1.out _ _ (HH.out.below C11.out)).mono ?_; rintro e w12 ⟨rfl, hb⟩; have mmd : w12.heap[w9.heap.size]? = some (.cells #[.int .i64 o1, .int .i64 o2] 38 (0, 0)) := (hb.block (w9.heap.size) (by first | omega | (simp; try omega))).trans (by first | exact mmB.out | exact hkeep mmB.out | exact hkeep (hkeep mmB.out) | exact halloc2 _ _ rfl | exact heap_alloc2_old _ _ _ | exact heap_alloc2_new _ _ _ | exact hkeep (halloc2 _ _ rfl) | exact hkeep (hkeep (halloc2 _ _ rfl)) | exact halloc2 _ _ (by simp; done)); (try clear mmB mmL mmN mm0 mm1 mmf0 mmf1); have mmB : Hid (w12.heap[w9.heap.size]? = some (.cells #[.int .i64 o1, .int .i64 o2] 38 (0, 0))) := mmd; have mm0 : w12.cell? ⟨w9.heap.size, 0, none⟩ = some (.int .i64 o1) := (cell_of_row w12 (w9.heap.size) 0 _ _ _ mmd).trans rfl; have mmf0 := frozen_of_row w12 (w9.heap.size) 0 _ _ mmd; have mm1 : w12.cell? ⟨w9.heap.size, 1, none⟩ = some (.int .i64 o2) := (cell_of_row w12 (w9.heap.size) 1 _ _ _ mmd).trans rfl; have mmf1 := frozen_of_row w12 (w9.heap.size) 1 _ _ mmd; have mmL : w9.heap.size < w12.heap.size := (Array.getElem?_eq_some_iff.1 mmd).1; have mmN : ¬ w9.heap.size = w12.heap.size := (by omega); clear mmd; have nnd : w12.heap[w10.heap.size]? = some (.cells #[.int .i64 o1, .int .i64 o2] 38 (0, 0)) := (hb.block (w10.heap.size) (by first | omega | (simp; try omega))).trans (by first | exact nnB.out | exact hkeep nnB.out | exact hkeep (hkeep nnB.out) | exact halloc2 _ _ rfl | exact heap_alloc2_old _ _ _ | exact heap_alloc2_new _ _ _ | exact hkeep (halloc2 _ _ rfl) | exact hkeep (hkeep (halloc2 _ _ rfl)) | exact halloc2 _ _ (by simp; done)); (try clear nnB nnL nnN nn0 nn1 nnf0 nnf1); have nnB : Hid (w12.heap[w10.heap.size]? = some (.cells #[.int .i64 o1, .int .i64 o2] 38 (0, 0))) := nnd; have nn0 : w12.cell? ⟨w10.heap.size, 0, none⟩ = some (.int .i64 o1) := (cell_of_row w12 (w10.heap.size) 0 _ _ _ nnd).trans rfl; have nnf0 := frozen_of_row w12 (w10.heap.size) 0 _ _ nnd; have nn1 : w12.cell? ⟨w10.heap.size, 1, none⟩ = some (.int .i64 o2) := (cell_of_row w12 (w10.heap.size) 1 _ _ _ nnd).trans rfl; have nnf1 := frozen_of_row w12 (w10.heap.size) 1 _ _ nnd; have nnL : w10.heap.size < w12.heap.size := (Array.getElem?_eq_some_iff.1 nnd).1; have nnN : ¬ w10.heap.size = w12.heap.size := (by omega); clear nnd; have C12 : Hid (Below w8.heap.size w8 w12) := bstep C11.out hb; clear hb Q1)
    | (go_at_call 45; refine (Q2.out _ _ (HR.out.below (((C12.out).setCell (by simp; try omega) _).setCell (by simp; try omega) _))).mono ?_; rintro e w13 ⟨rfl, hb⟩; have mmd : w13.heap[w9.heap.size]? = some (.cells #[.int .i64 s1, .int .i64 s2] 38 (0, 0)) := (hb.block w9.heap.size (by simp; try omega)).trans (by rw [heap_setCell_same _ _ _ #[.int .i64 s1, .int .i64 o2] 38 _ (by rw [heap_setCell_same _ _ _ _ _ _ mmB.out]; rfl)]; rfl); have nnd : w13.heap[w10.heap.size]? = some (.cells #[.int .i64 o1, .int .i64 o2] 38 (0, 0)) := (hb.block w10.heap.size (by simp; try omega)).trans (by rw [heap_setCell_other _ _ _ _ (by simp; omega), heap_setCell_other _ _ _ _ (by simp; omega)]; exact nnB.out); clear mmB mm0 mm1 mmf0 mmf1 mmL mmN nnB nn0 nn1 nnf0 nnf1 nnL nnN; obtain ⟨p0, p1, p2, p3, p4, _⟩ := row_facts (W := W) mmd; obtain ⟨q0, q1, q2, q3, q4, _⟩ := row_facts (W := W) nnd; have C13 : Hid (Below w8.heap.size w8 w13) := bstep (((C12.out).setCell (by simp; try omega) _).setCell (by simp; try omega) _) hb; clear hb Q2 mmd nnd)
    | (go_at_call 33; refine (SS.out _).mono ?_; rintro e w14 ⟨rfl, hb⟩; have C14 : Hid (Below w8.heap.size w8 w14) := bstep (((C13.out).setCell (by simp; try omega) _).setCell (by simp; try omega) _) hb; clear hb SS))
  all_goals go_ret
  exact ⟨retB (by simp), BB.out.trans (C14.out.mono BB.out.size)⟩
theorem MaxspecPlays_any (v : Value) (l : List Cls) (c : Int) (nm ds : ByteArray) (W : World) (h : IsClss W v l) (_ : nm.size ≤ maxLen) (_ : ds.size ≤ maxLen) : Calls Tryz.prog 7 #[v, .int .i64 c, .string nm, .string ds] W fun e w' => e = .returned (.bool true) ∧ Below W.heap.size W w' := by
  have hCW := clss_w h
  obtain ⟨hWI, hWJ⟩ := wld_wj l hCW
  have ht := twW l hCW
  rcases plcI_cases (wld l) c with ⟨h1, _⟩ | ⟨k, q, rfl, h2, h1⟩
  · refine plays10 v l _ _ rfl rfl c nm ds W h [] [] (by simp) (by simp) 3 0 0 3 0 0 3 ?_ ?_ ?_ ?_ ?_ ?_ ?_ ?_
    · exact fun b w hw => (cand_no hw c h1 nm ds).mono fun e w' zz => ⟨⟨_, zz.1, World.ownsRow_nil _ _ _ _⟩, zz.2⟩
    · exact fun b w hw => (rCand_no hw ht c h1 nm ds).mono fun e w' zz => ⟨⟨_, zz.1, World.ownsRow_nil _ _ _ _⟩, zz.2⟩
    · exact fun b w hw => (max_no hw c h1 nm ds).mono fun e w' zz => ⟨⟨_, zz.1, World.ownsRow_nil _ _ _ _⟩, zz.2⟩
    · exact fun b w hw => rMax_any hw ht hWJ c 3 nm ds [] (by simp) fun w' hb' => (rCand_no (hw.below hb') ht c h1 nm ds).mono fun e w'' zz => ⟨⟨_, zz.1, World.ownsRow_nil _ _ _ _⟩, zz.2⟩
    · exact fun b w hw => one_no hw c h1 nm ds
    · exact fun b w hw => rOne_no hw ht hWJ c h1 nm ds
    · exact fun b w hw => some_no hw c h1 nm ds
    · exact fun b w hw => rSome_no hw ht c h1 nm ds
  · have hcb : (candL (wld l) nm ds q.cl).length ≤ 300 := Nat.le_trans (candL_len (wld l) nm ds q.cl) (Nat.le_trans (wi_cl ht.wi h2) ht.wi.hi)
    have hmb : (maxL (wld l) (candL (wld l) nm ds q.cl)).length ≤ 300 := Nat.le_trans (List.length_filter_le _ _) hcb
    refine plays10 v l _ _ rfl rfl k nm ds W h (candL (wld l) nm ds q.cl) (maxL (wld l) (candL (wld l) nm ds q.cl)) (by omega) (by omega) 0 _ _ _ _ _ _ ?_ ?_ ?_ ?_ (fun b w hw => one_yes hw hWI k q h2 nm ds) (fun b w hw => rOne_yes hw ht hWJ k q h2 nm ds) (fun b w hw => some_yes hw hWI k q h2 nm ds) (fun b w hw => rSome_yes hw ht hWJ k q h2 nm ds)
    · exact fun b w hw => cand_yes hw hWI.pb hWI.hi k q h2 nm ds
    · exact fun b w hw => rCand_yes hw ht hWJ k q h2 nm ds
    · exact fun b w hw => max_yes hw hWI k q h2 nm ds
    · exact fun b w hw => rMax_any hw ht hWJ k 0 nm ds _ hcb fun w' hb' => rCand_yes (hw.below hb') ht hWJ k q h2 nm ds
end Go.Proofs.YtgppadlkollfaaaGreat
