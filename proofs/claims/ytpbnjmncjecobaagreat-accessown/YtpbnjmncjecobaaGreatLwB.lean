/- The law AccessOwn: the walk. -/
import Derived.Test.YtpbnjmncjecobaaGreatLwA
namespace Go.Proofs.YtpbnjmncjecobaaGreat
open Go.RowKit Go.Maps

set_option maxRecDepth 100000 in
set_option maxHeartbeats 4000000 in
/-- where there is no such method -/
theorem own_none (v : Value) (l : List Cls) (d x c i n : Int) (W : World) (h : IsClss W v l) (hm : methI (wld l) c i = none) : Calls Tryz.prog 11 #[v, .int .i64 d, .int .i64 x, .agg #[.int .i64 c, .int .i64 i], .int .i64 n] W fun e w' => e = .returned (.bool true) ∧ Below W.heap.size W w' := by
  have hCW := clss_w h
  have hWI := wld_wi l hCW
  have HA : Hid (∀ w : World, Calls Tryz.prog 54 #[] w fun e w' => e = .returned (.bool true) ∧ Below w.heap.size w w') := awake8_c
  have HB : Hid (∀ w : World, Below W.heap.size W w → Calls Tryz.prog 55 #[v] w fun e w' => (∃ b, e = .returned (.pointer (some ⟨b, 0, none⟩)) ∧ WAt b (wld l) w') ∧ Below w.heap.size w w') := fun w hb => built8_c v l w (clss_keep h hb)
  have HM : Hid (∀ b w, WAt b (wld l) w → Calls Tryz.prog 39 #[.pointer (some ⟨b, 0, none⟩), .agg #[.int .i64 c, .int .i64 i]] w fun e w' => e = .returned noM ∧ Below w.heap.size w w') := fun b w hw => by
    have := method_c hw hWI.pb c i
    rw [hm] at this
    exact this
  have HO : Hid (∀ b w, WAt b (wld l) w → Calls Tryz.prog 62 #[.pointer (some ⟨b, 0, none⟩), .int .i64 0, .agg #[.int .i64 c, .int .i64 i], .int .i64 0] w fun e w' => e = .returned (.tuple #[.bool false, .int .i64 3]) ∧ Below w.heap.size w w') := fun b w hw => by
    have := methodOpen_c hw hWI 0 c i 0
    have e : moI (wld l) 0 c i 0 = .tuple #[.bool false, .int .i64 3] := by
      unfold moI; rw [hm]
      cases plcI (wld l) 0 <;> cases plcI (wld l) c <;> rfl
    rw [e] at this
    exact this
  clear h hm hCW hWI
  unfold noM at HM
  go_enter Tryz.func11, Tryz.ntmps11
  go_wp2_with (first
    | (go_at_call 54; refine (HA.out _).mono ?_; rintro e w1 ⟨rfl, hb⟩; have h0 := (hb.block W.heap.size (by simp)).trans (halloc1 W _); have H0 : Hid (w1.heap[W.heap.size]? = some (.cells #[.int .i64 c, .int .i64 i] 62 (0, 0))) := h0; have B1 : Hid (Below W.heap.size W w1) := bstep (by repeat (first | exact Below.refl _ _ | refine Below.setCell ?_ (by simp; try omega) _ | refine Below.alloc ?_ (by simp; try omega) _ | refine Below.drew ?_)) hb; clear hb h0 HA)
    | (go_at_call 55; refine (HB.out _ B1.out).mono ?_; rintro e w2 ⟨⟨b, rfl, hw⟩, hb⟩; have H2 : Hid (WAt b (wld l) w2) := hw; have hl1 : W.heap.size < w1.heap.size := (Array.getElem?_eq_some_iff.1 H0.out).1; have h0 := (hb.block W.heap.size hl1).trans H0.out; clear H0; have H0 : Hid (w2.heap[W.heap.size]? = some (.cells #[.int .i64 c, .int .i64 i] 62 (0, 0))) := h0; have r0 := cell_of_row w2 W.heap.size 0 _ _ _ h0; have r1 := cell_of_row w2 W.heap.size 1 _ _ _ h0; simp only [List.getElem?_toArray, List.getElem?_cons_zero, List.getElem?_cons_succ] at r0 r1; have B2 : Hid (Below W.heap.size W w2) := bstep B1.out hb; clear hb h0 HB hw)
    | (go_at_call 39; refine (HM.out _ _ H2.out).mono ?_; rintro e w3 ⟨rfl, hb⟩; have H3 : Hid (WAt b (wld l) w3) := H2.out.below hb; have hl2 : W.heap.size < w2.heap.size := (Array.getElem?_eq_some_iff.1 H0.out).1; have hl3 : W.heap.size < w3.heap.size := Nat.lt_of_lt_of_le hl2 hb.size; have hn3 : ¬ W.heap.size = w3.heap.size := (by omega); replace r0 := (hb.cell (p := ⟨W.heap.size, 0, none⟩) hl2).trans r0; replace r1 := (hb.cell (p := ⟨W.heap.size, 1, none⟩) hl2).trans r1; have B3 : Hid (Below W.heap.size W w3) := bstep B2.out hb; clear hb HM)
    | (go_at_call 62; refine (HO.out _ _ (H3.out.below (by repeat (first | exact Below.refl _ _ | refine Below.setCell ?_ (by simp; try omega) _ | refine Below.alloc ?_ (by simp; try omega) _ | refine Below.drew ?_)))).mono ?_; rintro e w4 ⟨rfl, hb⟩; have B4 : Hid (Below W.heap.size W w4) := bstep (B3.out.alloc B3.out.size _) hb; clear hb HO))
  exact bodyPost_ret (results_tmp rfl _ _ _) rfl ⟨rfl, B4.out⟩
set_option maxRecDepth 100000 in
set_option maxHeartbeats 4000000 in
/-- where there is such a method: the three questions and what they are answered -/
theorem own_some (v : Value) (l : List Cls) (ps : List Plc) (hps : ps = wld l) (d x i n : Int) (k : Nat) (m : HM) (W : World) (h : IsClss W v l) (hm : methI ps k i = some m) (A B sa sde : Bool) (h2 h3 : Int)
    (h22 : h2 = 3 ∨ h2 = 0) (h33 : h3 = 3 ∨ h3 = 0)
    (m1 : moI ps k k i k = .tuple #[.bool true, .int .i64 0]) (m2 : moI ps d k i n = .tuple #[.bool A, .int .i64 h2]) (m3 : moI ps x k i n = .tuple #[.bool B, .int .i64 h3]) (s1 : spI ps d k = sa) (s2 : spI ps d x = sde)
    (f1 : h2 = 0 → hasI m.fl 1 = true → A = true) (f2 : h2 = 0 → hasI m.fl 2 = true → A = ((d : Int) == (k : Int))) (f3 : h2 = 0 → hasI m.fl 2 = false → sa = true → A = true) (f4 : h2 = 0 → hasI m.fl 2 = false → hasI m.fl 5 = false → A = sa) (f5 : h2 = 0 → h3 = 0 → hasI m.fl 2 = false → sde = true → sa = true → B = true) :
    Calls Tryz.prog 11 #[v, .int .i64 d, .int .i64 x, .agg #[.int .i64 (k : Int), .int .i64 i], .int .i64 n] W fun e w' => e = .returned (.bool true) ∧ Below W.heap.size W w' := by
  have hCW := clss_w h
  have hWI : WI ps := by rw [hps]; exact wld_wi l hCW
  have HA : Hid (∀ w : World, Calls Tryz.prog 54 #[] w fun e w' => e = .returned (.bool true) ∧ Below w.heap.size w w') := awake8_c
  have HB : Hid (∀ w : World, Below W.heap.size W w → Calls Tryz.prog 55 #[v] w fun e w' => (∃ b, e = .returned (.pointer (some ⟨b, 0, none⟩)) ∧ WAt b ps w') ∧ Below w.heap.size w w') := fun w hb => by rw [hps]; exact built8_c v l w (clss_keep h hb)
  have HM : Hid (∀ b w, WAt b ps w → Calls Tryz.prog 39 #[.pointer (some ⟨b, 0, none⟩), .agg #[.int .i64 (k : Int), .int .i64 i]] w fun e w' => (∃ v, e = .returned (.tuple #[.agg #[.string m.nm, .string m.ds, .int .i64 m.fl, .int .i64 m.lo, .int .i64 m.st, v], .int .i64 0]) ∧ w'.ownsRow w.heap.size 166 7 v m.n m.xs) ∧ Below w.heap.size w w') := fun b w hw => by
    have := method_c hw hWI.pb k i
    rw [hm] at this
    exact this
  have O1 : Hid (∀ b w j, WAt b ps w → j = (k : Int) → Calls Tryz.prog 62 #[.pointer (some ⟨b, 0, none⟩), .int .i64 j, .agg #[.int .i64 (k : Int), .int .i64 i], .int .i64 j] w fun e w' => e = .returned (.tuple #[.bool true, .int .i64 0]) ∧ Below w.heap.size w w') := fun b w j hw hj => by
    rw [hj, ← m1]; exact methodOpen_c hw hWI k k i k
  have O2 : Hid (∀ b w j, WAt b ps w → j = d → Calls Tryz.prog 62 #[.pointer (some ⟨b, 0, none⟩), .int .i64 j, .agg #[.int .i64 (k : Int), .int .i64 i], .int .i64 n] w fun e w' => e = .returned (.tuple #[.bool A, .int .i64 h2]) ∧ Below w.heap.size w w') := fun b w j hw hj => by
    rw [hj, ← m2]; exact methodOpen_c hw hWI d k i n
  have O3 : Hid (∀ b w j, WAt b ps w → j = x → Calls Tryz.prog 62 #[.pointer (some ⟨b, 0, none⟩), .int .i64 j, .agg #[.int .i64 (k : Int), .int .i64 i], .int .i64 n] w fun e w' => e = .returned (.tuple #[.bool B, .int .i64 h3]) ∧ Below w.heap.size w w') := fun b w j hw hj => by
    rw [hj, ← m3]; exact methodOpen_c hw hWI x k i n
  have P1 : Hid (∀ b w j, WAt b ps w → j = (k : Int) → Calls Tryz.prog 35 #[.pointer (some ⟨b, 0, none⟩), .int .i64 d, .int .i64 j] w fun e w' => e = .returned (.bool sa) ∧ Below w.heap.size w w') := fun b w j hw hj => by
    rw [hj, ← s1]; exact samePk_c hw hWI.nm d k
  have P2 : Hid (∀ b w j, WAt b ps w → j = x → Calls Tryz.prog 35 #[.pointer (some ⟨b, 0, none⟩), .int .i64 d, .int .i64 j] w fun e w' => e = .returned (.bool sde) ∧ Below w.heap.size w w') := fun b w j hw hj => by
    rw [hj, ← s2]; exact samePk_c hw hWI.nm d x
  clear h hm hCW hWI m1 m2 m3 s1 s2 hps
  have e1 : hasI m.fl 1 = (bits .and .i64 m.fl 1 != 0) := rfl
  have e2 : hasI m.fl 2 = (bits .and .i64 m.fl 2 != 0) := rfl
  have e5 : hasI m.fl 5 = (bits .and .i64 m.fl 5 != 0) := rfl
  rw [e1] at f1
  rw [e2] at f2 f3 f4 f5
  rw [e5] at f4
  generalize hg1 : bits .and .i64 m.fl 1 = g1 at *
  generalize hg2 : bits .and .i64 m.fl 2 = g2 at *
  generalize hg5 : bits .and .i64 m.fl 5 = g5 at *
  clear e1 e2 e5
  have F1 : Hid _ := f1
  have F2 : Hid _ := f2
  have F3 : Hid _ := f3
  have F4 : Hid _ := f4
  have F5 : Hid _ := f5
  clear f1 f2 f3 f4 f5
  rcases h22 with rfl | rfl
  all_goals rcases h33 with rfl | rfl
  all_goals go_enter Tryz.func11, Tryz.ntmps11
  all_goals go_wp2_with (first
    | (go_at_call 54; refine (HA.out _).mono ?_; rintro e w1 ⟨rfl, hb⟩; have h0 := (hb.block W.heap.size (by simp)).trans (halloc1 W _); have H0 : Hid (w1.heap[W.heap.size]? = some (.cells #[.int .i64 (k : Int), .int .i64 i] 62 (0, 0))) := h0; have B1 : Hid (Below W.heap.size W w1) := bstep (by repeat (first | exact Below.refl _ _ | refine Below.setCell ?_ (by simp; try omega) _ | refine Below.alloc ?_ (by simp; try omega) _ | refine Below.drew ?_)) hb; clear hb h0 HA)
    | (go_at_call 55; refine (HB.out _ B1.out).mono ?_; rintro e w2 ⟨⟨b, rfl, hw⟩, hb⟩; have H2 : Hid (WAt b ps w2) := hw; have hl1 : W.heap.size < w1.heap.size := (Array.getElem?_eq_some_iff.1 H0.out).1; have h0 := (hb.block W.heap.size hl1).trans H0.out; clear H0; have H0 : Hid (w2.heap[W.heap.size]? = some (.cells #[.int .i64 (k : Int), .int .i64 i] 62 (0, 0))) := h0; have r0 := cell_of_row w2 W.heap.size 0 _ _ _ h0; have r1 := cell_of_row w2 W.heap.size 1 _ _ _ h0; simp only [List.getElem?_toArray, List.getElem?_cons_zero, List.getElem?_cons_succ] at r0 r1; have B2 : Hid (Below W.heap.size W w2) := bstep B1.out hb; clear hb h0 HB hw)
    | (go_at_call 39; refine (HM.out _ _ H2.out).mono ?_; rintro e w3 ⟨⟨vv, rfl, hown⟩, hb⟩; obtain ⟨a1, c1, rfl⟩ := ownv hown; have HH : Hid (WAt b ps w3) := H2.out.below hb; have hl2 : W.heap.size < w2.heap.size := (Array.getElem?_eq_some_iff.1 H0.out).1; have hl3 : W.heap.size < w3.heap.size := Nat.lt_of_lt_of_le hl2 hb.size; have hn3 : ¬ W.heap.size = w3.heap.size := (by omega); replace r0 := (hb.cell (p := ⟨W.heap.size, 0, none⟩) hl2).trans r0; replace r1 := (hb.cell (p := ⟨W.heap.size, 1, none⟩) hl2).trans r1; have BB : Hid (Below W.heap.size W w3) := bstep B2.out hb; clear hb HM hown H0 H2 hl1 hl2)
    | (go_at_call 62; refine (O1.out _ _ _ (HH.out.below (by repeat (first | exact Below.refl _ _ | refine Below.setCell ?_ (by simp; try omega) _ | refine Below.alloc ?_ (by simp; try omega) _ | refine Below.drew ?_))) (by rfl)).mono ?_; rintro e w4 ⟨rfl, hb⟩; have hs := hb.size; have HH2 := (HH.out.below (by repeat (first | exact Below.refl _ _ | refine Below.setCell ?_ (by simp; try omega) _ | refine Below.alloc ?_ (by simp; try omega) _ | refine Below.drew ?_))).below hb; clear HH; have HH : Hid (WAt b ps w4) := HH2; replace r0 := (hb.cell (p := ⟨W.heap.size, 0, none⟩) (by simp; omega)).trans ((Below.cell (Below.alloc (Below.refl w3.heap.size w3) (Nat.le_refl _) _) hl3).trans r0); replace r1 := (hb.cell (p := ⟨W.heap.size, 1, none⟩) (by simp; omega)).trans ((Below.cell (Below.alloc (Below.refl w3.heap.size w3) (Nat.le_refl _) _) hl3).trans r1); have q2 : w4.cell? ⟨w3.heap.size, 2, none⟩ = some (.int .i64 m.fl) := (hb.cell (p := ⟨w3.heap.size, 2, none⟩) (by simp)).trans (by simp [go_sem]); have hlx : w3.heap.size < w4.heap.size := Nat.lt_of_lt_of_le (by simp) hs; replace hl3 : W.heap.size < w4.heap.size := (by omega); have BB2 := bstep (BB.out.alloc BB.out.size _) hb; clear BB; have BB : Hid (Below W.heap.size W w4) := BB2; clear hb hs HH2 BB2 O1)
    | (go_at_call 62; refine (O2.out _ _ _ HH.out (by rfl)).mono ?_; rintro e w5 ⟨rfl, hb⟩; have hs := hb.size; have HH2 := HH.out.below hb; clear HH; have HH : Hid (WAt b ps w5) := HH2; clear HH2; replace r0 := (hb.cell (p := ⟨W.heap.size, 0, none⟩) hl3).trans r0; replace r1 := (hb.cell (p := ⟨W.heap.size, 1, none⟩) hl3).trans r1; replace q2 := (hb.cell (p := ⟨w3.heap.size, 2, none⟩) hlx).trans q2; replace hl3 := Nat.lt_of_lt_of_le hl3 hs; replace hlx := Nat.lt_of_lt_of_le hlx hs; have BB2 := bstep BB.out hb; clear BB; have BB : Hid (Below W.heap.size W w5) := BB2; clear hb hs BB2; clear O2)
    | (go_at_call 35; refine (P1.out _ _ _ HH.out (by rfl)).mono ?_; rintro e w6 ⟨rfl, hb⟩; have hs := hb.size; have HH2 := HH.out.below hb; clear HH; have HH : Hid (WAt b ps w6) := HH2; clear HH2; replace r0 := (hb.cell (p := ⟨W.heap.size, 0, none⟩) hl3).trans r0; replace r1 := (hb.cell (p := ⟨W.heap.size, 1, none⟩) hl3).trans r1; replace q2 := (hb.cell (p := ⟨w3.heap.size, 2, none⟩) hlx).trans q2; replace hl3 := Nat.lt_of_lt_of_le hl3 hs; replace hlx := Nat.lt_of_lt_of_le hlx hs; have BB2 := bstep BB.out hb; clear BB; have BB : Hid (Below W.heap.size W w6) := BB2; clear hb hs BB2; clear P1)
    | (go_at_call 62; refine (O3.out _ _ _ HH.out (by rfl)).mono ?_; rintro e w7 ⟨rfl, hb⟩; have hs := hb.size; have HH2 := HH.out.below hb; clear HH; have HH : Hid (WAt b ps w7) := HH2; clear HH2; replace r0 := (hb.cell (p := ⟨W.heap.size, 0, none⟩) hl3).trans r0; replace r1 := (hb.cell (p := ⟨W.heap.size, 1, none⟩) hl3).trans r1; replace q2 := (hb.cell (p := ⟨w3.heap.size, 2, none⟩) hlx).trans q2; replace hl3 := Nat.lt_of_lt_of_le hl3 hs; replace hlx := Nat.lt_of_lt_of_le hlx hs; have BB2 := bstep BB.out hb; clear BB; have BB : Hid (Below W.heap.size W w7) := BB2; clear hb hs BB2; clear O3)
    | (go_at_call 35; refine (P2.out _ _ _ HH.out (by rfl)).mono ?_; rintro e w8 ⟨rfl, hb⟩; have hs := hb.size; have HH2 := HH.out.below hb; clear HH; have HH : Hid (WAt b ps w8) := HH2; clear HH2; replace r0 := (hb.cell (p := ⟨W.heap.size, 0, none⟩) hl3).trans r0; replace r1 := (hb.cell (p := ⟨W.heap.size, 1, none⟩) hl3).trans r1; replace q2 := (hb.cell (p := ⟨w3.heap.size, 2, none⟩) hlx).trans q2; replace hl3 := Nat.lt_of_lt_of_le hl3 hs; replace hlx := Nat.lt_of_lt_of_le hlx hs; have BB2 := bstep BB.out hb; clear BB; have BB : Hid (Below W.heap.size W w8) := BB2; clear hb hs BB2; clear P2))
  all_goals go_ret
  all_goals refine ⟨retB ?_, BB.out⟩
  all_goals have f1 := F1.out
  all_goals have f2 := F2.out
  all_goals have f3 := F3.out
  all_goals have f4 := F4.out
  all_goals have f5 := F5.out
  all_goals clear F1 F2 F3 F4 F5 BB HH r0 r1 q2 hl3 hlx hn3
  all_goals simp_all
end Go.Proofs.YtpbnjmncjecobaaGreat
