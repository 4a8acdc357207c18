/- The law AccessOpen: the walk. -/
import Derived.Test.YtpbnjmncjecobaaGreatWdN
namespace Go.Proofs.YtpbnjmncjecobaaGreat
open Go.RowKit Go.Maps

theorem eqL (a b : ByteArray) : (a == b) = (a.toList == b.toList) := by
  obtain ⟨a⟩ := a
  obtain ⟨b⟩ := b
  have h : ((⟨a⟩ : ByteArray) == ⟨b⟩) = (a == b) := rfl
  rw [Lib.toList_data, Lib.toList_data, h, Bool.eq_iff_iff, beq_iff_eq, beq_iff_eq]
  exact ⟨fun h => by rw [h], fun h => Array.toList_inj.1 h⟩
theorem open_pub1 (f : Int) : (openI f == 1) = hasI f 1 := by
  unfold openI
  cases h1 : hasI f 1
  · cases h4 : hasI f 4
    · cases h2 : hasI f 2 <;> rfl
    · rfl
  · rfl
set_option maxRecDepth 100000 in
set_option maxHeartbeats 4000000 in
theorem open_none (v : Value) (l : List Cls) (ps : List Plc) (hps : ps = wld l) (d c n : Int) (W : World) (h : IsClss W v l) (hm : plcI ps c = none ∨ plcI ps d = none) : Calls Tryz.prog 12 #[v, .int .i64 d, .int .i64 c, .int .i64 n] W fun e w' => e = .returned (.bool true) ∧ Below W.heap.size W w' := by
  have hCW := clss_w h
  have hWI : WI ps := by rw [hps]; exact wld_wi l hCW
  have HA : Hid (∀ w : World, Calls Tryz.prog 54 #[] w fun e w' => e = .returned (.bool true) ∧ Below w.heap.size w w') := awake8_c
  have HB : Hid (∀ w : World, Below W.heap.size W w → Calls Tryz.prog 55 #[v] w fun e w' => (∃ b, e = .returned (.pointer (some ⟨b, 0, none⟩)) ∧ WAt b ps w') ∧ Below w.heap.size w w') := fun w hb => by rw [hps]; exact built8_c v l w (clss_keep h hb)
  have HC : Hid (∀ (b : Nat) (w : World) (i : Int) (z : Option Plc), WAt b ps w → plcI ps i = z → Calls Tryz.prog 18 #[.pointer (some ⟨b, 0, none⟩), .int .i64 i] w fun e w' => ClsR w.heap.size z e w' ∧ Below w.heap.size w w') := fun b w i z hw hz => by rw [← hz]; exact class_c hw hWI.pb i
  have HO : Hid (∀ b w, WAt b ps w → Calls Tryz.prog 58 #[.pointer (some ⟨b, 0, none⟩), .int .i64 d, .int .i64 c] w fun e w' => e = .returned (.tuple #[.bool false, .int .i64 3]) ∧ Below w.heap.size w w') := fun b w hw => by
    have := classOpen_c hw hWI.pb d c
    have e : coI ps d c = .tuple #[.bool false, .int .i64 3] := by
      unfold coI
      rcases hm with hm | hm
      · rw [hm]; cases plcI ps d <;> rfl
      · rw [hm]
    rw [e] at this
    exact this
  clear h hCW hWI hps
  obtain ⟨z, hz⟩ : ∃ z, plcI ps c = z := ⟨_, rfl⟩
  obtain ⟨y, hy⟩ : ∃ y, plcI ps d = y := ⟨_, rfl⟩
  rw [hz, hy] at hm
  have HZ : Hid (∀ b w i, WAt b ps w → i = c → Calls Tryz.prog 18 #[.pointer (some ⟨b, 0, none⟩), .int .i64 i] w fun e w' => ClsR w.heap.size z e w' ∧ Below w.heap.size w w') := fun b w i hw hi => by rw [hi]; exact HC.out b w c z hw hz
  have HY : Hid (∀ b w i, WAt b ps w → i = d → Calls Tryz.prog 18 #[.pointer (some ⟨b, 0, none⟩), .int .i64 i] w fun e w' => ClsR w.heap.size y e w' ∧ Below w.heap.size w w') := fun b w i hw hi => by rw [hi]; exact HC.out b w d y hw hy
  clear hz hy HC
  rcases z with _ | z
  all_goals rcases y with _ | y
  case some.some => exact (by simp at hm)
  all_goals clear hm
  all_goals go_enter Tryz.func12, Tryz.ntmps12
  all_goals go_wp2_with (first
    | (go_at_call 54; refine (HA.out _).mono ?_; rintro e w1 ⟨rfl, hb⟩; have BB : Hid (Below W.heap.size W w1) := hb; clear hb HA)
    | (go_at_call 55; refine (HB.out _ BB.out).mono ?_; rintro e w2 ⟨⟨b, rfl, hw⟩, hb⟩; have HH : Hid (WAt b ps w2) := hw; have BB2 := bstep BB.out hb; clear BB; have BB : Hid (Below W.heap.size W w2) := BB2; clear hb HB hw BB2)
    | (go_at_call 18; refine (HZ.out _ _ _ (HH.out.below (by repeat (first | exact Below.refl _ _ | refine Below.setCell ?_ (by simp; try omega) _ | refine Below.alloc ?_ (by simp; try omega) _ | refine Below.drew ?_))) (by rfl)).mono ?_; rintro e w3 ⟨hr, hb⟩; (first | (simp only [ClsR] at hr; subst hr) | (obtain ⟨vi, vm, qm, rfl, hown, _⟩ := hr; obtain ⟨a1, c1, rfl⟩ := ownv hown.ifs; obtain ⟨a2, c2, rfl⟩ := ownv hown.ms; clear hown)); have HH2 := (HH.out.below (by repeat (first | exact Below.refl _ _ | refine Below.setCell ?_ (by simp; try omega) _ | refine Below.alloc ?_ (by simp; try omega) _ | refine Below.drew ?_))).below hb; clear HH; have HH : Hid (WAt b ps w3) := HH2; have BB2 : Below W.heap.size W w3 := bstep (by repeat (first | exact BB.out | exact Below.refl _ _ | refine Below.setCell ?_ (by simp; try omega) _ | refine Below.alloc ?_ (by have := BB.out.size; simp; try omega) _ | refine Below.drew ?_)) hb; clear BB; have BB : Hid (Below W.heap.size W w3) := BB2; clear hb HH2 BB2 HZ)
    | (go_at_call 18; refine (HY.out _ _ _ (HH.out.below (by repeat (first | exact Below.refl _ _ | refine Below.setCell ?_ (by simp; try omega) _ | refine Below.alloc ?_ (by simp; try omega) _ | refine Below.drew ?_))) (by rfl)).mono ?_; rintro e w4 ⟨hr, hb⟩; (first | (simp only [ClsR] at hr; subst hr) | (obtain ⟨vi, vm, qm, rfl, hown, _⟩ := hr; obtain ⟨b1, d1, rfl⟩ := ownv hown.ifs; obtain ⟨b2, d2, rfl⟩ := ownv hown.ms; clear hown)); have HH2 := (HH.out.below (by repeat (first | exact Below.refl _ _ | refine Below.setCell ?_ (by simp; try omega) _ | refine Below.alloc ?_ (by simp; try omega) _ | refine Below.drew ?_))).below hb; clear HH; have HH : Hid (WAt b ps w4) := HH2; have BB2 : Below W.heap.size W w4 := bstep (by repeat (first | exact BB.out | exact Below.refl _ _ | refine Below.setCell ?_ (by simp; try omega) _ | refine Below.alloc ?_ (by have := BB.out.size; simp; try omega) _ | refine Below.drew ?_)) hb; clear BB; have BB : Hid (Below W.heap.size W w4) := BB2; clear hb HH2 BB2 HY)
    | (go_at_call 58; refine (HO.out _ _ (HH.out.below (by repeat (first | exact Below.refl _ _ | refine Below.setCell ?_ (by simp; try omega) _ | refine Below.alloc ?_ (by simp; try omega) _ | refine Below.drew ?_)))).mono ?_; rintro e w5 ⟨rfl, hb⟩; have HH2 := (HH.out.below (by repeat (first | exact Below.refl _ _ | refine Below.setCell ?_ (by simp; try omega) _ | refine Below.alloc ?_ (by simp; try omega) _ | refine Below.drew ?_))).below hb; clear HH; have HH : Hid (WAt b ps w5) := HH2; have BB2 : Below W.heap.size W w5 := bstep (by repeat (first | exact BB.out | exact Below.refl _ _ | refine Below.setCell ?_ (by simp; try omega) _ | refine Below.alloc ?_ (by have := BB.out.size; simp; try omega) _ | refine Below.drew ?_)) hb; clear BB; have BB : Hid (Below W.heap.size W w5) := BB2; clear hb HH2 BB2 HO))
  all_goals exact bodyPost_ret (results_tmp rfl _ _ _) rfl ⟨rfl, (by repeat (first | exact BB.out | exact Below.refl _ _ | refine Below.setCell ?_ (by simp; try omega) _ | refine Below.alloc ?_ (by have := BB.out.size; simp; try omega) _ | refine Below.drew ?_))⟩
set_option maxRecDepth 100000 in
set_option maxHeartbeats 4000000 in
theorem open_some (v : Value) (l : List Cls) (ps : List Plc) (hps : ps = wld l) (d c : Nat) (n : Int) (p q : Plc) (W : World) (h : IsClss W v l) (hd : ps[d]? = some p) (hc : ps[c]? = some q) : Calls Tryz.prog 12 #[v, .int .i64 (d : Int), .int .i64 (c : Int), .int .i64 n] W fun e w' => e = .returned (.bool true) ∧ Below W.heap.size W w' := by
  have hCW := clss_w h
  have hWI : WI ps := by rw [hps]; exact wld_wi l hCW
  have hNm : NmW ps := by rw [hps]; exact nmW l hCW
  have hdI : plcI ps d = some p := by rw [plcI_nat]; exact hd
  have hcI : plcI ps c = some q := by rw [plcI_nat]; exact hc
  have hnz : q.c.nm.size ≤ maxLen := hWI.nm q (List.mem_of_getElem? hc)
  have HA : Hid (∀ w : World, Calls Tryz.prog 54 #[] w fun e w' => e = .returned (.bool true) ∧ Below w.heap.size w w') := awake8_c
  have HB : Hid (∀ w : World, Below W.heap.size W w → Calls Tryz.prog 55 #[v] w fun e w' => (∃ b, e = .returned (.pointer (some ⟨b, 0, none⟩)) ∧ WAt b ps w') ∧ Below w.heap.size w w') := fun w hb => by rw [hps]; exact built8_c v l w (clss_keep h hb)
  have HZ : Hid (∀ b w i, WAt b ps w → i = (c : Int) → Calls Tryz.prog 18 #[.pointer (some ⟨b, 0, none⟩), .int .i64 i] w fun e w' => ClsR w.heap.size (some q) e w' ∧ Below w.heap.size w w') := fun b w i hw hi => by rw [hi, ← hcI]; exact class_c hw hWI.pb c
  have HY : Hid (∀ b w i, WAt b ps w → i = (d : Int) → Calls Tryz.prog 18 #[.pointer (some ⟨b, 0, none⟩), .int .i64 i] w fun e w' => ClsR w.heap.size (some p) e w' ∧ Below w.heap.size w w') := fun b w i hw hi => by rw [hi, ← hdI]; exact class_c hw hWI.pb d
  have hO1 : coI ps d c = .tuple #[.bool (clsO q p), .int .i64 0] := by unfold coI; rw [hdI, hcI]
  have hO2 : coI ps c c = .tuple #[.bool true, .int .i64 0] := by unfold coI; rw [hcI]; simp only [clsO, samePk_self, Bool.or_true]
  have O1 : Hid (∀ b w i, WAt b ps w → i = (d : Int) → Calls Tryz.prog 58 #[.pointer (some ⟨b, 0, none⟩), .int .i64 i, .int .i64 (c : Int)] w fun e w' => e = .returned (.tuple #[.bool (clsO q p), .int .i64 0]) ∧ Below w.heap.size w w') := fun b w i hw hi => by rw [hi, ← hO1]; exact classOpen_c hw hWI.pb d c
  have O2 : Hid (∀ b w i, WAt b ps w → i = (c : Int) → Calls Tryz.prog 58 #[.pointer (some ⟨b, 0, none⟩), .int .i64 i, .int .i64 (c : Int)] w fun e w' => e = .returned (.tuple #[.bool true, .int .i64 0]) ∧ Below w.heap.size w w') := fun b w i hw hi => by rw [hi, ← hO2]; exact classOpen_c hw hWI.pb c c
  have hsp : spI ps c d = samePk q p := by unfold spI; rw [hdI, hcI]
  have SP : Hid (∀ b w, WAt b ps w → Calls Tryz.prog 35 #[.pointer (some ⟨b, 0, none⟩), .int .i64 (c : Int), .int .i64 (d : Int)] w fun e w' => e = .returned (.bool (samePk q p)) ∧ Below w.heap.size w w') := fun b w hw => by rw [← hsp]; exact samePk_c hw hWI.nm c d
  have P1 : Hid (∀ b w i, WAt b ps w → i = (c : Int) → Calls Tryz.prog 56 #[.pointer (some ⟨b, 0, none⟩), .int .i64 i] w fun e w' => e = .returned (.tuple #[.int .i64 q.c.ld, .string (pkB q.c.nm), .int .i64 0]) ∧ Below w.heap.size w w') := fun b w i hw hi => by
    have := package_c hw hWI.pb c
    rw [paI, hcI] at this
    rw [hi]; exact this
  have P2 : Hid (∀ b w i, WAt b ps w → i = (d : Int) → Calls Tryz.prog 56 #[.pointer (some ⟨b, 0, none⟩), .int .i64 i] w fun e w' => e = .returned (.tuple #[.int .i64 p.c.ld, .string (pkB p.c.nm), .int .i64 0]) ∧ Below w.heap.size w w') := fun b w i hw hi => by
    have := package_c hw hWI.pb d
    rw [paI, hdI] at this
    rw [hi]; exact this
  have TO : Hid (0 ≤ n → n ≤ 255 → ∀ b w, WAt b ps w → Calls Tryz.prog 60 #[.pointer (some ⟨b, 0, none⟩), .int .i64 (d : Int), .agg #[.int .i64 n, .string q.c.nm]] w fun e w' => e = .returned (.tuple #[.bool (clsO q p), .int .i64 0]) ∧ Below w.heap.size w w') := fun h0 h1 b w hw => by
    obtain ⟨hl, hv⟩ := hNm c q hc
    have hv2 : validL q.c.nm.data.toList = true := hv
    have hl2 : lookL ps q.c.nm.data.toList = some c := hl
    have he : q.c.nm.toList.isEmpty = false := by
      rw [Lib.toList_data]
      cases hx : q.c.nm.data.toList with
      | nil => rw [hx] at hv2; exact absurd hv2 (by decide)
      | cons a r => rfl
    have hs : sndB n q.c.nm.data.toList = true := by
      unfold sndB
      rw [hv2, decide_eq_true h0, decide_eq_true h1]; simp
    have hld : ldI ps n q.c.nm = 0 := by unfold ldI; rw [hs, he, hl2]; rfl
    have e : toI ps d n q.c.nm = .tuple #[.bool (clsO q p), .int .i64 0] := by
      unfold toI
      rw [hdI]
      simp only
      rw [if_pos hld, tyO, he, hl2]
      simp only [hc]
      rfl
    rw [← e]
    exact typeOpen_c hw hWI.pb d n q.c.nm hnz
  have FA : Hid (clsO q p = ((bits .and .i64 q.c.fl 1 != 0) || samePk q p)) := by rw [Hid, clsO, open_pub1]; rfl
  have FP : Hid (samePk q p = ((q.c.ld == p.c.ld) && (pkB q.c.nm == pkB p.c.nm))) := by rw [Hid, pkB, pkB, beqB]; rfl
  generalize clsO q p = A at *
  generalize samePk q p = sp at *
  generalize pkB q.c.nm = s1 at *
  generalize pkB p.c.nm = s2 at *
  clear h hCW hWI hNm hdI hcI hO1 hO2 hsp hps hd hc
  by_cases h0 : n < 0
  · clear TO
    go_enter Tryz.func12, Tryz.ntmps12
    go_wp2_with (first
    | (go_at_call 54; refine (HA.out _).mono ?_; rintro e w1 ⟨rfl, hb⟩; have BB : Hid (Below W.heap.size W w1) := hb; clear hb HA)
    | (go_at_call 55; refine (HB.out _ BB.out).mono ?_; rintro e w2 ⟨⟨b, rfl, hw⟩, hb⟩; have HH : Hid (WAt b ps w2) := hw; have BB2 := bstep BB.out hb; clear BB; have BB : Hid (Below W.heap.size W w2) := BB2; clear hb HB hw BB2)
    | (go_at_call 18; refine (HZ.out _ _ _ (HH.out.below (by repeat (first | exact Below.refl _ _ | refine Below.setCell ?_ (by simp; try omega) _ | refine Below.alloc ?_ (by simp; try omega) _ | refine Below.drew ?_))) (by rfl)).mono ?_; rintro e w3 ⟨hr, hb⟩; obtain ⟨vi, vm, qm, rfl, hown, _⟩ := hr; obtain ⟨a1, c1, rfl⟩ := ownv hown.ifs; obtain ⟨a2, c2, rfl⟩ := ownv hown.ms; clear hown; have HH2 := (HH.out.below (by repeat (first | exact Below.refl _ _ | refine Below.setCell ?_ (by simp; try omega) _ | refine Below.alloc ?_ (by simp; try omega) _ | refine Below.drew ?_))).below hb; clear HH; have HH : Hid (WAt b ps w3) := HH2; have BB2 : Below W.heap.size W w3 := bstep (by repeat (first | exact BB.out | exact Below.refl _ _ | refine Below.setCell ?_ (by simp; try omega) _ | refine Below.alloc ?_ (by have := BB.out.size; simp; try omega) _ | refine Below.drew ?_)) hb; clear BB; have BB : Hid (Below W.heap.size W w3) := BB2; clear hb HH2 BB2 HZ)
    | (go_at_call 18; refine (HY.out _ _ _ (HH.out.below (by repeat (first | exact Below.refl _ _ | refine Below.setCell ?_ (by simp; try omega) _ | refine Below.alloc ?_ (by simp; try omega) _ | refine Below.drew ?_))) (by rfl)).mono ?_; rintro e w4 ⟨hr, hb⟩; obtain ⟨vi', vm', qm', rfl, hown, _⟩ := hr; obtain ⟨a3, c3, rfl⟩ := ownv hown.ifs; obtain ⟨a4, c4, rfl⟩ := ownv hown.ms; clear hown; have x0 : w4.cell? ⟨w3.heap.size, 0, none⟩ = some (.string q.c.nm) := (hb.cell (p := ⟨w3.heap.size, 0, none⟩) (by simp)).trans (by simp [go_sem]); have x3 : w4.cell? ⟨w3.heap.size, 3, none⟩ = some (.int .i64 q.c.fl) := (hb.cell (p := ⟨w3.heap.size, 3, none⟩) (by simp)).trans (by simp [go_sem]); have hlx : w3.heap.size < w4.heap.size := Nat.lt_of_lt_of_le (by simp) hb.size; have HH2 := (HH.out.below (by repeat (first | exact Below.refl _ _ | refine Below.setCell ?_ (by simp; try omega) _ | refine Below.alloc ?_ (by simp; try omega) _ | refine Below.drew ?_))).below hb; clear HH; have HH : Hid (WAt b ps w4) := HH2; have BB2 : Below W.heap.size W w4 := bstep (by repeat (first | exact BB.out | exact Below.refl _ _ | refine Below.setCell ?_ (by simp; try omega) _ | refine Below.alloc ?_ (by have := BB.out.size; simp; try omega) _ | refine Below.drew ?_)) hb; clear BB; have BB : Hid (Below W.heap.size W w4) := BB2; clear hb HH2 BB2 HY)
    | (go_at_call 58; refine (O1.out _ _ _ (HH.out.below (by repeat (first | exact Below.refl _ _ | refine Below.setCell ?_ (by simp; try omega) _ | refine Below.alloc ?_ (by simp; try omega) _ | refine Below.drew ?_))) (by rfl)).mono ?_; rintro e w5 ⟨rfl, hb0⟩; have hb : Below w4.heap.size w4 w5 := bstep (by repeat (first | exact Below.refl _ _ | refine Below.setCell ?_ (by simp; try omega) _ | refine Below.alloc ?_ (by simp; try omega) _ | refine Below.drew ?_)) hb0; clear hb0; replace x0 := (hb.cell (p := ⟨w3.heap.size, 0, none⟩) hlx).trans x0; replace x3 := (hb.cell (p := ⟨w3.heap.size, 3, none⟩) hlx).trans x3; replace hlx := Nat.lt_of_lt_of_le hlx hb.size; have HH2 := HH.out.below hb; clear HH; have HH : Hid (WAt b ps w5) := HH2; have BB2 : Below W.heap.size W w5 := bstep BB.out hb; clear BB; have BB : Hid (Below W.heap.size W w5) := BB2; clear hb HH2 BB2 O1)
    | (go_at_call 58; refine (O2.out _ _ _ HH.out (by rfl)).mono ?_; rintro e w6 ⟨rfl, hb⟩; replace x0 := (hb.cell (p := ⟨w3.heap.size, 0, none⟩) hlx).trans x0; replace x3 := (hb.cell (p := ⟨w3.heap.size, 3, none⟩) hlx).trans x3; replace hlx := Nat.lt_of_lt_of_le hlx hb.size; have HH2 := HH.out.below hb; clear HH; have HH : Hid (WAt b ps w6) := HH2; have BB2 : Below W.heap.size W w6 := bstep BB.out hb; clear BB; have BB : Hid (Below W.heap.size W w6) := BB2; clear hb HH2 BB2 O2)
    | (go_at_call 35; refine (SP.out _ _ HH.out).mono ?_; rintro e w7 ⟨rfl, hb⟩; replace x0 := (hb.cell (p := ⟨w3.heap.size, 0, none⟩) hlx).trans x0; replace x3 := (hb.cell (p := ⟨w3.heap.size, 3, none⟩) hlx).trans x3; replace hlx := Nat.lt_of_lt_of_le hlx hb.size; have HH2 := HH.out.below hb; clear HH; have HH : Hid (WAt b ps w7) := HH2; have BB2 : Below W.heap.size W w7 := bstep BB.out hb; clear BB; have BB : Hid (Below W.heap.size W w7) := BB2; clear hb HH2 BB2)
    | (go_at_call 56; refine (P1.out _ _ _ HH.out (by rfl)).mono ?_; rintro e w8 ⟨rfl, hb⟩; replace x0 := (hb.cell (p := ⟨w3.heap.size, 0, none⟩) hlx).trans x0; replace x3 := (hb.cell (p := ⟨w3.heap.size, 3, none⟩) hlx).trans x3; replace hlx := Nat.lt_of_lt_of_le hlx hb.size; have HH2 := HH.out.below hb; clear HH; have HH : Hid (WAt b ps w8) := HH2; have BB2 : Below W.heap.size W w8 := bstep BB.out hb; clear BB; have BB : Hid (Below W.heap.size W w8) := BB2; clear hb HH2 BB2 P1)
    | (go_at_call 56; refine (P2.out _ _ _ HH.out (by rfl)).mono ?_; rintro e w9 ⟨rfl, hb⟩; replace x0 := (hb.cell (p := ⟨w3.heap.size, 0, none⟩) hlx).trans x0; replace x3 := (hb.cell (p := ⟨w3.heap.size, 3, none⟩) hlx).trans x3; replace hlx := Nat.lt_of_lt_of_le hlx hb.size; have HH2 := HH.out.below hb; clear HH; have HH : Hid (WAt b ps w9) := HH2; have BB2 : Below W.heap.size W w9 := bstep BB.out hb; clear BB; have BB : Hid (Below W.heap.size W w9) := BB2; clear hb HH2 BB2 P2)
    | (go_at_call 60; refine (TO.out _ _ HH.out).mono ?_; rintro e w10 ⟨rfl, hb⟩; replace x0 := (hb.cell (p := ⟨w3.heap.size, 0, none⟩) hlx).trans x0; replace x3 := (hb.cell (p := ⟨w3.heap.size, 3, none⟩) hlx).trans x3; replace hlx := Nat.lt_of_lt_of_le hlx hb.size; have HH2 := HH.out.below hb; clear HH; have HH : Hid (WAt b ps w10) := HH2; have BB2 : Below W.heap.size W w10 := bstep BB.out hb; clear BB; have BB : Hid (Below W.heap.size W w10) := BB2; clear hb HH2 BB2 TO))
    all_goals go_ret
    all_goals refine ⟨retB ?_, BB.out⟩
    all_goals have fa := FA.out
    all_goals have fp := FP.out
    all_goals rw [eqL] at fp
    all_goals clear FA FP BB HH x0 x3 hlx
    all_goals simp_all
  · by_cases h1 : 255 < n
    · clear TO
      go_enter Tryz.func12, Tryz.ntmps12
      go_wp2_with (first
      | (go_at_call 54; refine (HA.out _).mono ?_; rintro e w1 ⟨rfl, hb⟩; have BB : Hid (Below W.heap.size W w1) := hb; clear hb HA)
      | (go_at_call 55; refine (HB.out _ BB.out).mono ?_; rintro e w2 ⟨⟨b, rfl, hw⟩, hb⟩; have HH : Hid (WAt b ps w2) := hw; have BB2 := bstep BB.out hb; clear BB; have BB : Hid (Below W.heap.size W w2) := BB2; clear hb HB hw BB2)
      | (go_at_call 18; refine (HZ.out _ _ _ (HH.out.below (by repeat (first | exact Below.refl _ _ | refine Below.setCell ?_ (by simp; try omega) _ | refine Below.alloc ?_ (by simp; try omega) _ | refine Below.drew ?_))) (by rfl)).mono ?_; rintro e w3 ⟨hr, hb⟩; obtain ⟨vi, vm, qm, rfl, hown, _⟩ := hr; obtain ⟨a1, c1, rfl⟩ := ownv hown.ifs; obtain ⟨a2, c2, rfl⟩ := ownv hown.ms; clear hown; have HH2 := (HH.out.below (by repeat (first | exact Below.refl _ _ | refine Below.setCell ?_ (by simp; try omega) _ | refine Below.alloc ?_ (by simp; try omega) _ | refine Below.drew ?_))).below hb; clear HH; have HH : Hid (WAt b ps w3) := HH2; have BB2 : Below W.heap.size W w3 := bstep (by repeat (first | exact BB.out | exact Below.refl _ _ | refine Below.setCell ?_ (by simp; try omega) _ | refine Below.alloc ?_ (by have := BB.out.size; simp; try omega) _ | refine Below.drew ?_)) hb; clear BB; have BB : Hid (Below W.heap.size W w3) := BB2; clear hb HH2 BB2 HZ)
      | (go_at_call 18; refine (HY.out _ _ _ (HH.out.below (by repeat (first | exact Below.refl _ _ | refine Below.setCell ?_ (by simp; try omega) _ | refine Below.alloc ?_ (by simp; try omega) _ | refine Below.drew ?_))) (by rfl)).mono ?_; rintro e w4 ⟨hr, hb⟩; obtain ⟨vi', vm', qm', rfl, hown, _⟩ := hr; obtain ⟨a3, c3, rfl⟩ := ownv hown.ifs; obtain ⟨a4, c4, rfl⟩ := ownv hown.ms; clear hown; have x0 : w4.cell? ⟨w3.heap.size, 0, none⟩ = some (.string q.c.nm) := (hb.cell (p := ⟨w3.heap.size, 0, none⟩) (by simp)).trans (by simp [go_sem]); have x3 : w4.cell? ⟨w3.heap.size, 3, none⟩ = some (.int .i64 q.c.fl) := (hb.cell (p := ⟨w3.heap.size, 3, none⟩) (by simp)).trans (by simp [go_sem]); have hlx : w3.heap.size < w4.heap.size := Nat.lt_of_lt_of_le (by simp) hb.size; have HH2 := (HH.out.below (by repeat (first | exact Below.refl _ _ | refine Below.setCell ?_ (by simp; try omega) _ | refine Below.alloc ?_ (by simp; try omega) _ | refine Below.drew ?_))).below hb; clear HH; have HH : Hid (WAt b ps w4) := HH2; have BB2 : Below W.heap.size W w4 := bstep (by repeat (first | exact BB.out | exact Below.refl _ _ | refine Below.setCell ?_ (by simp; try omega) _ | refine Below.alloc ?_ (by have := BB.out.size; simp; try omega) _ | refine Below.drew ?_)) hb; clear BB; have BB : Hid (Below W.heap.size W w4) := BB2; clear hb HH2 BB2 HY)
      | (go_at_call 58; refine (O1.out _ _ _ (HH.out.below (by repeat (first | exact Below.refl _ _ | refine Below.setCell ?_ (by simp; try omega) _ | refine Below.alloc ?_ (by simp; try omega) _ | refine Below.drew ?_))) (by rfl)).mono ?_; rintro e w5 ⟨rfl, hb0⟩; have hb : Below w4.heap.size w4 w5 := bstep (by repeat (first | exact Below.refl _ _ | refine Below.setCell ?_ (by simp; try omega) _ | refine Below.alloc ?_ (by simp; try omega) _ | refine Below.drew ?_)) hb0; clear hb0; replace x0 := (hb.cell (p := ⟨w3.heap.size, 0, none⟩) hlx).trans x0; replace x3 := (hb.cell (p := ⟨w3.heap.size, 3, none⟩) hlx).trans x3; replace hlx := Nat.lt_of_lt_of_le hlx hb.size; have HH2 := HH.out.below hb; clear HH; have HH : Hid (WAt b ps w5) := HH2; have BB2 : Below W.heap.size W w5 := bstep BB.out hb; clear BB; have BB : Hid (Below W.heap.size W w5) := BB2; clear hb HH2 BB2 O1)
      | (go_at_call 58; refine (O2.out _ _ _ HH.out (by rfl)).mono ?_; rintro e w6 ⟨rfl, hb⟩; replace x0 := (hb.cell (p := ⟨w3.heap.size, 0, none⟩) hlx).trans x0; replace x3 := (hb.cell (p := ⟨w3.heap.size, 3, none⟩) hlx).trans x3; replace hlx := Nat.lt_of_lt_of_le hlx hb.size; have HH2 := HH.out.below hb; clear HH; have HH : Hid (WAt b ps w6) := HH2; have BB2 : Below W.heap.size W w6 := bstep BB.out hb; clear BB; have BB : Hid (Below W.heap.size W w6) := BB2; clear hb HH2 BB2 O2)
      | (go_at_call 35; refine (SP.out _ _ HH.out).mono ?_; rintro e w7 ⟨rfl, hb⟩; replace x0 := (hb.cell (p := ⟨w3.heap.size, 0, none⟩) hlx).trans x0; replace x3 := (hb.cell (p := ⟨w3.heap.size, 3, none⟩) hlx).trans x3; replace hlx := Nat.lt_of_lt_of_le hlx hb.size; have HH2 := HH.out.below hb; clear HH; have HH : Hid (WAt b ps w7) := HH2; have BB2 : Below W.heap.size W w7 := bstep BB.out hb; clear BB; have BB : Hid (Below W.heap.size W w7) := BB2; clear hb HH2 BB2)
      | (go_at_call 56; refine (P1.out _ _ _ HH.out (by rfl)).mono ?_; rintro e w8 ⟨rfl, hb⟩; replace x0 := (hb.cell (p := ⟨w3.heap.size, 0, none⟩) hlx).trans x0; replace x3 := (hb.cell (p := ⟨w3.heap.size, 3, none⟩) hlx).trans x3; replace hlx := Nat.lt_of_lt_of_le hlx hb.size; have HH2 := HH.out.below hb; clear HH; have HH : Hid (WAt b ps w8) := HH2; have BB2 : Below W.heap.size W w8 := bstep BB.out hb; clear BB; have BB : Hid (Below W.heap.size W w8) := BB2; clear hb HH2 BB2 P1)
      | (go_at_call 56; refine (P2.out _ _ _ HH.out (by rfl)).mono ?_; rintro e w9 ⟨rfl, hb⟩; replace x0 := (hb.cell (p := ⟨w3.heap.size, 0, none⟩) hlx).trans x0; replace x3 := (hb.cell (p := ⟨w3.heap.size, 3, none⟩) hlx).trans x3; replace hlx := Nat.lt_of_lt_of_le hlx hb.size; have HH2 := HH.out.below hb; clear HH; have HH : Hid (WAt b ps w9) := HH2; have BB2 : Below W.heap.size W w9 := bstep BB.out hb; clear BB; have BB : Hid (Below W.heap.size W w9) := BB2; clear hb HH2 BB2 P2)
      | (go_at_call 60; refine (TO.out _ _ HH.out).mono ?_; rintro e w10 ⟨rfl, hb⟩; replace x0 := (hb.cell (p := ⟨w3.heap.size, 0, none⟩) hlx).trans x0; replace x3 := (hb.cell (p := ⟨w3.heap.size, 3, none⟩) hlx).trans x3; replace hlx := Nat.lt_of_lt_of_le hlx hb.size; have HH2 := HH.out.below hb; clear HH; have HH : Hid (WAt b ps w10) := HH2; have BB2 : Below W.heap.size W w10 := bstep BB.out hb; clear BB; have BB : Hid (Below W.heap.size W w10) := BB2; clear hb HH2 BB2 TO))
      all_goals go_ret
      all_goals refine ⟨retB ?_, BB.out⟩
      all_goals have fa := FA.out
      all_goals have fp := FP.out
      all_goals rw [eqL] at fp
      all_goals clear FA FP BB HH x0 x3 hlx
      all_goals simp_all
    · have h2 : ¬ n < 0 := h0
      have TO : Hid _ := TO.out (by omega) (by omega)
      go_enter Tryz.func12, Tryz.ntmps12
      go_wp2_with (first
      | (go_at_call 54; refine (HA.out _).mono ?_; rintro e w1 ⟨rfl, hb⟩; have BB : Hid (Below W.heap.size W w1) := hb; clear hb HA)
      | (go_at_call 55; refine (HB.out _ BB.out).mono ?_; rintro e w2 ⟨⟨b, rfl, hw⟩, hb⟩; have HH : Hid (WAt b ps w2) := hw; have BB2 := bstep BB.out hb; clear BB; have BB : Hid (Below W.heap.size W w2) := BB2; clear hb HB hw BB2)
      | (go_at_call 18; refine (HZ.out _ _ _ (HH.out.below (by repeat (first | exact Below.refl _ _ | refine Below.setCell ?_ (by simp; try omega) _ | refine Below.alloc ?_ (by simp; try omega) _ | refine Below.drew ?_))) (by rfl)).mono ?_; rintro e w3 ⟨hr, hb⟩; obtain ⟨vi, vm, qm, rfl, hown, _⟩ := hr; obtain ⟨a1, c1, rfl⟩ := ownv hown.ifs; obtain ⟨a2, c2, rfl⟩ := ownv hown.ms; clear hown; have HH2 := (HH.out.below (by repeat (first | exact Below.refl _ _ | refine Below.setCell ?_ (by simp; try omega) _ | refine Below.alloc ?_ (by simp; try omega) _ | refine Below.drew ?_))).below hb; clear HH; have HH : Hid (WAt b ps w3) := HH2; have BB2 : Below W.heap.size W w3 := bstep (by repeat (first | exact BB.out | exact Below.refl _ _ | refine Below.setCell ?_ (by simp; try omega) _ | refine Below.alloc ?_ (by have := BB.out.size; simp; try omega) _ | refine Below.drew ?_)) hb; clear BB; have BB : Hid (Below W.heap.size W w3) := BB2; clear hb HH2 BB2 HZ)
      | (go_at_call 18; refine (HY.out _ _ _ (HH.out.below (by repeat (first | exact Below.refl _ _ | refine Below.setCell ?_ (by simp; try omega) _ | refine Below.alloc ?_ (by simp; try omega) _ | refine Below.drew ?_))) (by rfl)).mono ?_; rintro e w4 ⟨hr, hb⟩; obtain ⟨vi', vm', qm', rfl, hown, _⟩ := hr; obtain ⟨a3, c3, rfl⟩ := ownv hown.ifs; obtain ⟨a4, c4, rfl⟩ := ownv hown.ms; clear hown; have x0 : w4.cell? ⟨w3.heap.size, 0, none⟩ = some (.string q.c.nm) := (hb.cell (p := ⟨w3.heap.size, 0, none⟩) (by simp)).trans (by simp [go_sem]); have x3 : w4.cell? ⟨w3.heap.size, 3, none⟩ = some (.int .i64 q.c.fl) := (hb.cell (p := ⟨w3.heap.size, 3, none⟩) (by simp)).trans (by simp [go_sem]); have hlx : w3.heap.size < w4.heap.size := Nat.lt_of_lt_of_le (by simp) hb.size; have HH2 := (HH.out.below (by repeat (first | exact Below.refl _ _ | refine Below.setCell ?_ (by simp; try omega) _ | refine Below.alloc ?_ (by simp; try omega) _ | refine Below.drew ?_))).below hb; clear HH; have HH : Hid (WAt b ps w4) := HH2; have BB2 : Below W.heap.size W w4 := bstep (by repeat (first | exact BB.out | exact Below.refl _ _ | refine Below.setCell ?_ (by simp; try omega) _ | refine Below.alloc ?_ (by have := BB.out.size; simp; try omega) _ | refine Below.drew ?_)) hb; clear BB; have BB : Hid (Below W.heap.size W w4) := BB2; clear hb HH2 BB2 HY)
      | (go_at_call 58; refine (O1.out _ _ _ (HH.out.below (by repeat (first | exact Below.refl _ _ | refine Below.setCell ?_ (by simp; try omega) _ | refine Below.alloc ?_ (by simp; try omega) _ | refine Below.drew ?_))) (by rfl)).mono ?_; rintro e w5 ⟨rfl, hb0⟩; have hb : Below w4.heap.size w4 w5 := bstep (by repeat (first | exact Below.refl _ _ | refine Below.setCell ?_ (by simp; try omega) _ | refine Below.alloc ?_ (by simp; try omega) _ | refine Below.drew ?_)) hb0; clear hb0; replace x0 := (hb.cell (p := ⟨w3.heap.size, 0, none⟩) hlx).trans x0; replace x3 := (hb.cell (p := ⟨w3.heap.size, 3, none⟩) hlx).trans x3; replace hlx := Nat.lt_of_lt_of_le hlx hb.size; have HH2 := HH.out.below hb; clear HH; have HH : Hid (WAt b ps w5) := HH2; have BB2 : Below W.heap.size W w5 := bstep BB.out hb; clear BB; have BB : Hid (Below W.heap.size W w5) := BB2; clear hb HH2 BB2 O1)
      | (go_at_call 58; refine (O2.out _ _ _ HH.out (by rfl)).mono ?_; rintro e w6 ⟨rfl, hb⟩; replace x0 := (hb.cell (p := ⟨w3.heap.size, 0, none⟩) hlx).trans x0; replace x3 := (hb.cell (p := ⟨w3.heap.size, 3, none⟩) hlx).trans x3; replace hlx := Nat.lt_of_lt_of_le hlx hb.size; have HH2 := HH.out.below hb; clear HH; have HH : Hid (WAt b ps w6) := HH2; have BB2 : Below W.heap.size W w6 := bstep BB.out hb; clear BB; have BB : Hid (Below W.heap.size W w6) := BB2; clear hb HH2 BB2 O2)
      | (go_at_call 35; refine (SP.out _ _ HH.out).mono ?_; rintro e w7 ⟨rfl, hb⟩; replace x0 := (hb.cell (p := ⟨w3.heap.size, 0, none⟩) hlx).trans x0; replace x3 := (hb.cell (p := ⟨w3.heap.size, 3, none⟩) hlx).trans x3; replace hlx := Nat.lt_of_lt_of_le hlx hb.size; have HH2 := HH.out.below hb; clear HH; have HH : Hid (WAt b ps w7) := HH2; have BB2 : Below W.heap.size W w7 := bstep BB.out hb; clear BB; have BB : Hid (Below W.heap.size W w7) := BB2; clear hb HH2 BB2)
      | (go_at_call 56; refine (P1.out _ _ _ HH.out (by rfl)).mono ?_; rintro e w8 ⟨rfl, hb⟩; replace x0 := (hb.cell (p := ⟨w3.heap.size, 0, none⟩) hlx).trans x0; replace x3 := (hb.cell (p := ⟨w3.heap.size, 3, none⟩) hlx).trans x3; replace hlx := Nat.lt_of_lt_of_le hlx hb.size; have HH2 := HH.out.below hb; clear HH; have HH : Hid (WAt b ps w8) := HH2; have BB2 : Below W.heap.size W w8 := bstep BB.out hb; clear BB; have BB : Hid (Below W.heap.size W w8) := BB2; clear hb HH2 BB2 P1)
      | (go_at_call 56; refine (P2.out _ _ _ HH.out (by rfl)).mono ?_; rintro e w9 ⟨rfl, hb⟩; replace x0 := (hb.cell (p := ⟨w3.heap.size, 0, none⟩) hlx).trans x0; replace x3 := (hb.cell (p := ⟨w3.heap.size, 3, none⟩) hlx).trans x3; replace hlx := Nat.lt_of_lt_of_le hlx hb.size; have HH2 := HH.out.below hb; clear HH; have HH : Hid (WAt b ps w9) := HH2; have BB2 : Below W.heap.size W w9 := bstep BB.out hb; clear BB; have BB : Hid (Below W.heap.size W w9) := BB2; clear hb HH2 BB2 P2)
      | (go_at_call 60; refine (TO.out _ _ HH.out).mono ?_; rintro e w10 ⟨rfl, hb⟩; replace x0 := (hb.cell (p := ⟨w3.heap.size, 0, none⟩) hlx).trans x0; replace x3 := (hb.cell (p := ⟨w3.heap.size, 3, none⟩) hlx).trans x3; replace hlx := Nat.lt_of_lt_of_le hlx hb.size; have HH2 := HH.out.below hb; clear HH; have HH : Hid (WAt b ps w10) := HH2; have BB2 : Below W.heap.size W w10 := bstep BB.out hb; clear BB; have BB : Hid (Below W.heap.size W w10) := BB2; clear hb HH2 BB2 TO))
      all_goals go_ret
      all_goals refine ⟨retB ?_, BB.out⟩
      all_goals have fa := FA.out
      all_goals have fp := FP.out
      all_goals rw [eqL] at fp
      all_goals clear FA FP BB HH x0 x3 hlx
      all_goals simp_all
theorem AccessOpen_any (v : Value) (l : List Cls) (d c n : Int) (W : World) (h : IsClss W v l) : Calls Tryz.prog 12 #[v, .int .i64 d, .int .i64 c, .int .i64 n] W fun e w' => e = .returned (.bool true) ∧ Below W.heap.size W w' := by
  rcases plcI_cases (wld l) c with ⟨c1, _⟩ | ⟨c, q, rfl, c2, c1⟩
  · exact open_none v l _ rfl d c n W h (.inl c1)
  · rcases plcI_cases (wld l) d with ⟨d1, _⟩ | ⟨d, p, rfl, d2, d1⟩
    · exact open_none v l _ rfl d c n W h (.inr d1)
    · exact open_some v l _ rfl d c n p q W h d2 c2
end Go.Proofs.YtpbnjmncjecobaaGreat
