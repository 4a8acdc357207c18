/- The law MaxspecBelow: the walk. -/
import Derived.Test.YtahalliodpkoeaaGreatLwA
namespace Go.Proofs.YtahalliodpkoeaaGreat
open Go.RowKit Go.Maps

theorem cls_form {n : Nat} {z : Option Plc} {e : Ending} {w : World} (h : ClsR n z e w) : ∃ nm su a1 n1 c1 fl ld a2 n2 c2 x, e = .returned (.tuple #[.agg #[.string nm, .string su, .slice a1 n1 c1, .int .i64 fl, .int .i64 ld, .slice a2 n2 c2], .int .i64 x]) := by
  cases z with
  | none => exact ⟨_, _, _, _, _, _, _, _, _, _, _, h⟩
  | some q =>
    obtain ⟨vi, vm, qm, rfl, hown, _⟩ := h
    obtain ⟨a1, c1, rfl⟩ := ownv hown.ifs
    obtain ⟨a2, c2, rfl⟩ := ownv hown.ms
    exact ⟨_, _, _, _, _, _, _, _, _, _, _, rfl⟩
theorem cls_form2 {n : Nat} {q : Plc} {e : Ending} {w : World} (h : ClsR n (some q) e w) : ∃ nm su a1 c1 fl ld a2 n2 c2, e = .returned (.tuple #[.agg #[.string nm, .string su, .slice a1 q.c.ni c1, .int .i64 fl, .int .i64 ld, .slice a2 n2 c2], .int .i64 0]) := by
  obtain ⟨vi, vm, qm, rfl, hown, _⟩ := h
  obtain ⟨a1, c1, rfl⟩ := ownv hown.ifs
  obtain ⟨a2, c2, rfl⟩ := ownv hown.ms
  exact ⟨_, _, _, _, _, _, _, _, _, rfl⟩
set_option maxRecDepth 100000 in
set_option maxHeartbeats 1000000 in
theorem below_none (v : Value) (l : List Cls) (ps : List Plc) (hps : ps = wld l) (c : Int) (nm ds : ByteArray) (W : World) (h : IsClss W v l) (hm : plcI ps c = none ∨ c = 0) : Calls Tryz.prog 14 #[v, .int .i64 c, .string nm, .string ds] W fun e w' => e = .returned (.bool true) ∧ Below W.heap.size W w' := by
  have hCW := clss_w h
  have hWI : WI ps := by rw [hps]; exact wld_wi l hCW
  have HA : Hid (∀ w : World, Calls Tryz.prog 82 #[] w fun e w' => e = .returned (.bool true) ∧ Below w.heap.size w w') := awake10_c
  have HB : Hid (∀ w : World, Below W.heap.size W w → Calls Tryz.prog 83 #[v] w fun e w' => (∃ b, e = .returned (.pointer (some ⟨b, 0, none⟩)) ∧ WAt b ps w') ∧ Below w.heap.size w w') := fun w hb => by rw [hps]; exact built10_c v l w (clss_keep h hb)
  obtain ⟨x, hx, HS⟩ : ∃ x : Int, ¬ x = 0 ∧ Hid (∀ b w, WAt b ps w → Calls Tryz.prog 22 #[.pointer (some ⟨b, 0, none⟩), .int .i64 c] w fun e w' => e = .returned (.tuple #[.int .i64 0, .int .i64 x]) ∧ w' = w) := by
    rcases plcI_cases ps c with ⟨_, h2⟩ | ⟨k, q, rfl, h2, h1⟩
    · refine ⟨3, by decide, fun b w hw => ?_⟩
      obtain ⟨N, mb, vp, pv, hw⟩ := hw
      exact super_no N b mb ps vp pv c w hw h2
    · rcases hm with hm | hm
      · rw [h1] at hm; cases hm
      · refine ⟨6, by decide, fun b w hw => ?_⟩
        obtain ⟨N, mb, vp, pv, hw⟩ := hw
        have := super_yes N b mb ps vp pv k q w hw h2
        rw [if_pos (by omega)] at this
        exact this
  have HC : Hid (∀ b w, WAt b ps w → Calls Tryz.prog 18 #[.pointer (some ⟨b, 0, none⟩), .int .i64 c] w fun e w' => (∃ nm su a1 n1 c1 fl ld a2 n2 c2 x, e = .returned (.tuple #[.agg #[.string nm, .string su, .slice a1 n1 c1, .int .i64 fl, .int .i64 ld, .slice a2 n2 c2], .int .i64 x])) ∧ Below w.heap.size w w') := fun b w hw => (class_c hw hWI.pb c).mono fun e w' zz => ⟨cls_form zz.1, zz.2⟩
  clear h hCW hWI hps hm
  go_enter Tryz.func14, Tryz.ntmps14
  go_wp2_with (first
    | (go_at_call 82; refine (HA.out _).mono ?_; rintro e w1 ⟨rfl, hb⟩; have BB : Hid (Below W.heap.size W w1) := hb; clear hb HA)
    | (go_at_call 83; refine (HB.out _ BB.out).mono ?_; rintro e w2 ⟨⟨b, rfl, hw⟩, hb⟩; have HH : Hid (WAt b ps w2) := hw; have BB2 : Below W.heap.size W w2 := bstep BB.out hb; clear BB; have BB : Hid (Below W.heap.size W w2) := BB2; clear hb HB hw BB2)
    | (go_at_call 22; refine (HS.out _ _ HH.out).mono ?_; rintro e w9 ⟨rfl, hw9⟩; rw [hw9]; clear hw9 w9)
    | (go_at_call 18; refine (HC.out _ _ HH.out).mono ?_; rintro e w3 ⟨⟨n9, s9, a1, n1, c1, f9, l9, a2, n2, c2, x9, rfl⟩, hb⟩; have HH2 := HH.out.below hb; clear HH; have HH : Hid (WAt b ps w3) := HH2; have BB2 : Below W.heap.size W w3 := bstep BB.out hb; clear BB; have BB : Hid (Below W.heap.size W w3) := BB2; clear hb BB2 HH2))
  all_goals go_ret
  all_goals exact ⟨retB (by simp [hx]), (by repeat (first | exact BB.out | exact Below.refl _ _ | refine Below.setCell ?_ (by simp; try omega) _ | refine Below.alloc ?_ (by have := BB.out.size; simp; try omega) _ | refine Below.drew ?_))⟩
set_option maxRecDepth 100000 in
set_option maxHeartbeats 1000000 in
theorem below_some (v : Value) (l : List Cls) (ps : List Plc) (hps : ps = wld l) (k : Nat) (q : Plc) (nm ds : ByteArray) (W : World) (h : IsClss W v l) (hq : ps[k]? = some q) (hk : 0 < k) : Calls Tryz.prog 14 #[v, .int .i64 (k : Int), .string nm, .string ds] W fun e w' => e = .returned (.bool true) ∧ Below W.heap.size W w' := by
  have hCW := clss_w h
  obtain ⟨hWI, hWJ⟩ : WI ps ∧ WJ ps := by rw [hps]; exact wld_wj l hCW
  obtain ⟨p, hp, hA3, hO3, htk, hle, hla⟩ := below_facts hWI hWJ hq hk nm ds
  have HA : Hid (∀ w : World, Calls Tryz.prog 82 #[] w fun e w' => e = .returned (.bool true) ∧ Below w.heap.size w w') := awake10_c
  have HB : Hid (∀ w : World, Below W.heap.size W w → Calls Tryz.prog 83 #[v] w fun e w' => (∃ b, e = .returned (.pointer (some ⟨b, 0, none⟩)) ∧ WAt b ps w') ∧ Below w.heap.size w w') := fun w hb => by rw [hps]; exact built10_c v l w (clss_keep h hb)
  have HS : Hid (∀ b w, WAt b ps w → Calls Tryz.prog 22 #[.pointer (some ⟨b, 0, none⟩), .int .i64 (k : Int)] w fun e w' => e = .returned (.tuple #[.int .i64 (q.sp : Int), .int .i64 0]) ∧ w' = w) := fun b w hw => by
    obtain ⟨N, mb, vp, pv, hw⟩ := hw
    have := super_yes N b mb ps vp pv k q w hw hq
    rw [if_neg (by omega)] at this
    exact this
  have HC : Hid (∀ b w, WAt b ps w → Calls Tryz.prog 18 #[.pointer (some ⟨b, 0, none⟩), .int .i64 (k : Int)] w fun e w' => (∃ nm su a1 c1 fl ld a2 n2 c2, e = .returned (.tuple #[.agg #[.string nm, .string su, .slice a1 q.c.ni c1, .int .i64 fl, .int .i64 ld, .slice a2 n2 c2], .int .i64 0])) ∧ Below w.heap.size w w') := fun b w hw => by
    have := class_c hw hWI.pb (k : Int)
    rw [plcI_nat, hq] at this
    exact this.mono fun e w' zz => ⟨cls_form2 zz.1, zz.2⟩
  have C1 : Hid (∀ b w (i : Int), WAt b ps w → i = (q.sp : Int) → Calls Tryz.prog 84 #[.pointer (some ⟨b, 0, none⟩), .int .i64 i, .string nm, .string ds] w fun e w' => (∃ v, e = .returned (.tuple #[v, .int .i64 0]) ∧ w'.ownsRow w.heap.size 62 2 v (candL ps nm ds p.cl).length (flatD (candL ps nm ds p.cl))) ∧ Below w.heap.size w w') := fun b w i hw hi => by rw [hi]; exact cand_yes hw hWI.pb hWI.hi q.sp p hp nm ds
  have C2 : Hid (∀ b w (i : Int), WAt b ps w → i = (k : Int) → Calls Tryz.prog 84 #[.pointer (some ⟨b, 0, none⟩), .int .i64 i, .string nm, .string ds] w fun e w' => (∃ v, e = .returned (.tuple #[v, .int .i64 0]) ∧ w'.ownsRow w.heap.size 62 2 v (candL ps nm ds q.cl).length (flatD (candL ps nm ds q.cl))) ∧ Below w.heap.size w w') := fun b w i hw hi => by rw [hi]; exact cand_yes hw hWI.pb hWI.hi k q hq nm ds
  generalize candL ps nm ds p.cl = A at *
  generalize candL ps nm ds q.cl = O at *
  have HSM : Hid (∀ (N1 N2 : Nat) (v1 v2 : Value) (w : World), w.ownsRow N1 62 2 v1 A.length (flatD A) → w.ownsRow N2 62 2 v2 A.length (flatD A) → Calls Tryz.prog 81 #[v1, v2] w fun e w' => e = .returned (.bool true) ∧ Below w.heap.size w w') := fun N1 N2 v1 v2 w h1 h2 => sameIDs_eq N1 N2 A v1 v2 w h1 h2 (by omega)
  obtain ⟨a, ha⟩ : ∃ a, A.length = a := ⟨_, rfl⟩
  obtain ⟨o, ho⟩ : ∃ o, O.length = o := ⟨_, rfl⟩
  obtain ⟨xs, hxs⟩ : ∃ xs, flatD A = xs := ⟨_, rfl⟩
  obtain ⟨ys, hys⟩ : ∃ ys, flatD O = ys := ⟨_, rfl⟩
  have HCUT : Hid (∀ (w : World) (N : Nat) (g : Option Addr) (c : Nat), w.ownsRow N 62 2 (.slice g o c) o ys → w.ownsRow N 62 2 (.slice g a c) a xs ∧ a ≤ c) := fun w N g c hr => by
    rcases row_form2 hr with ⟨rfl, rfl, h0⟩ | ⟨g, rfl, hc⟩
    · have e : a = 0 := by omega
      have e2 : A = [] := List.length_eq_zero_iff.1 (by omega)
      rw [e, ← hxs, e2]
      exact ⟨World.ownsRow_nil _ _ _ _, Nat.le_refl _⟩
    · rw [← hys] at hr
      have := rowD_cut hr (i := a) (by omega)
      rw [← ha, htk, hxs, ha] at this
      exact ⟨this, by omega⟩
  rw [ha, hxs] at C1 HSM
  rw [ho, hys] at C2
  rw [ha, ho] at hle hla
  generalize q.c.ni = ni at *
  generalize q.sp = sp at *
  have hleI : (a : Int) ≤ (o : Int) := by omega
  have hltI : ¬ (o : Int) < (a : Int) := by omega
  have HLA : Hid (¬ 0 < ni → o = a) := hla
  clear h hCW hWI hWJ hps hq hk hp hxs hys ha ho htk hla hA3 hO3
  go_enter Tryz.func14, Tryz.ntmps14
  go_wp2_with (first
    | (go_at_call 82; refine (HA.out _).mono ?_; rintro e w1 ⟨rfl, hb⟩; have BB : Hid (Below W.heap.size W w1) := hb; clear hb HA)
    | (go_at_call 83; refine (HB.out _ BB.out).mono ?_; rintro e w2 ⟨⟨b, rfl, hw⟩, hb⟩; have HH : Hid (WAt b ps w2) := hw; have BB2 : Below W.heap.size W w2 := bstep BB.out hb; clear BB; have BB : Hid (Below W.heap.size W w2) := BB2; clear hb HB hw BB2)
    | (go_at_call 22; refine (HS.out _ _ HH.out).mono ?_; rintro e w9 ⟨rfl, hw9⟩; rw [hw9]; clear hw9 w9)
    | (go_at_call 18; refine (HC.out _ _ HH.out).mono ?_; rintro e w3 ⟨⟨n9, s9, a1, c1, f9, l9, a2, n2, c2, rfl⟩, hb⟩; have HH2 := HH.out.below hb; clear HH; have HH : Hid (WAt b ps w3) := HH2; have BB2 : Below W.heap.size W w3 := bstep BB.out hb; clear BB; have BB : Hid (Below W.heap.size W w3) := BB2; clear hb BB2 HH2; clear HC)
    | (go_at_call 84; refine (C1.out _ _ _ (HH.out.below ((Below.refl _ w3).alloc (Nat.le_refl _) _)) (by rfl)).mono ?_; rintro e w4 ⟨⟨v4, rfl, ho4⟩, hb⟩; obtain ⟨ga, ca, rfl⟩ := ownv ho4; have t2 : w4.cell? ⟨w3.heap.size, 2, none⟩ = some (.slice a1 ni c1) := (hb.cell (p := ⟨w3.heap.size, 2, none⟩) (by simp)).trans (by simp [go_sem]); have hl : w3.heap.size < w4.heap.size := World.block_lt_of_cell? w4 _ t2; have O4 : Hid (w4.ownsRow w3.heap.size 62 2 (.slice ga a ca) a xs) := Go.Joins.ownsRow_le ho4 (by simp); have HH2 := (HH.out.below ((Below.refl _ w3).alloc (Nat.le_refl _) _)).below hb; clear HH; have HH : Hid (WAt b ps w4) := HH2; have BB2 : Below W.heap.size W w4 := bstep (by repeat (first | exact BB.out | exact Below.refl _ _ | refine Below.setCell ?_ (by simp; try omega) _ | refine Below.alloc ?_ (by have := BB.out.size; simp; try omega) _ | refine Below.drew ?_)) hb; clear BB; have BB : Hid (Below W.heap.size W w4) := BB2; clear hb BB2 HH2 ho4 C1)
    | (go_at_call 84; refine (C2.out _ _ _ HH.out (by rfl)).mono ?_; rintro e w5 ⟨⟨v5, rfl, ho5⟩, hb⟩; replace t2 := (hb.cell (p := ⟨w3.heap.size, 2, none⟩) hl).trans t2; replace hl := Nat.lt_of_lt_of_le hl hb.size; obtain ⟨go, co, rfl⟩ := ownv ho5; have O5 : Hid (w5.ownsRow w4.heap.size 62 2 (.slice go a co) a xs) := (HCUT.out _ _ _ _ ho5).1; have hac : a ≤ co := (HCUT.out _ _ _ _ ho5).2; have hacI : (a : Int) ≤ (co : Int) := (by omega); have O6 : Hid (w5.ownsRow w3.heap.size 62 2 (.slice ga a ca) a xs) := rowBelow O4.out hb; have BB2 : Below W.heap.size W w5 := bstep BB.out hb; clear BB; have BB : Hid (Below W.heap.size W w5) := BB2; clear hb BB2 ho5 C2 O4)
    | (go_at_call 81; refine (HSM.out _ _ _ _ _ O5.out O6.out).mono ?_; rintro e w6 ⟨rfl, hb⟩; replace t2 := (hb.cell (p := ⟨w3.heap.size, 2, none⟩) hl).trans t2; have BB2 : Below W.heap.size W w6 := bstep BB.out hb; clear BB; have BB : Hid (Below W.heap.size W w6) := BB2; clear hb BB2 HSM))
  · go_ret
    have e := HLA.out (by omega)
    exact ⟨retB (by rw [e]; simp), BB.out⟩
  · go_ret
    exact ⟨rfl, BB.out⟩
theorem MaxspecBelow_any (v : Value) (l : List Cls) (c : Int) (nm ds : ByteArray) (W : World) (h : IsClss W v l) (_ : nm.size ≤ maxLen) (_ : ds.size ≤ maxLen) : Calls Tryz.prog 14 #[v, .int .i64 c, .string nm, .string ds] W fun e w' => e = .returned (.bool true) ∧ Below W.heap.size W w' := by
  rcases plcI_cases (wld l) c with ⟨h1, _⟩ | ⟨k, q, rfl, h2, h1⟩
  · exact below_none v l _ rfl c nm ds W h (.inl h1)
  · by_cases hk : 0 < k
    · exact below_some v l _ rfl k q nm ds W h h2 hk
    · exact below_none v l _ rfl k nm ds W h (.inr (by omega))
end Go.Proofs.YtahalliodpkoeaaGreat
