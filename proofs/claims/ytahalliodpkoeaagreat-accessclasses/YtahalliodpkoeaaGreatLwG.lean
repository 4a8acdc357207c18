/- The law AccessClasses: the walk. -/
import Derived.Test.YtahalliodpkoeaaGreatRfB
import Derived.Test.YtahalliodpkoeaaGreatRfH
import Derived.Test.YtahalliodpkoeaaGreatRfG
namespace Go.Proofs.YtahalliodpkoeaaGreat
open Go.RowKit Go.Maps

set_option maxRecDepth 100000 in
theorem awake8_c (W : World) : Calls Tryz.prog 60 #[] W fun e w' => e = .returned (.bool true) ∧ Below W.heap.size W w' := by
  have HN : Hid (∀ w : World, Calls Tryz.prog 43 #[] w fun e w' => e = .returned (.pointer (some ⟨w.heap.size + 1, 0, none⟩)) ∧ (∃ vp pv, HW w' w.heap.size (w.heap.size + 1) w.heap.size P3 vp pv) ∧ Below w.heap.size w w') := new_any
  have HO : Hid (∀ (w : World) (b : Nat), WAt b P3 w → Calls Tryz.prog 64 #[.pointer (some ⟨b, 0, none⟩), .int .i64 1, .int .i64 0] w fun e w' => e = .returned (.tuple #[.bool true, .int .i64 0]) ∧ Below w.heap.size w w') := fun w b h => classOpen_c h wi3.pb 1 0
  go_enter Tryz.func60, Tryz.ntmps60
  go_wp2_with (first
    | (go_at_call 43; refine (HN.out _).mono ?_; rintro e w1 ⟨rfl, ⟨vp, pv, hw⟩, hb⟩; have H1 : Hid (WAt (W.heap.size + 1) P3 w1) := hw.wat; have B1 : Hid (Below W.heap.size W w1) := hb; clear hw hb HN)
    | (go_at_call 64; refine (HO.out _ _ H1.out).mono ?_; rintro e w2 ⟨rfl, hb⟩; have B2 : Hid (Below W.heap.size W w2) := bstep B1.out hb; clear hb HO))
  exact bodyPost_ret (results_tmp rfl _ _ _) rfl ⟨rfl, B2.out⟩

theorem clss_keep {w w' : World} {v : Value} {l : List Cls} (h : IsClss w v l) (hb : Below w.heap.size w w') : IsClss w' v l := by
  obtain ⟨ao, cap, rfl, h1, h2, h3⟩ := h
  refine ⟨ao, cap, rfl, h1, h2, fun hne => ?_⟩
  obtain ⟨bk, o, e, hlt, hc⟩ := h3 hne
  refine ⟨bk, o, e, Nat.lt_of_lt_of_le hlt hb.size, fun k c hk => ?_⟩
  obtain ⟨vi, vm, h4, h5⟩ := hc k c hk
  exact ⟨vi, vm, fun j u hj => (hb.cell hlt).trans (h4 j u hj), h5.keep hb⟩


theorem open_pub2 (f : Int) : (openI f == 1) = hasI f 1 := by
  unfold openI
  cases h1 : hasI f 1
  · cases h4 : hasI f 4
    · cases h2 : hasI f 2 <;> rfl
    · rfl
  · rfl
theorem pa_eq {cs : List Cls} {ps : List Plc} (h : Twin cs ps) (d : Int) : paC cs d = paI ps d := by
  rcases h.clsI d with ⟨h1, h2⟩ | ⟨k, c, q, rfl, _, _, h4, h1, h2⟩
  · rw [paC, h1, paI, h2]
  · rw [paC, h1, paI, h2]; simp only [h4]; rfl
theorem tog_pk (p q : Cls) (p' q' : Plc) (hp : p'.c = hcOf p) (hq : q'.c = hcOf q) : togB p q = samePk q' p' := by
  rw [togB, samePk, hp, hq, Bool.eq_iff_iff]
  simp only [Bool.and_eq_true, beq_iff_eq]
  exact ⟨fun ⟨a, b⟩ => ⟨a.symm, b.symm⟩, fun ⟨a, b⟩ => ⟨a.symm, b.symm⟩⟩
theorem co_eq {cs : List Cls} {ps : List Plc} (h : Twin cs ps) (d c : Int) : coC cs d c = coI ps d c := by
  rcases h.clsI d with ⟨h1, h2⟩ | ⟨k, p, p', rfl, _, _, h4, h1, h2⟩
  · rw [coC, h1, coI, h2]
  · rcases h.clsI c with ⟨g1, g2⟩ | ⟨j, q, q', rfl, _, _, g4, g1, g2⟩
    · rw [coC, h1, g1, coI, h2, g2]
    · rw [coC, h1, g1, coI, h2, g2]
      have e : (hasI q.fl 1 || togB p q) = clsO q' p' := by rw [clsO, open_pub2, tog_pk p q p' q' h4 g4, g4]; rfl
      simp only [e]
theorem ld_eq {cs : List Cls} {ps : List Plc} (h : Twin cs ps) (hn : NmW ps) (x : Int) (s : ByteArray) : ldC cs x s = ldI ps x s := by
  rw [ldC, ldI, look_nmd h hn, Lib.toList_data]
  cases lookL ps s.data.toList with
  | none =>
    have e : lkI none < 0 := by decide
    simp only [e, if_true]
  | some k =>
    have e : ¬ lkI (some k) < 0 := by simp only [lkI]; omega
    simp only [e, if_false]
theorem to_eq {cs : List Cls} {ps : List Plc} (h : Twin cs ps) (hn : NmW ps) (d x : Int) (s : ByteArray) : toC cs d x s = toI ps d x s := by
  rw [toC, toI, ld_eq h hn, co_eq h, look_nmd h hn]
  rcases h.clsI d with ⟨h1, h2⟩ | ⟨k, p, p', rfl, _, _, h4, h1, h2⟩
  · rw [h1, h2]; rfl
  · rw [h1, h2]
    simp only [Option.isSome_some, if_true]
    by_cases hl : ldI ps x s = 0
    · rw [if_pos hl, if_pos hl, tyO]
      cases he : s.toList.isEmpty with
      | true => rfl
      | false =>
        rw [Lib.toList_data] at *
        cases hk : lookL ps s.data.toList with
        | none =>
          exfalso
          rw [ldI, Lib.toList_data, he, hk] at hl
          cases hz : sndB x s.data.toList <;> rw [hz] at hl <;> simp at hl
        | some j =>
          obtain ⟨q, hq, _⟩ := look_place hk
          simp only [Bool.false_eq_true, if_false]
          rw [lkI, coI, h2, plcI_nat, hq]
    · rw [if_neg hl, if_neg hl]
set_option maxRecDepth 100000 in
set_option maxHeartbeats 4000000 in
theorem AccessClasses_any (v : Value) (l : List Cls) (d c x : Int) (s : ByteArray) (W : World) (h : IsClss W v l) (hs : s.size ≤ maxLen) : Calls Tryz.prog 8 #[v, .int .i64 d, .int .i64 c, .agg #[.int .i64 x, .string s]] W fun e w' => e = .returned (.bool true) ∧ Below W.heap.size W w' := by
  have hCW := clss_w h
  obtain ⟨ps, hps⟩ : ∃ ps, ps = wld l := ⟨_, rfl⟩
  obtain ⟨cs, hcs⟩ : ∃ cs, cs = wldC l := ⟨_, rfl⟩
  have hWI : WI ps := by rw [hps]; exact wld_wi l hCW
  have hNm : NmW ps := by rw [hps]; exact nmW l hCW
  have hTw : Twin cs ps := by rw [hps, hcs]; exact twin_all l hCW
  have hsz := hTw.sz hWI
  have hln : cs.length ≤ 300 := by rw [hTw.len]; exact hWI.hi
  obtain ⟨x1, s1, e1, hpa⟩ : ∃ x1 s1 e1, paI ps d = .tuple #[.int .i64 x1, .string s1, .int .i64 e1] := by
    unfold paI; cases plcI ps d <;> exact ⟨_, _, _, rfl⟩
  obtain ⟨a2, e2, hco⟩ : ∃ a2 e2, coI ps d c = .tuple #[.bool a2, .int .i64 e2] := by
    unfold coI; cases plcI ps d <;> cases plcI ps c <;> exact ⟨_, _, rfl⟩
  obtain ⟨a3, e3, hto⟩ : ∃ a3 e3, toI ps d x s = .tuple #[.bool a3, .int .i64 e3] := by
    unfold toI; cases plcI ps d with
    | none => exact ⟨_, _, rfl⟩
    | some p => by_cases hl : ldI ps x s = 0 <;> simp only [hl, if_true, if_false] <;> exact ⟨_, _, rfl⟩
  have HA : Hid (∀ w : World, Calls Tryz.prog 60 #[] w fun e w' => e = .returned (.bool true) ∧ Below w.heap.size w w') := awake8_c
  have HB : Hid (∀ w : World, Below W.heap.size W w → Calls Tryz.prog 61 #[v] w fun e w' => (∃ b, e = .returned (.pointer (some ⟨b, 0, none⟩)) ∧ WAt b ps w') ∧ Below w.heap.size w w') := fun w hb => by rw [hps]; exact built8_c v l w (clss_keep h hb)
  have HO : Hid (∀ w : World, Below W.heap.size W w → Calls Tryz.prog 47 #[v] w fun e w' => (∃ b, e = .returned (.pointer (some ⟨b, 0, none⟩)) ∧ RAt b cs w') ∧ Below w.heap.size w w') := fun w hb => by rw [hcs]; exact of_c v l w (clss_keep h hb)
  have P1 : Hid (∀ b w, WAt b ps w → Calls Tryz.prog 62 #[.pointer (some ⟨b, 0, none⟩), .int .i64 d] w fun e w' => e = .returned (.tuple #[.int .i64 x1, .string s1, .int .i64 e1]) ∧ Below w.heap.size w w') := fun b w hw => by rw [← hpa]; exact package_c hw hWI.pb d
  have P2 : Hid (∀ b w, RAt b cs w → Calls Tryz.prog 63 #[.pointer (some ⟨b, 0, none⟩), .int .i64 d] w fun e w' => e = .returned (.tuple #[.int .i64 x1, .string s1, .int .i64 e1]) ∧ Below w.heap.size w w') := fun b w hw => by rw [← hpa, ← pa_eq hTw]; exact rPackage8_c hw hsz d
  have C1 : Hid (∀ b w, WAt b ps w → Calls Tryz.prog 64 #[.pointer (some ⟨b, 0, none⟩), .int .i64 d, .int .i64 c] w fun e w' => e = .returned (.tuple #[.bool a2, .int .i64 e2]) ∧ Below w.heap.size w w') := fun b w hw => by rw [← hco]; exact classOpen_c hw hWI.pb d c
  have C2 : Hid (∀ b w, RAt b cs w → Calls Tryz.prog 65 #[.pointer (some ⟨b, 0, none⟩), .int .i64 d, .int .i64 c] w fun e w' => e = .returned (.tuple #[.bool a2, .int .i64 e2]) ∧ Below w.heap.size w w') := fun b w hw => by rw [← hco, ← co_eq hTw]; exact rClassOpen_c hw hsz d c
  have T1 : Hid (∀ b w, WAt b ps w → Calls Tryz.prog 66 #[.pointer (some ⟨b, 0, none⟩), .int .i64 d, .agg #[.int .i64 x, .string s]] w fun e w' => e = .returned (.tuple #[.bool a3, .int .i64 e3]) ∧ Below w.heap.size w w') := fun b w hw => by rw [← hto]; exact typeOpen_c hw hWI.pb d x s hs
  have T2 : Hid (∀ b w, RAt b cs w → Calls Tryz.prog 67 #[.pointer (some ⟨b, 0, none⟩), .int .i64 d, .agg #[.int .i64 x, .string s]] w fun e w' => e = .returned (.tuple #[.bool a3, .int .i64 e3]) ∧ Below w.heap.size w w') := fun b w hw => by rw [← hto, ← to_eq hTw hNm]; exact rTypeOpen_c hw hln hsz d x s hs
  clear hpa hco hto hln hsz hTw hNm hWI hps hcs hCW h
  go_enter Tryz.func8, Tryz.ntmps8
  go_wp2_with (first
    | (go_at_call 60; refine (HA.out _).mono ?_; rintro e w1 ⟨rfl, hb⟩; have t0 : w1.cell? ⟨W.heap.size, 0, none⟩ = some (.int .i64 x) := (hb.cell (p := ⟨W.heap.size, 0, none⟩) (by simp)).trans (by simp [go_sem]); have t1 : w1.cell? ⟨W.heap.size, 1, none⟩ = some (.string s) := (hb.cell (p := ⟨W.heap.size, 1, none⟩) (by simp)).trans (by simp [go_sem]); have hl : W.heap.size < w1.heap.size := Nat.lt_of_lt_of_le (by simp) hb.size; have BB : Hid (Below W.heap.size W w1) := bstep (by repeat (first | exact Below.refl _ _ | refine Below.setCell ?_ (by simp; try omega) _ | refine Below.alloc ?_ (by simp; try omega) _ | refine Below.drew ?_)) hb; clear hb HA)
    | (go_at_call 61; refine (HB.out _ BB.out).mono ?_; rintro e w2 ⟨⟨b, rfl, hw⟩, hb⟩; replace t0 := (hb.cell (p := ⟨W.heap.size, 0, none⟩) hl).trans t0; replace t1 := (hb.cell (p := ⟨W.heap.size, 1, none⟩) hl).trans t1; replace hl := Nat.lt_of_lt_of_le hl hb.size; have HH : Hid (WAt b ps w2) := hw; have BB2 := bstep BB.out hb; clear BB; have BB : Hid (Below W.heap.size W w2) := BB2; clear hb HB hw BB2)
    | (go_at_call 47; refine (HO.out _ BB.out).mono ?_; rintro e w3 ⟨⟨b2, rfl, hw⟩, hb⟩; replace t0 := (hb.cell (p := ⟨W.heap.size, 0, none⟩) hl).trans t0; replace t1 := (hb.cell (p := ⟨W.heap.size, 1, none⟩) hl).trans t1; replace hl := Nat.lt_of_lt_of_le hl hb.size; have HH2 := HH.out.below hb; clear HH; have HH : Hid (WAt b ps w3) := HH2; have RR : Hid (RAt b2 cs w3) := hw; have BB2 := bstep BB.out hb; clear BB; have BB : Hid (Below W.heap.size W w3) := BB2; clear hb HO hw BB2 HH2)
    | (go_at_call 62; refine (P1.out _ _ HH.out).mono ?_; rintro e w4 ⟨rfl, hb⟩; replace t0 := (hb.cell (p := ⟨W.heap.size, 0, none⟩) hl).trans t0; replace t1 := (hb.cell (p := ⟨W.heap.size, 1, none⟩) hl).trans t1; replace hl := Nat.lt_of_lt_of_le hl hb.size; have HH2 := HH.out.below hb; clear HH; have HH : Hid (WAt b ps w4) := HH2; have RR2 := RR.out.below hb; clear RR; have RR : Hid (RAt b2 cs w4) := RR2; have BB2 := bstep BB.out hb; clear BB; have BB : Hid (Below W.heap.size W w4) := BB2; clear hb P1 BB2 HH2 RR2)
    | (go_at_call 63; refine (P2.out _ _ RR.out).mono ?_; rintro e w5 ⟨rfl, hb⟩; replace t0 := (hb.cell (p := ⟨W.heap.size, 0, none⟩) hl).trans t0; replace t1 := (hb.cell (p := ⟨W.heap.size, 1, none⟩) hl).trans t1; replace hl := Nat.lt_of_lt_of_le hl hb.size; have HH2 := HH.out.below hb; clear HH; have HH : Hid (WAt b ps w5) := HH2; have RR2 := RR.out.below hb; clear RR; have RR : Hid (RAt b2 cs w5) := RR2; have BB2 := bstep BB.out hb; clear BB; have BB : Hid (Below W.heap.size W w5) := BB2; clear hb P2 BB2 HH2 RR2)
    | (go_at_call 64; refine (C1.out _ _ HH.out).mono ?_; rintro e w6 ⟨rfl, hb⟩; replace t0 := (hb.cell (p := ⟨W.heap.size, 0, none⟩) hl).trans t0; replace t1 := (hb.cell (p := ⟨W.heap.size, 1, none⟩) hl).trans t1; replace hl := Nat.lt_of_lt_of_le hl hb.size; have HH2 := HH.out.below hb; clear HH; have HH : Hid (WAt b ps w6) := HH2; have RR2 := RR.out.below hb; clear RR; have RR : Hid (RAt b2 cs w6) := RR2; have BB2 := bstep BB.out hb; clear BB; have BB : Hid (Below W.heap.size W w6) := BB2; clear hb C1 BB2 HH2 RR2)
    | (go_at_call 65; refine (C2.out _ _ RR.out).mono ?_; rintro e w7 ⟨rfl, hb⟩; replace t0 := (hb.cell (p := ⟨W.heap.size, 0, none⟩) hl).trans t0; replace t1 := (hb.cell (p := ⟨W.heap.size, 1, none⟩) hl).trans t1; replace hl := Nat.lt_of_lt_of_le hl hb.size; have HH2 := HH.out.below hb; clear HH; have HH : Hid (WAt b ps w7) := HH2; have RR2 := RR.out.below hb; clear RR; have RR : Hid (RAt b2 cs w7) := RR2; have BB2 := bstep BB.out hb; clear BB; have BB : Hid (Below W.heap.size W w7) := BB2; clear hb C2 BB2 HH2 RR2)
    | (go_at_call 66; refine (T1.out _ _ HH.out).mono ?_; rintro e w8 ⟨rfl, hb⟩; replace t0 := (hb.cell (p := ⟨W.heap.size, 0, none⟩) hl).trans t0; replace t1 := (hb.cell (p := ⟨W.heap.size, 1, none⟩) hl).trans t1; replace hl := Nat.lt_of_lt_of_le hl hb.size; have HH2 := HH.out.below hb; clear HH; have HH : Hid (WAt b ps w8) := HH2; have RR2 := RR.out.below hb; clear RR; have RR : Hid (RAt b2 cs w8) := RR2; have BB2 := bstep BB.out hb; clear BB; have BB : Hid (Below W.heap.size W w8) := BB2; clear hb T1 BB2 HH2 RR2)
    | (go_at_call 67; refine (T2.out _ _ RR.out).mono ?_; rintro e w9 ⟨rfl, hb⟩; have BB2 := bstep BB.out hb; clear BB; have BB : Hid (Below W.heap.size W w9) := BB2; clear hb T2 BB2))
  exact bodyPost_ret (results_tmp rfl _ _ _) rfl ⟨by simp, BB.out⟩
end Go.Proofs.YtahalliodpkoeaaGreat
