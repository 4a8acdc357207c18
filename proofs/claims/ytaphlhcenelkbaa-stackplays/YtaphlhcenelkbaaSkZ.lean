/- StackPlays. -/
import Derived.Test.YtaphlhcenelkbaaSkY
namespace Go.Proofs.Ytaphlhcenelkbaa
open Go.RowKit Go.Maps

theorem callAgr (vs : Array Value) (w : World) : (callFunc 9 vs).run Try.prog w = .ok (.enter 9 vs) w := by simp [go_sem]
theorem callFrA (vs : Array Value) (w : World) : (callFunc 10 vs).run Try.prog w = .ok (.enter 10 vs) w := by simp [go_sem]
theorem callWdA (vs : Array Value) (w : World) : (callFunc 11 vs).run Try.prog w = .ok (.enter 11 vs) w := by simp [go_sem]
theorem callWdB (vs : Array Value) (w : World) : (callFunc 12 vs).run Try.prog w = .ok (.enter 12 vs) w := by simp [go_sem]
theorem callDpA (vs : Array Value) (w : World) : (callFunc 13 vs).run Try.prog w = .ok (.enter 13 vs) w := by simp [go_sem]
theorem callDpB (vs : Array Value) (w : World) : (callFunc 14 vs).run Try.prog w = .ok (.enter 14 vs) w := by simp [go_sem]
/-- a call of one argument, at a step of a region that draws, behind a guard that lets it come -/
theorem step_gcall1 {P : Program} {ops : Array Oper} {o : Oper} {a : Act} {w : World} {K : Act → World → Prop} {Q : Exit → Act → World → Prop} {E : Prop} (hw : Region.wanted o (yielded ops a.tmps) = true) (f : Nat) (hf : ∀ (vs : Array Value) (w : World), (callFunc f vs).run P w = .ok (.enter f vs) w) (x : Operand) (t : TypeId)
    (hop : o.op = Op.call { callee := Callee.value (Operand.func f), args := #[x], argTypes := #[t] }) {R : Ending → World → Prop} (v : Value) (hv : a.eval x = v) (h : Calls P f #[v] w R) (hR : ∀ e w', R e w' → ∃ u, e = .returned u ∧ K (a.put o.dst u) w') :
    if Region.wanted o (yielded ops a.tmps) = true then Oper.wp P o a w K Q else E := by
  rw [if_pos hw]
  unfold Oper.wp
  have e : (execOp a.eval o).run P w = .ok (.enter f #[v]) w := by
    simp [execOp, hop, resolve, invoke, hv]
    simp [go_sem, hf]
  rw [e, Oper.upon_enter]
  exact h.mono (fun e w' hr => by obtain ⟨u, rfl, hk⟩ := hR e w' hr; exact hk)
section
variable {W : World} {sb xb : Nat} {ps : List PF} {v : World}
theorem Tp.RA {f : Nat} {args : Array Value} {u : Value} (h : Tp W sb xb ps v) (hc : ∀ S, One true W v S sb ps → Calls Try.prog f args v fun e w' => e = .returned u ∧ Below v.heap.size v w') : Calls Try.prog f args v fun e w' => e = .returned u ∧ Tp W sb xb ps w' := by
  have h0 := h
  obtain ⟨S, S', h1, h2⟩ := h
  exact (hc S h1).mono (fun e w' x => ⟨x.1, h0.bel x.2⟩)
theorem Tp.RB {f : Nat} {args : Array Value} {u : Value} (h : Tp W sb xb ps v) (hc : ∀ S, One false W v S xb ps → Calls Try.prog f args v fun e w' => e = .returned u ∧ Below v.heap.size v w') : Calls Try.prog f args v fun e w' => e = .returned u ∧ Tp W sb xb ps w' := by
  have h0 := h
  obtain ⟨S, S', h1, h2, h3⟩ := h
  exact (hc S' h2).mono (fun e w' x => ⟨x.1, h0.bel x.2⟩)
theorem Tp.x (h : Tp W sb xb ps v) : ∃ a c, v.cell? ⟨xb, 0, none⟩ = some (.slice a ps.length c) := by
  obtain ⟨S, S', h1, h2, h3⟩ := h
  obtain ⟨fv, fs, k1, rfl⟩ := h2.st
  obtain ⟨a, c, e⟩ := ownv k1.ow
  refine ⟨a, c, ?_⟩
  rw [k1.dcell.1, e, List.length_map]
theorem Tp.bl (h : Tp W sb xb ps v) : Below W.heap.size W v := by
  obtain ⟨S, S', h1, h2, h3⟩ := h
  exact h1.bl
end
set_option maxRecDepth 100000 in
set_option maxHeartbeats 4000000 in
theorem StackPlays_over (HG : Hid (∀ W sb xb ps v kd a b r n, Tp W sb xb ps v → Calls Try.prog 9 #[.agg #[.int .i64 kd, .int .i64 a, .int .i64 b, .bool r, .int .i64 n], .pointer (some ⟨sb, 0, none⟩), .pointer (some ⟨xb, 0, none⟩)] v fun e w' => e = .returned (.bool true) ∧ ∃ qs, Tp W sb xb qs w')) (u : Value) (ts : List OpS) (W : World) (hu : IsOpsS W u ts) : Calls Try.prog 3 #[u] W fun e w' => e = .returned (.bool true) ∧ Below W.heap.size W w' := by
  obtain ⟨au, cau, rfl, hul, huc⟩ := hu
  have HUC : Hid (∀ i t, ts[i]? = some t → ∀ w, Below W.heap.size W w → ∃ b o, au = some ⟨b, o, none⟩ ∧ w.cell? ⟨b, o + i * 5, none⟩ = some (.int .i64 t.kd) ∧ w.cell? ⟨b, o + i * 5 + 1, none⟩ = some (.int .i64 t.a) ∧ w.cell? ⟨b, o + i * 5 + 2, none⟩ = some (.int .i64 t.b) ∧ w.cell? ⟨b, o + i * 5 + 3, none⟩ = some (.bool t.v.1) ∧ w.cell? ⟨b, o + i * 5 + 4, none⟩ = some (.int .i64 t.v.2)) := fun i t ht w hb => by
    obtain ⟨b, o, e, hbl, hc⟩ := huc (by rintro rfl; simp at ht)
    obtain ⟨h0, h1, h2, h3, h4⟩ := hc i t ht
    exact ⟨b, o, e, (hb.cell (p := ⟨b, o + i * 5, none⟩) hbl).trans h0, (hb.cell (p := ⟨b, o + i * 5 + 1, none⟩) hbl).trans h1, (hb.cell (p := ⟨b, o + i * 5 + 2, none⟩) hbl).trans h2, (hb.cell (p := ⟨b, o + i * 5 + 3, none⟩) hbl).trans h3, (hb.cell (p := ⟨b, o + i * 5 + 4, none⟩) hbl).trans h4⟩
  have HA : Hid (∀ w : World, Calls Try.prog 7 #[] w fun e w' => e = .returned (.bool true) ∧ Below w.heap.size w w') := awake_s
  have HN : Hid (∀ w, Below W.heap.size W w → Calls Try.prog 8 #[] w fun e w' => e = .returned (.pointer (some ⟨w.heap.size, 0, none⟩)) ∧ One true W w' (fun j => j = w.heap.size) w.heap.size [] ∧ Below w.heap.size w w') := fun w hb => one_new W w hb
  obtain ⟨M, hM⟩ : ∃ M, ts.length = M := ⟨_, rfl⟩
  have HM : Hid (ts.length = M) := hM
  rw [hM]
  rw [hM] at hul
  unfold maxLen at hul
  clear huc hM
  go_enter Try.func3, Try.ntmps3
  go_wp2_with (first
    | (go_at_call 8; refine (HN.out _ B0.out).mono ?_; rintro e w1 ⟨rfl, o1, hb⟩; have O1 : Hid (One true W w1 (fun j => j = w0.heap.size) w0.heap.size []) := o1; have hlt1 : Hid (w0.heap.size < w1.heap.size) := o1.sz _ rfl; clear o1 hb)
    | (go_at_call 7; refine (HA.out _).mono ?_; rintro e w0 ⟨rfl, hb⟩; have B0 : Hid (Below W.heap.size W w0) := hb; clear hb))
  have T1 : Hid (Tp W w0.heap.size w1.heap.size [] (w1.alloc (.cells #[.slice none 0 0] 29 (0, 0)))) := by
    have hb : Below w1.heap.size w1 (w1.alloc (.cells #[.slice none 0 0] 29 (0, 0))) := (Below.refl _ _).alloc (Nat.le_refl _) _
    have hz := O1.out.bl.size
    refine ⟨_, fun j => j = w1.heap.size, O1.out.bel hb, ⟨⟨.slice none 0 0, [], ?_, rfl⟩, fun j hj => by omega, Below.step O1.out.bl hb⟩, fun j hj x => by have := hlt1.out; omega⟩
    exact { sz := fun j hj => by subst hj; simp, hS := rfl, oS := fun j hj => by simp [Value.ownBlock] at hj, eS := fun f hf => by simp at hf, hh := halloc1 _ _, ow := World.ownsRow_nil _ _ _ _, vo := fun f hf => by simp at hf, lo := fun f hf => by simp at hf, ap := trivial, bd := fun f hf => by simp at hf, n4 := Nat.zero_le _ }
  clear HA HN O1 B0 hlt1
  generalize w0.heap.size = sb at *
  obtain ⟨xb, hxb⟩ : ∃ xb, w1.heap.size = xb := ⟨_, rfl⟩
  rw [hxb] at T1 ⊢
  have GF : Hid (∀ ps w, Tp W sb xb ps w → Calls Try.prog 10 #[.pointer (some ⟨sb, 0, none⟩)] w fun e w' => e = .returned (.int .i64 (ps.length : Int)) ∧ Tp W sb xb ps w') := fun ps w t => t.RA (fun S o => one_frm o)
  have GW : Hid (∀ ps w, Tp W sb xb ps w → Calls Try.prog 11 #[.pointer (some ⟨sb, 0, none⟩)] w fun e w' => e = .returned (.int .i64 (wdP ps : Int)) ∧ Tp W sb xb ps w') := fun ps w t => t.RA (fun S o => one_wrd o)
  have GX : Hid (∀ ps w, Tp W sb xb ps w → Calls Try.prog 12 #[.pointer (some ⟨xb, 0, none⟩)] w fun e w' => e = .returned (.int .i64 (wdP ps : Int)) ∧ Tp W sb xb ps w') := fun ps w t => t.RB (fun S o => two_wrd o)
  have GD : Hid (∀ ps w, Tp W sb xb ps w → Calls Try.prog 13 #[.pointer (some ⟨sb, 0, none⟩)] w fun e w' => e = .returned (.int .i64 (dpP ps : Int)) ∧ Tp W sb xb ps w') := fun ps w t => t.RA (fun S o => one_dpt o)
  have GE : Hid (∀ ps w, Tp W sb xb ps w → Calls Try.prog 14 #[.pointer (some ⟨xb, 0, none⟩)] w fun e w' => e = .returned (.int .i64 (dpP ps : Int)) ∧ Tp W sb xb ps w') := fun ps w t => t.RB (fun S o => two_dpt o)
  clear hxb
  go_loopw [5] (fun iv wr => ∃ (i : Nat) (ps : List PF), iv = .int .i64 (i : Int) ∧ i ≤ M ∧ Hid (Tp W sb xb ps wr)) (fun iv _ => M - (intOf iv).toNat)
  case atStart => exact ⟨0, [], rfl, Nat.zero_le _, T1⟩
  case round =>
    obtain ⟨i, ps, rfl, hi, T2⟩ := hrel
    clear T1
    by_cases hlt : i < M
    · obtain ⟨t, ht⟩ : ∃ t, ts[i]? = some t := ⟨_, List.getElem?_eq_getElem (by rw [HM.out]; exact hlt)⟩
      obtain ⟨b, o, hau, d0, d1, d2, d3, d4⟩ := HUC.out i t ht wr T2.out.bl
      subst hau
      have hiI : (i : Int) < (M : Int) := by omega
      obtain ⟨kd, ta, tb, tv1, tv2⟩ := t
      simp only [OpS.kd, OpS.a, OpS.b, OpS.v] at d0 d1 d2 d3 d4
      have HC : Hid (Calls Try.prog 9 #[.agg #[.int .i64 kd, .int .i64 ta, .int .i64 tb, .bool tv1, .int .i64 tv2], .pointer (some ⟨sb, 0, none⟩), .pointer (some ⟨xb, 0, none⟩)] wr.drew fun e w' => e = .returned (.bool true) ∧ ∃ qs, Tp W sb xb qs w') := HG.out _ _ _ _ _ _ _ _ _ _ (T2.out.bel (Below.refl _ _).drew)
      clear HUC HG T2 ht
      go_upto_region 8 with fail
      go_region_with (first
        | (go_at_call 14; refine (GE.out _ _ T7.out).mono ?_; rintro e w8 ⟨rfl, t8⟩; have T8 : Hid (Tp W sb xb qs w8) := t8; clear t8)
        | (go_at_call 13; refine (GD.out _ _ T6.out).mono ?_; rintro e w7 ⟨rfl, t7⟩; have T7 : Hid (Tp W sb xb qs w7) := t7; clear t7)
        | (go_at_call 12; refine (GX.out _ _ T5.out).mono ?_; rintro e w6 ⟨rfl, t6⟩; have T6 : Hid (Tp W sb xb qs w6) := t6; clear t6)
        | (go_at_call 11; refine (GW.out _ _ T4.out).mono ?_; rintro e w5 ⟨rfl, t5⟩; have T5 : Hid (Tp W sb xb qs w5) := t5; clear t5)
        | (go_at_call 10; refine (GF.out _ _ T3.out).mono ?_; rintro e w4 ⟨rfl, t4⟩; have T4 : Hid (Tp W sb xb qs w4) := t4; obtain ⟨p4, c4, x4⟩ := t4.x; clear t4)
        | (go_at_call 9; refine (HC.out).mono ?_; rintro e w3 ⟨rfl, qs, t3⟩; have T3 : Hid (Tp W sb xb qs w3) := t3; obtain ⟨p3, c3, x3⟩ := t3.x; clear t3))
      all_goals go_wp2
      all_goals
        go_roundw
        case rel => exact ⟨i + 1, qs, by go_num, by omega, T8⟩
        case measure => simp [intOf]; omega
    · obtain rfl : i = M := by omega
      have hiI : ¬ (i : Int) < (i : Int) := by omega
      clear HUC HG
      go_wp2
      go_ret
      exact ⟨rfl, Tp.bl T2.out⟩
theorem StackPlays_any (u : Value) (ts : List OpS) (W : World) (hu : IsOpsS W u ts) : Calls Try.prog 3 #[u] W fun e w' => e = .returned (.bool true) ∧ Below W.heap.size W w' :=
  StackPlays_over (fun _ _ _ _ _ kd a b r n h => agr_c h kd a b r n) u ts W hu
end Go.Proofs.Ytaphlhcenelkbaa
