/- StackLast. -/
import Derived.Test.YtaphlhcenelkbaaSkO
namespace Go.Proofs.Ytaphlhcenelkbaa
open Go.RowKit Go.Maps

set_option maxRecDepth 100000 in
set_option maxHeartbeats 1000000 in
theorem StackLast_bad (l m : Int) (v u : Value) (hE : ¬ enE [] l m = 0) (W : World) : Calls Try.prog 4 #[.int .i64 l, .int .i64 m, v, u] W fun e w' => e = .returned (.bool true) ∧ Below W.heap.size W w' := by
  have HA : Hid (∀ w : World, Calls Try.prog 7 #[] w fun e w' => e = .returned (.bool true) ∧ Below w.heap.size w w') := awake_s
  have HN : Hid (∀ w, Below W.heap.size W w → Calls Try.prog 8 #[] w fun e w' => e = .returned (.pointer (some ⟨w.heap.size, 0, none⟩)) ∧ One true W w' (fun j => j = w.heap.size) w.heap.size [] ∧ Below w.heap.size w w') := fun w hb => one_new W w hb
  have e2 : enP [] l m = [] := by
    unfold enE at hE
    unfold enP
    split
    · rfl
    · next c =>
      rw [if_neg c] at hE
      split
      · rfl
      · next c2 => rw [if_neg c2] at hE; exact absurd rfl hE
  have HE : Hid (∀ w S sb, One true W w S sb [] → Calls Try.prog 15 #[.pointer (some ⟨sb, 0, none⟩), .int .i64 l, .int .i64 m] w fun e w' => e = .returned (.int .i64 (enE [] l m)) ∧ OneN true W w S sb w' []) := fun w S sb h => by
    have := one_ent h l m
    rw [e2] at this
    exact this
  have HF : Hid (∀ w S sb, One true W w S sb [] → Calls Try.prog 10 #[.pointer (some ⟨sb, 0, none⟩)] w fun e w' => e = .returned (.int .i64 0) ∧ Below w.heap.size w w') := fun w S sb h => one_frm h
  have HL : Hid (∀ w S sb, One true W w S sb [] → Calls Try.prog 16 #[.pointer (some ⟨sb, 0, none⟩)] w fun e w' => e = .returned (.int .i64 6) ∧ OneN true W w S sb w' []) := fun w S sb h => one_lev h
  generalize enE [] l m = E at *
  clear e2
  go_enter Try.func4, Try.ntmps4
  go_wp2_with (first
    | (go_at_call 16; refine (HL.out _ _ _ O3.out).mono ?_; rintro e w4 ⟨rfl, S4, o4, t4, u4⟩; have O4 : Hid (One true W w4 S4 w0.heap.size []) := o4; clear o4 t4 u4)
    | (go_at_call 10; refine (HF.out _ _ _ O2.out).mono ?_; rintro e w3 ⟨rfl, hb⟩; have O3 : Hid (One true W w3 S2 w0.heap.size []) := O2.out.bel hb; clear hb)
    | (go_at_call 15; refine (HE.out _ _ _ O1.out).mono ?_; rintro e w2 ⟨rfl, S2, o2, t2, u2⟩; have O2 : Hid (One true W w2 S2 w0.heap.size []) := o2; clear o2 t2 u2)
    | (go_at_call 8; refine (HN.out _ B0.out).mono ?_; rintro e w1 ⟨rfl, o1, hb⟩; have O1 : Hid (One true W w1 (fun j => j = w0.heap.size) w0.heap.size []) := o1; clear o1 hb)
    | (go_at_call 7; refine (HA.out _).mono ?_; rintro e w0 ⟨rfl, hb⟩; have B0 : Hid (Below W.heap.size W w0) := hb; clear hb))
  go_ret
  exact ⟨rfl, O4.out.bl⟩
/-- a thing to be done, in a block of its own that is none of S -/
def BxO (w : World) (S : Nat → Prop) (ob : Nat) (t : OpS) : Prop := w.heap[ob]? = some (.cells #[.int .i64 t.kd, .int .i64 t.a, .int .i64 t.b, .bool t.v.1, .int .i64 t.v.2] 34 (0, 0)) ∧ ¬ S ob
theorem BxO.step {w w' : World} {S S' : Nat → Prop} {ob : Nat} {t : OpS} (h : BxO w S ob t) (T : Tch S w w') (hu : ∀ j, S' j → S j ∨ w.heap.size ≤ j) : BxO w' S' ob t := by
  have hl := (Array.getElem?_eq_some_iff.1 h.1).1
  exact ⟨(T.blk ob hl h.2).trans h.1, fun x => (hu ob x).elim h.2 (fun y => by omega)⟩
theorem r5c {w : World} {n : Nat} {t : TypeId} {a0 a1 a2 a3 a4 : Value} (h : w.heap[n]? = some (.cells #[a0, a1, a2, a3, a4] t (0, 0))) : w.cell? ⟨n, 0, none⟩ = some a0 ∧ w.cell? ⟨n, 1, none⟩ = some a1 ∧ w.cell? ⟨n, 2, none⟩ = some a2 ∧ w.cell? ⟨n, 3, none⟩ = some a3 ∧ w.cell? ⟨n, 4, none⟩ = some a4 ∧ n < w.heap.size :=
  ⟨(cell_of_row w n 0 _ _ _ h).trans rfl, (cell_of_row w n 1 _ _ _ h).trans rfl, (cell_of_row w n 2 _ _ _ h).trans rfl, (cell_of_row w n 3 _ _ _ h).trans rfl, (cell_of_row w n 4 _ _ _ h).trans rfl, (Array.getElem?_eq_some_iff.1 h).1⟩

set_option maxRecDepth 100000 in
set_option maxHeartbeats 2000000 in
theorem StackLast_ok (l m : Nat) (hl : l ≤ 40) (hm : m ≤ 40) (v u : Value) (xs : List (Bool × Int)) (ts : List OpS) (W : World) (hv : IsVals W v xs) (hu : IsOpsS W u ts) : Calls Try.prog 4 #[.int .i64 (l : Int), .int .i64 (m : Int), v, u] W fun e w' => e = .returned (.bool true) ∧ Below W.heap.size W w' := by
  obtain ⟨ao, cap, rfl, hvl, hvc⟩ := hv
  obtain ⟨au, cau, rfl, hul, huc⟩ := hu
  have HVC : Hid (∀ i x, xs[i]? = some x → ∀ w, Below W.heap.size W w → ∃ b o, ao = some ⟨b, o, none⟩ ∧ w.cell? ⟨b, o + i * 2, none⟩ = some (.bool x.1) ∧ w.cell? ⟨b, o + i * 2 + 1, none⟩ = some (.int .i64 x.2)) := fun i x hx w hb => by
    obtain ⟨b, o, e, hbl, hc⟩ := hvc (by rintro rfl; simp at hx)
    exact ⟨b, o, e, (hb.cell (p := ⟨b, o + i * 2, none⟩) hbl).trans (hc i x hx).1, (hb.cell (p := ⟨b, o + i * 2 + 1, none⟩) hbl).trans (hc i x hx).2⟩
  have HUC : Hid (∀ i t, ts[i]? = some t → ∀ w, Below W.heap.size W w → ∃ b o, au = some ⟨b, o, none⟩ ∧ w.cell? ⟨b, o + i * 5, none⟩ = some (.int .i64 t.kd) ∧ w.cell? ⟨b, o + i * 5 + 1, none⟩ = some (.int .i64 t.a) ∧ w.cell? ⟨b, o + i * 5 + 2, none⟩ = some (.int .i64 t.b) ∧ w.cell? ⟨b, o + i * 5 + 3, none⟩ = some (.bool t.v.1) ∧ w.cell? ⟨b, o + i * 5 + 4, none⟩ = some (.int .i64 t.v.2)) := fun i t ht w hb => by
    obtain ⟨b, o, e, hbl, hc⟩ := huc (by rintro rfl; simp at ht)
    obtain ⟨h0, h1, h2, h3, h4⟩ := hc i t ht
    exact ⟨b, o, e, (hb.cell (p := ⟨b, o + i * 5, none⟩) hbl).trans h0, (hb.cell (p := ⟨b, o + i * 5 + 1, none⟩) hbl).trans h1, (hb.cell (p := ⟨b, o + i * 5 + 2, none⟩) hbl).trans h2, (hb.cell (p := ⟨b, o + i * 5 + 3, none⟩) hbl).trans h3, (hb.cell (p := ⟨b, o + i * 5 + 4, none⟩) hbl).trans h4⟩
  have HA : Hid (∀ w : World, Calls Try.prog 7 #[] w fun e w' => e = .returned (.bool true) ∧ Below w.heap.size w w') := awake_s
  have HN : Hid (∀ w, Below W.heap.size W w → Calls Try.prog 8 #[] w fun e w' => e = .returned (.pointer (some ⟨w.heap.size, 0, none⟩)) ∧ One true W w' (fun j => j = w.heap.size) w.heap.size [] ∧ Below w.heap.size w w') := fun w hb => one_new W w hb
  have HE : Hid (∀ w S sb, One true W w S sb [] → Calls Try.prog 15 #[.pointer (some ⟨sb, 0, none⟩), .int .i64 (l : Int), .int .i64 (m : Int)] w fun e w' => e = .returned (.int .i64 0) ∧ OneN true W w S sb w' [⟨opAt m xs 0, m, lsAt l xs 0⟩]) := fun w S sb h => by
    have := one_ent h l m
    have h1 : ¬ ((l : Int) < 0 ∨ 40 < (l : Int) ∨ (m : Int) < 0 ∨ 40 < (m : Int)) := by omega
    have h2 : ¬ 4000 < (wdP [] : Int) + (l : Int) + (m : Int) + 3 := by simp [wdP]; omega
    rw [enE, enP, if_neg h1, if_neg h1, if_neg h2, if_neg h2] at this
    rw [lsAt_0]
    simpa [opAt] using this
  obtain ⟨K, hK⟩ : ∃ K, xs.length = K := ⟨_, rfl⟩
  obtain ⟨M, hM⟩ : ∃ M, ts.length = M := ⟨_, rfl⟩
  have HK : Hid (xs.length = K) := hK
  have HM : Hid (ts.length = M) := hM
  rw [hK, hM]
  rw [hK] at hvl
  rw [hM] at hul
  unfold maxLen at hvl hul
  clear hvc huc hK hM
  go_enter Try.func4, Try.ntmps4
  go_wp2_with (first
    | (go_at_call 15; refine (HE.out _ _ _ O1.out).mono ?_; rintro e w2 ⟨rfl, S2, o2, t2, u2⟩; have O2 : Hid (One true W w2 S2 w0.heap.size [⟨opAt m xs 0, m, lsAt l xs 0⟩]) := o2; clear o2 t2 u2)
    | (go_at_call 8; refine (HN.out _ B0.out).mono ?_; rintro e w1 ⟨rfl, o1, hb⟩; have O1 : Hid (One true W w1 (fun j => j = w0.heap.size) w0.heap.size []) := o1; clear o1 hb)
    | (go_at_call 7; refine (HA.out _).mono ?_; rintro e w0 ⟨rfl, hb⟩; have B0 : Hid (Below W.heap.size W w0) := hb; clear hb))
  clear HA HN HE O1 B0
  generalize w0.heap.size = sb at *
  go_loopw [10, 11] (fun nv iv wr => ∃ i : Nat, iv = .int .i64 (i : Int) ∧ nv = .int .i64 ((min i m : Nat) : Int) ∧ i ≤ K ∧ ∃ S, Hid (One true W wr S sb [⟨opAt m xs i, m, lsAt l xs i⟩])) (fun _ iv _ => K - (intOf iv).toNat)
  case atStart => exact ⟨0, rfl, by simp, Nat.zero_le _, _, O2⟩
  case round =>
    obtain ⟨i, rfl, rfl, hi, S, O3⟩ := hrel
    clear O2
    by_cases hlt : i < K
    · obtain ⟨x, hx⟩ : ∃ x, xs[i]? = some x := ⟨_, List.getElem?_eq_getElem (by rw [HK.out]; exact hlt)⟩
      obtain ⟨b, o, hao, d0, d1⟩ := HVC.out i x hx wr O3.out.bl
      subst hao
      have hltI : (i : Int) < (K : Int) := by omega
      have DD : Hid (∀ w, Below W.heap.size W w → w.cell? ⟨b, o + i * 2, none⟩ = some (.bool x.1) ∧ w.cell? ⟨b, o + i * 2 + 1, none⟩ = some (.int .i64 x.2)) := fun w hb => by
        obtain ⟨b', o', e, h1, h2⟩ := HVC.out i x hx w hb
        injection e with e; injection e with e1 e2
        subst e1 e2
        exact ⟨h1, h2⟩
      obtain ⟨x1, x2⟩ := x
      simp only at d0 d1 DD
      by_cases him : i < m
      · have HP : Hid (∀ w S, One true W w S sb [⟨opAt m xs i, m, lsAt l xs i⟩] → Calls Try.prog 17 #[.pointer (some ⟨sb, 0, none⟩), .agg #[.bool x1, .int .i64 x2]] w fun e w' => e = .returned (.int .i64 0) ∧ OneN true W w S sb w' [⟨opAt m xs (i + 1), m, lsAt l xs i⟩]) := fun w S h => sl_put1 (v := (x1, x2)) him hx h
        have hmn : min i m = i := by omega
        have hmn2 : min (i + 1) m = i + 1 := by omega
        rw [hmn]
        have hmI : (i : Int) < (m : Int) := by omega
        by_cases hil : i < l
        · have HS : Hid (∀ w S, One true W w S sb [⟨opAt m xs (i + 1), m, lsAt l xs i⟩] → Calls Try.prog 18 #[.pointer (some ⟨sb, 0, none⟩), .int .i64 (i : Int), .agg #[.bool x1, .int .i64 x2]] w fun e w' => e = .returned (.int .i64 0) ∧ OneN true W w S sb w' [⟨opAt m xs (i + 1), m, lsAt l xs (i + 1)⟩]) := fun w S h => sl_set (v := (x1, x2)) hil hx h
          have hilI : (i : Int) < (l : Int) := by omega
          clear HVC HUC hx
          go_wp2_with (first
            | (go_at_call 18; refine (HS.out _ _ O4.out).mono ?_; rintro e w5 ⟨rfl, S5, o5, t5, u5⟩; have O5 : Hid (One true W w5 S5 sb [⟨opAt m xs (i + 1), m, lsAt l xs (i + 1)⟩]) := o5; clear o5 t5 u5)
            | (go_at_call 17; refine (HP.out _ _ O3.out).mono ?_; rintro e w4 ⟨rfl, S4, o4, t4, u4⟩; have O4 : Hid (One true W w4 S4 sb [⟨opAt m xs (i + 1), m, lsAt l xs i⟩]) := o4; obtain ⟨d2, d3⟩ := DD.out w4 o4.bl; clear o4 t4 u4))
          go_roundw
          case rel => exact ⟨i + 1, by go_num, by rw [hmn2]; go_num, by omega, S5, O5⟩
          case measure => simp [intOf]; omega
        · have hilI : ¬ (i : Int) < (l : Int) := by omega
          have EQ : Hid (lsAt l xs (i + 1) = lsAt l xs i) := lsAt_no hil
          clear HVC HUC hx
          go_wp2_with (go_at_call 17; refine (HP.out _ _ O3.out).mono ?_; rintro e w4 ⟨rfl, S4, o4, t4, u4⟩; have O4 : Hid (One true W w4 S4 sb [⟨opAt m xs (i + 1), m, lsAt l xs i⟩]) := o4; clear o4 t4 u4)
          go_roundw
          case rel => exact ⟨i + 1, by go_num, by rw [hmn2]; go_num, by omega, S4, by rw [EQ.out]; exact O4⟩
          case measure => simp [intOf]; omega
      · have HP : Hid (∀ w S, One true W w S sb [⟨opAt m xs i, m, lsAt l xs i⟩] → Calls Try.prog 17 #[.pointer (some ⟨sb, 0, none⟩), .agg #[.bool x1, .int .i64 x2]] w fun e w' => e = .returned (.int .i64 35) ∧ OneN true W w S sb w' [⟨opAt m xs (i + 1), m, lsAt l xs i⟩]) := fun w S h => sl_put0 (v := (x1, x2)) him hx h
        have hmn : min i m = m := by omega
        have hmn2 : min (i + 1) m = m := by omega
        rw [hmn]
        by_cases hil : i < l
        · have HS : Hid (∀ w S, One true W w S sb [⟨opAt m xs (i + 1), m, lsAt l xs i⟩] → Calls Try.prog 18 #[.pointer (some ⟨sb, 0, none⟩), .int .i64 (i : Int), .agg #[.bool x1, .int .i64 x2]] w fun e w' => e = .returned (.int .i64 0) ∧ OneN true W w S sb w' [⟨opAt m xs (i + 1), m, lsAt l xs (i + 1)⟩]) := fun w S h => sl_set (v := (x1, x2)) hil hx h
          have hilI : (i : Int) < (l : Int) := by omega
          clear HVC HUC hx
          go_wp2_with (first
            | (go_at_call 18; refine (HS.out _ _ O4.out).mono ?_; rintro e w5 ⟨rfl, S5, o5, t5, u5⟩; have O5 : Hid (One true W w5 S5 sb [⟨opAt m xs (i + 1), m, lsAt l xs (i + 1)⟩]) := o5; clear o5 t5 u5)
            | (go_at_call 17; refine (HP.out _ _ O3.out).mono ?_; rintro e w4 ⟨rfl, S4, o4, t4, u4⟩; have O4 : Hid (One true W w4 S4 sb [⟨opAt m xs (i + 1), m, lsAt l xs i⟩]) := o4; obtain ⟨d2, d3⟩ := DD.out w4 o4.bl; clear o4 t4 u4))
          go_roundw
          case rel => exact ⟨i + 1, by go_num, by rw [hmn2], by omega, S5, O5⟩
          case measure => simp [intOf]; omega
        · have hilI : ¬ (i : Int) < (l : Int) := by omega
          have EQ : Hid (lsAt l xs (i + 1) = lsAt l xs i) := lsAt_no hil
          clear HVC HUC hx
          go_wp2_with (go_at_call 17; refine (HP.out _ _ O3.out).mono ?_; rintro e w4 ⟨rfl, S4, o4, t4, u4⟩; have O4 : Hid (One true W w4 S4 sb [⟨opAt m xs (i + 1), m, lsAt l xs i⟩]) := o4; clear o4 t4 u4)
          go_roundw
          case rel => exact ⟨i + 1, by go_num, by rw [hmn2], by omega, S4, by rw [EQ.out]; exact O4⟩
          case measure => simp [intOf]; omega
    · obtain rfl : i = K := by omega
      have hltI : ¬ (i : Int) < (i : Int) := by omega
      have hop : opAt m xs i = xs.take m := by rw [← HK.out]; exact opAt_all
      rw [hop] at O3
      obtain ⟨c, hc⟩ : ∃ c, min i m = c := ⟨_, rfl⟩
      rw [hc]
      have hc4 : c ≤ 40 := by omega
      have hci : c ≤ i := by omega
      have CT : Hid (xs.take m = xs.take c) := by
        rw [Hid, ← hc]
        apply List.ext_getElem?
        intro k
        rw [List.getElem?_take, List.getElem?_take]
        have := HK.out
        by_cases h1 : k < m
        · by_cases h2 : k < i
          · rw [if_pos h1, if_pos (by omega)]
          · rw [if_pos h1, if_neg (by omega), List.getElem?_eq_none (by omega)]
        · rw [if_neg h1, if_neg (by omega)]
      rw [CT.out] at O3
      obtain ⟨base, hbase⟩ : ∃ base : PF, base = ⟨xs.take c, m, lsAt l xs i⟩ := ⟨_, rfl⟩
      have HB : Hid (base = ⟨xs.take c, m, lsAt l xs i⟩) := hbase
      rw [← hbase] at O3
      have HE : Hid (∀ w S, One true W w S sb [base] → Calls Try.prog 15 #[.pointer (some ⟨sb, 0, none⟩), .int .i64 0, .int .i64 3] w fun e w' => e = .returned (.int .i64 0) ∧ OneN true W w S sb w' ([⟨[], 3, []⟩] ++ [base])) := fun w S h => by
        have := one_ent h 0 3
        have h1 : ¬ ((0 : Int) < 0 ∨ 40 < (0 : Int) ∨ (3 : Int) < 0 ∨ 40 < (3 : Int)) := by omega
        have h2 : ¬ 4000 < (wdP [base] : Int) + 0 + 3 + 3 := by rw [hbase]; simp [wdP, lsAt_len]; omega
        rw [enE, enP, if_neg h1, if_neg h1, if_neg h2, if_neg h2] at this
        exact this
      clear hbase hop hc
      go_wp2_with (go_at_call 15; refine (HE.out _ _ O3.out).mono ?_; rintro e w4 ⟨rfl, S4, o4, t4, u4⟩; have O4 : Hid (One true W w4 S4 sb ([⟨[], 3, []⟩] ++ [base])) := o4; clear o4 t4 u4)
      clear HE O3
      go_loopw [14, 15] (fun dv iv wr => ∃ (j : Nat) (qs : List PF), iv = .int .i64 (j : Int) ∧ dv = .int .i64 (qs.length : Int) ∧ j ≤ M ∧ qs ≠ [] ∧ ∃ S, Hid (One true W wr S sb (qs ++ [base]))) (fun _ iv _ => M - (intOf iv).toNat)
      case atStart => exact ⟨0, [⟨[], 3, []⟩], rfl, rfl, Nat.zero_le _, by simp, _, O4⟩
      case round =>
        obtain ⟨j, qs, rfl, rfl, hj, hq, S5, O5⟩ := hrel
        clear O4
        by_cases hlt : j < M
        · obtain ⟨t, ht⟩ : ∃ t, ts[j]? = some t := ⟨_, List.getElem?_eq_getElem (by rw [HM.out]; exact hlt)⟩
          obtain ⟨b, o, hau, d0, d1, d2, d3, d4⟩ := HUC.out j t ht wr O5.out.bl
          subst hau
          have hjI : (j : Int) < (M : Int) := by omega
          have hql : qs.length ≤ 1333 := by have := O5.out.len; simp at this; omega
          obtain ⟨kd, ta, tb, tv1, tv2⟩ := t
          simp only [OpS.kd, OpS.a, OpS.b, OpS.v] at d0 d1 d2 d3 d4
          have OX : Hid (∀ o : Obj, One true W (wr.alloc o) S5 sb (qs ++ [base])) := fun o => O5.out.bel ((Below.refl _ _).alloc (Nat.le_refl _) _)
          have NS : Hid (¬ S5 wr.heap.size) := fun x => by have := O5.out.sz _ x; omega
          clear O5 HUC HVC HB CT ht
          by_cases k1 : kd = 1
          · subst k1
            obtain ⟨x, hx⟩ : ∃ x, enE (qs ++ [base]) ta tb = x := ⟨_, rfl⟩
            have HE : Hid (∀ w S, One true W w S sb (qs ++ [base]) → Calls Try.prog 15 #[.pointer (some ⟨sb, 0, none⟩), .int .i64 ta, .int .i64 tb] w fun e w' => e = .returned (.int .i64 x) ∧ ∃ rs, OneN true W w S sb w' (rs ++ [base]) ∧ rs.length = if x = 0 then qs.length + 1 else qs.length) := fun w S h => by
              have := sl_ent h ta tb
              rw [hx] at this
              exact this
            clear hx
            by_cases hx0 : x = 0
            · subst hx0
              go_wp2_with (go_at_call 15; refine (HE.out _ _ (OX.out _)).mono ?_; rintro e w6 ⟨rfl, rs, ⟨S6, o6, t6, u6⟩, hr⟩; have O6 : Hid (One true W w6 S6 sb (rs ++ [base])) := o6; have hr2 : rs.length = qs.length + 1 := hr; obtain ⟨y0, y1, y2, y3, y4, yL⟩ := r5c ((t6.blk wr.heap.size (by simp) NS.out).trans (halloc1 _ _)); clear o6 t6 u6 hr)
              go_roundw
              case rel => exact ⟨j + 1, rs, by go_num, by rw [hr2]; go_num, by omega, by intro e; rw [e] at hr2; simp at hr2, S6, O6⟩
              case measure => simp [intOf]; omega
            · have HX : Hid (¬ x = 0) := hx0
              have hx1 : (x == 0) = false := by simpa using hx0
              go_wp2_with (go_at_call 15; refine (HE.out _ _ (OX.out _)).mono ?_; rintro e w6 ⟨rfl, rs, ⟨S6, o6, t6, u6⟩, hr⟩; have O6 : Hid (One true W w6 S6 sb (rs ++ [base])) := o6; have hr2 : rs.length = qs.length := hr.trans (if_neg HX.out); obtain ⟨y0, y1, y2, y3, y4, yL⟩ := r5c ((t6.blk wr.heap.size (by simp) NS.out).trans (halloc1 _ _)); clear o6 t6 u6 hr)
              go_roundw
              case rel => exact ⟨j + 1, rs, by go_num, by rw [hr2], by omega, by intro e; rw [e] at hr2; simp at hr2; exact hq (List.length_eq_zero_iff.1 hr2.symm), S6, O6⟩
              case measure => simp [intOf]; omega
          · by_cases k3 : kd = 3
            · subst k3
              obtain ⟨x, hx⟩ : ∃ x, puE (qs ++ [base]) = x := ⟨_, rfl⟩
              have HE : Hid (∀ w S, One true W w S sb (qs ++ [base]) → Calls Try.prog 17 #[.pointer (some ⟨sb, 0, none⟩), .agg #[.bool tv1, .int .i64 tv2]] w fun e w' => e = .returned (.int .i64 x) ∧ ∃ rs, OneN true W w S sb w' (rs ++ [base]) ∧ rs.length = qs.length) := fun w S h => by
                have := sl_put h hq (tv1, tv2)
                rw [hx] at this
                exact this
              clear hx
              go_wp2_with (go_at_call 17; refine (HE.out _ _ (OX.out _)).mono ?_; rintro e w6 ⟨rfl, rs, ⟨S6, o6, t6, u6⟩, hr⟩; have O6 : Hid (One true W w6 S6 sb (rs ++ [base])) := o6; have hr2 : rs.length = qs.length := hr; obtain ⟨y0, y1, y2, y3, y4, yL⟩ := r5c ((t6.blk wr.heap.size (by simp) NS.out).trans (halloc1 _ _)); clear o6 t6 u6 hr)
              go_roundw
              case rel => exact ⟨j + 1, rs, by go_num, by rw [hr2], by omega, by intro e; rw [e] at hr2; simp at hr2; exact hq (List.length_eq_zero_iff.1 hr2.symm), S6, O6⟩
              case measure => simp [intOf]; omega
            · by_cases k7 : kd = 7
              · subst k7
                obtain ⟨x, hx⟩ : ∃ x, seE (qs ++ [base]) ta = x := ⟨_, rfl⟩
                have HE : Hid (∀ w S, One true W w S sb (qs ++ [base]) → Calls Try.prog 18 #[.pointer (some ⟨sb, 0, none⟩), .int .i64 ta, .agg #[.bool tv1, .int .i64 tv2]] w fun e w' => e = .returned (.int .i64 x) ∧ ∃ rs, OneN true W w S sb w' (rs ++ [base]) ∧ rs.length = qs.length) := fun w S h => by
                  have := sl_setq h hq ta (tv1, tv2)
                  rw [hx] at this
                  exact this
                clear hx
                go_wp2_with (go_at_call 18; refine (HE.out _ _ (OX.out _)).mono ?_; rintro e w6 ⟨rfl, rs, ⟨S6, o6, t6, u6⟩, hr⟩; have O6 : Hid (One true W w6 S6 sb (rs ++ [base])) := o6; have hr2 : rs.length = qs.length := hr; clear o6 t6 u6 hr)
                go_roundw
                case rel => exact ⟨j + 1, rs, by go_num, by rw [hr2], by omega, by intro e; rw [e] at hr2; simp at hr2; exact hq (List.length_eq_zero_iff.1 hr2.symm), S6, O6⟩
                case measure => simp [intOf]; omega
              · go_wp2
                go_roundw
                case rel => exact ⟨j + 1, qs, by go_num, rfl, by omega, hq, S5, OX.out _⟩
                case measure => simp [intOf]; omega
        · obtain rfl : j = M := by omega
          have hjI : ¬ (j : Int) < (j : Int) := by omega
          have hql : qs.length ≤ 1333 := by have := O5.out.len; simp at this; omega
          obtain ⟨dp, hdp⟩ : ∃ dp, qs.length = dp := ⟨_, rfl⟩
          have HDP : Hid (qs.length = dp) := hdp
          rw [hdp] at hql ⊢
          clear hdp
          go_wp2
          go_loopw [17] (fun iv wr => ∃ k : Nat, iv = .int .i64 (k : Int) ∧ k ≤ dp ∧ ∃ S, Hid (One true W wr S sb (qs.drop k ++ [base]))) (fun iv _ => dp - (intOf iv).toNat)
          case atStart => exact ⟨0, rfl, Nat.zero_le _, _, O5⟩
          case round =>
            obtain ⟨k, rfl, hk, S6, O6⟩ := hrel
            clear O5
            by_cases hlt2 : k < dp
            · have hkI : (k : Int) < (dp : Int) := by omega
              have O7 : Hid (One true W wr S6 sb (qs[k]'(by rw [HDP.out]; exact hlt2) :: qs.drop (k + 1) ++ [base])) := by
                rw [← List.drop_eq_getElem_cons]; exact O6
              have HL : Hid (∀ w S q, One true W w S sb (q :: qs.drop (k + 1) ++ [base]) → Calls Try.prog 16 #[.pointer (some ⟨sb, 0, none⟩)] w fun e w' => e = .returned (.int .i64 0) ∧ OneN true W w S sb w' (qs.drop (k + 1) ++ [base])) := fun w S q h => sl_lev h
              clear O6 HVC HUC HB CT
              go_wp2_with (go_at_call 16; refine (HL.out _ _ _ O7.out).mono ?_; rintro e w8 ⟨rfl, S8, o8, t8, u8'⟩; have O8 : Hid (One true W w8 S8 sb (qs.drop (k + 1) ++ [base])) := o8; clear o8 t8 u8')
              go_roundw
              case rel => exact ⟨k + 1, by go_num, by omega, S8, O8⟩
              case measure => simp [intOf]; omega
            · obtain rfl : k = dp := by omega
              have hkI : ¬ (k : Int) < (k : Int) := by omega
              have O7 : Hid (One true W wr S6 sb [base]) := by
                have := O6
                rw [List.drop_of_length_le (Nat.le_of_eq HDP.out)] at this
                exact this
              rw [HB.out] at O7
              clear O6 HUC HB CT HDP HM
              go_wp2
              go_loopw [18] (fun iv wr => ∃ p : Nat, iv = .int .i64 (p : Int) ∧ p ≤ l ∧ ∃ S, Hid (One true W wr S sb [⟨xs.take c, m, lsAt l xs i⟩])) (fun iv _ => l - (intOf iv).toNat)
              case atStart => exact ⟨0, rfl, Nat.zero_le _, _, O7⟩
              case round =>
                obtain ⟨p, rfl, hp, S8, O8⟩ := hrel
                clear O7
                by_cases hpp : p < l ∧ p < i
                · obtain ⟨x, hx⟩ : ∃ x, xs[p]? = some x := ⟨_, List.getElem?_eq_getElem (by rw [HK.out]; exact hpp.2)⟩
                  obtain ⟨b, o, hao, d0, d1⟩ := HVC.out p x hx wr O8.out.bl
                  have hbl : b < W.heap.size := by
                    obtain ⟨b', o', e, h1, _⟩ := HVC.out p x hx W (Below.refl _ _)
                    rw [hao] at e
                    injection e with e; injection e with e1 e2
                    subst e1
                    exact World.block_lt_of_cell? W _ h1
                  subst hao
                  have DD : Hid (∀ w, Below W.heap.size W w → w.cell? ⟨b, o + p * 2, none⟩ = some (.bool x.1) ∧ w.cell? ⟨b, o + p * 2 + 1, none⟩ = some (.int .i64 x.2)) := fun w hb => by
                    obtain ⟨b', o', e, h1, h2⟩ := HVC.out p x hx w hb
                    injection e with e; injection e with e1 e2
                    subst e1 e2
                    exact ⟨h1, h2⟩
                  obtain ⟨x1, x2⟩ := x
                  simp only at d0 d1 DD
                  have HG : Hid (∀ w S, One true W w S sb [⟨xs.take c, m, lsAt l xs i⟩] → Calls Try.prog 19 #[.pointer (some ⟨sb, 0, none⟩), .int .i64 (p : Int)] w fun e w' => e = .returned (.tuple #[.agg #[.bool x1, .int .i64 x2], .int .i64 0]) ∧ Below w.heap.size w w') := fun w S h => sl_get (v := (x1, x2)) hpp.1 hpp.2 hx h
                  have HS : Hid (∀ w, Calls Try.prog 20 #[.agg #[.bool x1, .int .i64 x2], .agg #[.bool x1, .int .i64 x2]] w fun e w' => e = .returned (.bool true) ∧ Below w.heap.size w w') := fun w => by
                    have := same_c (x1, x2) (x1, x2) w
                    rw [decide_eq_true rfl] at this
                    exact this
                  have q1 : (p : Int) < (l : Int) := by omega
                  have q2 : (p : Int) < (i : Int) := by omega
                  clear HVC hx
                  go_upto_region 40 with (go_at_call 19; refine (HG.out _ _ O8.out).mono ?_; rintro e w9 ⟨rfl, hb⟩; have O9 : Hid (One true W w9 S8 sb [⟨xs.take c, m, lsAt l xs i⟩]) := O8.out.bel hb; clear hb)
                  have DU := DD.out
                  obtain ⟨U, hU⟩ : ∃ U, U = w9.alloc (.cells #[.bool x1, .int .i64 x2] 32) := ⟨_, rfl⟩
                  have HUE : Hid (U = w9.alloc (.cells #[.bool x1, .int .i64 x2] 32)) := hU
                  have OU : Hid (One true W U S8 sb [⟨xs.take c, m, lsAt l xs i⟩]) := by rw [hU]; exact O9.out.bel ((Below.refl _ _).alloc (Nat.le_refl _) _)
                  have hUs : U.heap.size = w9.heap.size + 1 := by rw [hU]; simp
                  have uv : Hid (U.heap[w9.heap.size]? = some (.cells #[.bool x1, .int .i64 x2] 32 (0, 0))) := by rw [hU]; exact halloc1 _ _
                  clear hU
                  obtain ⟨σ, V, hne, V1, V2⟩ := class_of' (fun w' => Below U.heap.size U w') ⟨_, Below.refl _ _⟩
                  have ev := fun q => r2c (((V1.out q).block w9.heap.size (by omega)).trans uv.out)
                  have e0 := fun q => (ev q).1
                  have e1 := fun q => (ev q).2.1
                  have e2 := fun q => (DU _ (Below.step OU.out.bl (V1.out q))).1
                  have e3 := fun q => (DU _ (Below.step OU.out.bl (V1.out q))).2
                  have HVS : Hid (∀ q, Calls Try.prog 20 #[.agg #[.bool x1, .int .i64 x2], .agg #[.bool x1, .int .i64 x2]] (V q) fun e w' => e = .returned (.bool true) ∧ ∃ q', w' = V q') := fun q => (HS.out _).mono fun e w' ⟨h1, h2⟩ => ⟨h1, V2.out _ (Below.step (V1.out q) h2)⟩
                  clear ev HS DU d0 d1
                  rw [← HUE.out]
                  refine wp_region_class (C := fun w' => ∃ q, w' = V q) (by kernel_rfl) (by kernel_rfl) (V2.out _ (Below.refl _ _).drew) ?_
                  repeat (go_big_quiet_step (first | (go_at_call 20; exact HVS.out _)))
                  refine wpQuiet_nil ?_
                  intro wz hwz
                  obtain ⟨s9, rfl⟩ := hwz
                  have OZ : Hid (One true W (V s9) S8 sb [⟨xs.take c, m, lsAt l xs i⟩]) := OU.out.bel (V1.out s9)
                  clear HVS e0 e1 e2 e3 uv OU V1 V2 HUE O9 O8 HG DD
                  go_wp2
                  go_roundw
                  case rel => exact ⟨p + 1, by go_num, by omega, S8, OZ⟩
                  case measure => simp [intOf]; omega
                · have HT : Hid (∀ w S, One true W w S sb [⟨[], m, lsAt l xs i⟩] → Calls Try.prog 21 #[.pointer (some ⟨sb, 0, none⟩)] w fun e w' => e = .returned (.tuple #[.agg #[.bool false, .int .i64 0], .int .i64 35]) ∧ OneN true W w S sb w' [⟨[], m, lsAt l xs i⟩]) := fun w S h => sl_none h
                  have HF : Hid (∀ w S, One true W w S sb [⟨[], m, lsAt l xs i⟩] → Calls Try.prog 10 #[.pointer (some ⟨sb, 0, none⟩)] w fun e w' => e = .returned (.int .i64 1) ∧ Below w.heap.size w w') := fun w S h => one_frm h
                  have GO : Hid (∀ (Q : Prop), (∀ (q1 : ¬ (p : Int) < (l : Int)), Q) → (∀ (q1 : (p : Int) < (l : Int)) (q2 : ¬ (p : Int) < (i : Int)), Q) → Q) := fun Q a b => by
                    by_cases q1 : (p : Int) < (l : Int)
                    · exact b q1 (by omega)
                    · exact a q1
                  have ci : c ≤ i := hci
                  refine GO.out _ (fun q1 => ?_) (fun q1 q2 => ?_)
                  all_goals clear GO
                  all_goals go_wp2
                  all_goals
                    go_loopw [21] (fun iv wr => ∃ h : Nat, iv = .int .i64 ((h : Int) - 1) ∧ h ≤ c ∧ ∃ S, Hid (One true W wr S sb [⟨xs.take h, m, lsAt l xs i⟩])) (fun iv _ => (intOf iv + 1).toNat)
                    case atStart => exact ⟨c, by go_num, Nat.le_refl _, _, O8⟩
                    case round =>
                      obtain ⟨h, rfl, hh, SA, OA⟩ := hrel
                      clear O8
                      cases h with
                      | zero =>
                        have z1 : ((0 : Nat) : Int) - 1 = -1 := by omega
                        rw [z1]
                        have O9 : Hid (One true W wr SA sb [⟨[], m, lsAt l xs i⟩]) := OA
                        clear OA HVC z1
                        go_wp2_with (first
                          | (go_at_call 10; refine (HF.out _ SB (by first | exact OB.out | exact OB.out.bel ((Below.refl _ _).alloc (Nat.le_refl _) _))).mono ?_; rintro e wc ⟨rfl, hb⟩; have OC : Hid (One true W wc SB sb [⟨[], m, lsAt l xs i⟩]) := (by first | exact OB.out.bel hb | exact (OB.out.bel ((Below.refl _ _).alloc (Nat.le_refl _) _)).bel hb); clear hb)
                          | (go_at_call 21; refine (HT.out _ _ O9.out).mono ?_; rintro e wb' ⟨rfl, SB, ob, tb, ub⟩; have OB : Hid (One true W wb' SB sb [⟨[], m, lsAt l xs i⟩]) := ob; clear ob tb ub))
                        go_ret
                        exact ⟨rfl, OC.out.bl⟩
                      | succ h =>
                        have z1 : ((h + 1 : Nat) : Int) - 1 = (h : Int) := by omega
                        rw [z1]
                        have hci2 : h < i := by omega
                        obtain ⟨x, hx⟩ : ∃ x, xs[h]? = some x := ⟨_, List.getElem?_eq_getElem (by rw [HK.out]; exact hci2)⟩
                        obtain ⟨b, o, hao, d0, d1⟩ := HVC.out h x hx wr OA.out.bl
                        subst hao
                        have DD : Hid (∀ w, Below W.heap.size W w → w.cell? ⟨b, o + h * 2, none⟩ = some (.bool x.1) ∧ w.cell? ⟨b, o + h * 2 + 1, none⟩ = some (.int .i64 x.2)) := fun w hb => by
                          obtain ⟨b', o', e, h1, h2⟩ := HVC.out h x hx w hb
                          injection e with e; injection e with e1 e2
                          subst e1 e2
                          exact ⟨h1, h2⟩
                        obtain ⟨x1, x2⟩ := x
                        simp only at d0 d1 DD
                        have HG : Hid (∀ w S, One true W w S sb [⟨xs.take (h + 1), m, lsAt l xs i⟩] → Calls Try.prog 21 #[.pointer (some ⟨sb, 0, none⟩)] w fun e w' => e = .returned (.tuple #[.agg #[.bool x1, .int .i64 x2], .int .i64 0]) ∧ OneN true W w S sb w' [⟨xs.take h, m, lsAt l xs i⟩]) := fun w S h => sl_take (v := (x1, x2)) hx h
                        have HS : Hid (∀ w, Calls Try.prog 20 #[.agg #[.bool x1, .int .i64 x2], .agg #[.bool x1, .int .i64 x2]] w fun e w' => e = .returned (.bool true) ∧ Below w.heap.size w w') := fun w => by
                          have := same_c (x1, x2) (x1, x2) w
                          rw [decide_eq_true rfl] at this
                          exact this
                        have q3 : ¬ (h : Int) < 0 := by omega
                        have q4 : 0 ≤ (h : Int) := by omega
                        have q5 : (h : Int) < (i : Int) := by omega
                        clear HVC hx HT HF
                        go_upto_region 46 with (go_at_call 21; refine (HG.out _ _ OA.out).mono ?_; rintro e wb ⟨rfl, SB, ob, tb, ub⟩; have OB : Hid (One true W wb SB sb [⟨xs.take h, m, lsAt l xs i⟩]) := ob; clear ob tb ub)
                        have DU := DD.out
                        obtain ⟨U, hU⟩ : ∃ U, U = wb.alloc (.cells #[.bool x1, .int .i64 x2] 32) := ⟨_, rfl⟩
                        have HUE : Hid (U = wb.alloc (.cells #[.bool x1, .int .i64 x2] 32)) := hU
                        have OU : Hid (One true W U SB sb [⟨xs.take h, m, lsAt l xs i⟩]) := by rw [hU]; exact OB.out.bel ((Below.refl _ _).alloc (Nat.le_refl _) _)
                        have hUs : U.heap.size = wb.heap.size + 1 := by rw [hU]; simp
                        have uv : Hid (U.heap[wb.heap.size]? = some (.cells #[.bool x1, .int .i64 x2] 32 (0, 0))) := by rw [hU]; exact halloc1 _ _
                        clear hU
                        obtain ⟨σ, V, hne, V1, V2⟩ := class_of' (fun w' => Below U.heap.size U w') ⟨_, Below.refl _ _⟩
                        have ev := fun q => r2c (((V1.out q).block wb.heap.size (by omega)).trans uv.out)
                        have e0 := fun q => (ev q).1
                        have e1 := fun q => (ev q).2.1
                        have e2 := fun q => (DU _ (Below.step OU.out.bl (V1.out q))).1
                        have e3 := fun q => (DU _ (Below.step OU.out.bl (V1.out q))).2
                        have HVS : Hid (∀ q, Calls Try.prog 20 #[.agg #[.bool x1, .int .i64 x2], .agg #[.bool x1, .int .i64 x2]] (V q) fun e w' => e = .returned (.bool true) ∧ ∃ q', w' = V q') := fun q => (HS.out _).mono fun e w' ⟨h1, h2⟩ => ⟨h1, V2.out _ (Below.step (V1.out q) h2)⟩
                        clear ev HS DU d0 d1
                        rw [← HUE.out]
                        refine wp_region_class (C := fun w' => ∃ q, w' = V q) (by kernel_rfl) (by kernel_rfl) (V2.out _ (Below.refl _ _).drew) ?_
                        repeat (go_big_quiet_step (first | (go_at_call 20; exact HVS.out _)))
                        refine wpQuiet_nil ?_
                        intro wz hwz
                        obtain ⟨s9, rfl⟩ := hwz
                        have OZ : Hid (One true W (V s9) SB sb [⟨xs.take h, m, lsAt l xs i⟩]) := OU.out.bel (V1.out s9)
                        clear HVS e0 e1 e2 e3 uv OU V1 V2 HUE OB OA HG DD
                        go_wp2
                        go_roundw
                        case rel => exact ⟨h, by go_num, by omega, SB, OZ⟩
                        case measure => simp [intOf]
theorem StackLast_any (l m : Int) (v : Value) (xs : List (Bool × Int)) (u : Value) (ts : List OpS) (W : World) (hv : IsVals W v xs) (hu : IsOpsS W u ts) : Calls Try.prog 4 #[.int .i64 l, .int .i64 m, v, u] W fun e w' => e = .returned (.bool true) ∧ Below W.heap.size W w' := by
  by_cases hE : enE [] l m = 0
  · have hr : ¬ (l < 0 ∨ 40 < l ∨ m < 0 ∨ 40 < m) := fun c => by rw [enE, if_pos c] at hE; exact absurd hE (by decide)
    obtain ⟨a, rfl⟩ : ∃ a : Nat, l = (a : Int) := ⟨l.toNat, by omega⟩
    obtain ⟨b, rfl⟩ : ∃ b : Nat, m = (b : Int) := ⟨m.toNat, by omega⟩
    exact StackLast_ok a b (by omega) (by omega) v u xs ts W hv hu
  · exact StackLast_bad l m v u hE W
end Go.Proofs.Ytaphlhcenelkbaa
