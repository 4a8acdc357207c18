/- CachePlays: a cache, asked by a script, beside the document's: every answer. -/
import Derived.Test.YtdjmjdlolhfejaaKbL
namespace Go.Proofs.Ytdjmjdlolhfejaa
open Go.RowKit Go.Maps

theorem agrees_c {W : World} {N p r cap : Nat} {K : Sk} (HB : Both W N p r cap K) (h64 : cap ≤ 64) (hr : N ≤ r) (hN : N ≤ W.heap.size) (kd ky vl : Int) :
    Calls Try.prog 10 #[.agg #[.int .i64 kd, .int .i64 ky, .int .i64 vl], .pointer (some ⟨p, 0, none⟩), .pointer (some ⟨r, 0, none⟩)] W fun e w' => e = .returned (.bool true) ∧ Both w' N p r cap K ∧ Below N W w' := by
  by_cases k1 : kd = 1
  · subst k1; exact agr_get HB h64 hr hN ky vl
  by_cases k2 : kd = 2
  · subst k2; exact agr_put HB h64 hr hN ky vl
  by_cases k3 : kd = 3
  · subst k3; exact agr_keys HB h64 hr hN ky vl
  by_cases k4 : kd = 4
  · subst k4; exact agr_clear HB h64 hr hN ky vl
  exact agr_none HB h64 hr hN ky vl kd k1 k2 k3 k4
theorem tch_far {N : Nat} {W w w' : World} (h : Tch (fun _ => False) W w) (hN : W.heap.size ≤ N) (hb : Below N w w') : Tch (fun _ => False) W w' :=
  ⟨hb.os.trans h.os, hb.tape.trans h.tape, hb.output.trans h.output, Nat.le_trans h.size hb.size, fun k hk hs => (hb.block k (Nat.lt_of_lt_of_le hk hN)).trans (h.blk k hk hs)⟩
set_option maxRecDepth 100000 in
set_option maxHeartbeats 4000000 in
theorem CachePlays_in (cap : Nat) (h64 : cap ≤ 64) (v : Value) (ts : List OpI) (W : World) (hv : IsOps W v ts) :
    Calls Try.prog 3 #[.int .i64 (cap : Int), v] W fun e w' => e = .returned (.bool true) ∧ Tch (fun _ => False) W w' := by
  obtain ⟨ao, vc, rfl, hn, hcell⟩ := hv
  obtain ⟨n, hnn⟩ : ∃ n, ts.length = n := ⟨_, rfl⟩
  rw [hnn] at hn ⊢
  unfold maxLen at hn
  have HNN : Hid (ts.length = n) := hnn
  have HC : Hid (ts ≠ [] → ∃ b o, ao = some ⟨b, o, none⟩ ∧ b < W.heap.size ∧ ∀ k t, ts[k]? = some t → W.cell? ⟨b, o + k * 3, none⟩ = some (.int .i64 t.kd) ∧ W.cell? ⟨b, o + k * 3 + 1, none⟩ = some (.int .i64 t.k) ∧ W.cell? ⟨b, o + k * 3 + 2, none⟩ = some (.int .i64 t.v)) := hcell
  have HN : Hid (∀ w, Calls Try.prog 8 #[.int .i64 (cap : Int)] w fun e w' => ∃ p, e = .returned (.tuple #[.pointer (some ⟨p, 0, none⟩), .int .i64 0]) ∧ (∃ K, CaK w' w.heap.size p K cap (List.replicate ((cap + 1) / 2) []) 0 0 0 0) ∧ Tch (fun _ => False) w w') := cnew_c cap h64
  have HX : Hid (∀ w, Calls Try.prog 9 #[.int .i64 (cap : Int)] w fun e w' => e = .returned (.tuple #[.pointer (some ⟨w.heap.size, 0, none⟩), .int .i64 0]) ∧ RcAt w' w.heap.size cap (.slice none 0 0) (.slice none 0 0) [] 0 0 ∧ Tch (fun _ => False) w w') := fun w => rnew_c cap h64 w
  have HG : Hid (∀ N p r K w kd ky vl, Both w N p r cap K → N ≤ r → N ≤ w.heap.size → Calls Try.prog 10 #[.agg #[.int .i64 kd, .int .i64 ky, .int .i64 vl], .pointer (some ⟨p, 0, none⟩), .pointer (some ⟨r, 0, none⟩)] w fun e w' => e = .returned (.bool true) ∧ Both w' N p r cap K ∧ Below N w w') := fun N p r K w kd ky vl h1 h2 h3 => agrees_c h1 h64 h2 h3 kd ky vl
  clear hnn hcell h64
  go_enter Try.func3, Try.ntmps3
  go_wp2_with (first
    | (go_at_call 7; refine (awake_c _).mono ?_; rintro e w1 ⟨rfl, t1⟩; have T1 : Hid (Tch (fun _ => False) W w1) := t1; clear t1)
    | (go_at_call 8; refine (HN.out _).mono ?_; rintro e w2 ⟨p, rfl, ⟨K, h2⟩, t2⟩; have C2 : Hid (CaK w2 w1.heap.size p K cap (List.replicate ((cap + 1) / 2) []) 0 0 0 0) := h2; have T2 : Hid (Tch (fun _ => False) W w2) := T1.out.trans t2 (fun _ _ x => x); have hN : Hid (W.heap.size ≤ w1.heap.size ∧ w1.heap.size ≤ w2.heap.size) := ⟨T1.out.size, t2.size⟩; clear h2 t2 HN T1)
    | (go_at_call 9; refine (HX.out _).mono ?_; rintro e w3 ⟨rfl, d3, t3⟩; have B3 : Hid (Both w3 w1.heap.size p w2.heap.size cap K) := ⟨_, _, _, _, _, _, C2.out.tch t3, d3, RelC.new cap⟩; have T3 : Hid (Tch (fun _ => False) W w3) := T2.out.trans t3 (fun _ _ x => x); have hN3 : Hid (w1.heap.size ≤ w3.heap.size) := Nat.le_trans hN.out.2 t3.size; clear d3 t3 HX T2 C2))
  obtain ⟨N, hNe⟩ : ∃ N, w1.heap.size = N := ⟨_, rfl⟩
  obtain ⟨r, hre⟩ : ∃ r, w2.heap.size = r := ⟨_, rfl⟩
  rw [hNe, hre] at B3 hN
  rw [hNe] at hN3
  rw [hre]
  clear hNe hre
  go_loopw [9] (fun iv wr => ∃ (i : Nat), iv = .int .i64 i ∧ i ≤ n ∧ Hid (Both wr N p r cap K) ∧ Hid (N ≤ wr.heap.size) ∧ Hid (Tch (fun _ => False) W wr)) (fun iv _ => n - (intOf iv).toNat)
  case atStart => exact ⟨0, rfl, Nat.zero_le _, B3, hN3, T3⟩
  case round =>
    obtain ⟨i, rfl, hi, CR, NR, TR⟩ := hrel
    obtain ⟨wo, rfl⟩ : ∃ wo, wo = wr := ⟨_, rfl⟩
    by_cases hlt : i < n
    · have hlq : i < ts.length := by rw [HNN.out]; exact hlt
      have hiI : (i : Int) < (n : Int) := by omega
      obtain ⟨t, ht⟩ : ∃ t, ts[i]? = some t := ⟨_, List.getElem?_eq_getElem hlq⟩
      obtain ⟨b, ob, rfl, hbl, hcl⟩ := HC.out (by rintro rfl; simp at hlq)
      obtain ⟨a1, a2, a3⟩ := hcl i t ht
      have e := TR.out.blk b hbl (fun x => x)
      replace a1 := (World.cell?_of_block (a := ⟨b, ob + i * 3, none⟩) e).trans a1
      replace a2 := (World.cell?_of_block (a := ⟨b, ob + i * 3 + 1, none⟩) e).trans a2
      replace a3 := (World.cell?_of_block (a := ⟨b, ob + i * 3 + 2, none⟩) e).trans a3
      generalize t.kd = kd at *
      generalize t.k = ky at *
      generalize t.v = vl at *
      have HA : Hid (Calls Try.prog 10 #[.agg #[.int .i64 kd, .int .i64 ky, .int .i64 vl], .pointer (some ⟨p, 0, none⟩), .pointer (some ⟨r, 0, none⟩)] wo fun e w' => e = .returned (.bool true) ∧ Both w' N p r cap K ∧ Below N wo w') := HG.out _ _ _ _ _ _ _ _ CR.out hN.out.2 NR.out
      clear hcl ht e hlq
      go_wp2_with (go_at_call 10; refine HA.out.mono ?_; rintro e w5 ⟨rfl, c5, t5⟩; have C5 : Hid (Both w5 N p r cap K) := c5; have N5 : Hid (N ≤ w5.heap.size) := Nat.le_trans NR.out t5.size; have T5 : Hid (Tch (fun _ => False) W w5) := tch_far TR.out hN.out.1 t5; clear c5 t5 HA CR TR NR)
      go_roundw
      case rel => exact ⟨i + 1, by go_num, by omega, C5, N5, T5⟩
      case measure => simp [intOf]; omega
    · obtain rfl : i = n := by omega
      have HA : Hid (Calls Try.prog 10 #[.agg #[.int .i64 3, .int .i64 0, .int .i64 0], .pointer (some ⟨p, 0, none⟩), .pointer (some ⟨r, 0, none⟩)] wo fun e w' => e = .returned (.bool true) ∧ Both w' N p r cap K ∧ Below N wo w') := HG.out _ _ _ _ _ _ _ _ CR.out hN.out.2 NR.out
      clear HC HG
      go_wp2_with (go_at_call 10; refine HA.out.mono ?_; rintro e w5 ⟨rfl, c5, t5⟩; have T5 : Hid (Tch (fun _ => False) W w5) := tch_far TR.out hN.out.1 t5; clear c5 t5 HA CR TR NR)
      go_ret
      exact ⟨rfl, T5.out⟩
set_option maxRecDepth 100000 in
theorem CachePlays_any (n : Int) (v : Value) (ts : List OpI) (W : World) (hv : IsOps W v ts) :
    Calls Try.prog 3 #[.int .i64 n, v] W fun e w' => e = .returned (.bool true) ∧ Below W.heap.size W w' := by
  by_cases hr : 0 ≤ n ∧ n ≤ 64
  · obtain ⟨cap, rfl⟩ : ∃ cap : Nat, n = (cap : Int) := ⟨n.toNat, by omega⟩
    exact (CachePlays_in cap (by omega) v ts W hv).mono fun e w' ⟨a, b⟩ => ⟨a, b.bel0⟩
  · have HN : Hid (∀ w, Calls Try.prog 8 #[.int .i64 n] w fun e w' => e = .returned (.tuple #[.pointer none, .int .i64 7]) ∧ w' = w) := cnew_no n (by omega)
    have HX : Hid (∀ w, Calls Try.prog 9 #[.int .i64 n] w fun e w' => e = .returned (.tuple #[.pointer none, .int .i64 7]) ∧ w' = w) := rnew_no n (by omega)
    clear hr hv
    go_enter Try.func3, Try.ntmps3
    go_wp2_with (first
      | (go_at_call 7; refine (awake_c _).mono ?_; rintro e w1 ⟨rfl, t1⟩; have T1 : Hid (Tch (fun _ => False) W w1) := t1; clear t1)
      | (go_at_call 8; refine (HN.out _).mono ?_; rintro e w2 ⟨rfl, hw⟩; obtain rfl := hw.symm; clear HN)
      | (go_at_call 9; refine (HX.out _).mono ?_; rintro e w2 ⟨rfl, hw⟩; obtain rfl := hw.symm; clear HX))
    go_ret
    exact ⟨rfl, T1.out.bel0⟩
end Go.Proofs.Ytdjmjdlolhfejaa
