/- CacheLike: what a cache answers is what was put for the key last. -/
import Derived.Test.YtdjmjdlolhfejaaKaQ
import Derived.Test.YtdjmjdlolhfejaaKaR
namespace Go.Proofs.Ytdjmjdlolhfejaa
open Go.RowKit Go.Maps

/-- the place of the last of the first n that puts a key, or -1 -/
def lstI (ts : List OpI) (k : Int) : Nat → Int
  | 0 => -1
  | n + 1 => match ts[n]? with
    | some t => if t.kd = 2 ∧ t.k = k then (n : Int) else lstI ts k n
    | none => lstI ts k n
theorem lstI_yes {ts : List OpI} {n : Nat} {t : OpI} (h : ts[n]? = some t) (h1 : t.kd = 2) : lstI ts t.k (n + 1) = (n : Int) := by simp [lstI, h, h1]
theorem lstI_no {ts : List OpI} {n : Nat} {t : OpI} {k : Int} (h : ts[n]? = some t) (h1 : ¬ (t.kd = 2 ∧ t.k = k)) : lstI ts k (n + 1) = lstI ts k n := by simp only [lstI, h, if_neg h1]
/-- what is in the cache was put last -/
def LkI (ts : List OpI) (i : Nat) (ss : List (List (Int × Int))) : Prop := ∀ x, Ent ss x → ∃ j : Nat, lstI ts x.1 i = (j : Int) ∧ ∃ t, ts[j]? = some t ∧ t.v = x.2
theorem ptSS_0 (x : Int × Int) : ptSS 0 x [] = ((0, 0), false, []) := by simp [ptSS]
theorem InvC.nil {ss : List (List (Int × Int))} (h : InvC 0 ss) : ss = [] := List.length_eq_zero_iff.1 (by rw [h.len])
theorem InvC.put {cap : Nat} {ss : List (List (Int × Int))} (h : InvC cap ss) (x : Int × Int) : InvC cap (ptSS cap x ss).2.2 := by
  by_cases hc : 1 ≤ cap
  · exact (ptSS_spec h hc x).1
  · obtain rfl : cap = 0 := by omega
    obtain rfl := h.nil
    rw [ptSS_0]; exact h
theorem LkI.put {ts : List OpI} {i cap : Nat} {ss : List (List (Int × Int))} (h : LkI ts i ss) (hi : InvC cap ss) {t : OpI} (ht : ts[i]? = some t) (h2 : t.kd = 2) : LkI ts (i + 1) (ptSS cap (t.k, t.v) ss).2.2 := by
  by_cases hc : 1 ≤ cap
  · intro x hx
    rcases (ptSS_spec hi hc (t.k, t.v)).2.2.1 x hx with rfl | ⟨hx, hne⟩
    · exact ⟨i, lstI_yes ht h2, t, ht, rfl⟩
    · obtain ⟨j, h3, h4⟩ := h x hx
      exact ⟨j, by rw [lstI_no ht (fun e => hne e.2.symm)]; exact h3, h4⟩
  · obtain rfl : cap = 0 := by omega
    obtain rfl := hi.nil
    rw [ptSS_0]
    rintro x ⟨l, hl, _⟩
    simp at hl
theorem LkI.skip {ts : List OpI} {i : Nat} {ss : List (List (Int × Int))} (h : LkI ts i ss) {t : OpI} (ht : ts[i]? = some t) (h2 : t.kd ≠ 2) : LkI ts (i + 1) ss := fun x hx => by
  obtain ⟨j, h3, h4⟩ := h x hx
  exact ⟨j, by rw [lstI_no ht (fun e => h2 e.1)]; exact h3, h4⟩
theorem InvC.clear {cap : Nat} {ss : List (List (Int × Int))} (h : InvC cap ss) : InvC cap (List.replicate ss.length []) := by rw [h.len]; exact InvC.new cap
theorem LkI.clear {ts : List OpI} {i n : Nat} : LkI ts i (List.replicate n []) := fun _ hx => (Ent.new hx).elim
theorem LkI.get {ts : List OpI} {i cap : Nat} {ss : List (List (Int × Int))} (h : LkI ts i ss) (hi : InvC cap ss) (key : Int) : LkI ts i (fdSS key ss).2.2 := fun x hx => h x (((fdSS_spec hi key).2.1 x).1 hx)
/-- an entry's cache has room -/
theorem Ent.cap {cap : Nat} {ss : List (List (Int × Int))} {x : Int × Int} (h : Ent ss x) (hi : InvC cap ss) : cap ≠ 0 := by
  rintro rfl
  obtain rfl := hi.nil
  obtain ⟨l, hl, _⟩ := h
  simp at hl
set_option maxRecDepth 100000 in
set_option maxHeartbeats 8000000 in
theorem CacheLike_in (cap : Nat) (h64 : cap ≤ 64) (v : Value) (ts : List OpI) (W : World) (hv : IsOps W v ts) :
    Calls Try.prog 5 #[.int .i64 (cap : Int), v] W fun e w' => e = .returned (.bool true) ∧ Tch (fun _ => False) W w' := by
  obtain ⟨ao, vc, rfl, hn, hcell⟩ := hv
  obtain ⟨n, hnn⟩ : ∃ n, ts.length = n := ⟨_, rfl⟩
  rw [hnn] at hn ⊢
  unfold maxLen at hn
  have HNN : Hid (ts.length = n) := hnn
  have HC : Hid (ts ≠ [] → ∃ b o, ao = some ⟨b, o, none⟩ ∧ b < W.heap.size ∧ ∀ k t, ts[k]? = some t → W.cell? ⟨b, o + k * 3, none⟩ = some (.int .i64 t.kd) ∧ W.cell? ⟨b, o + k * 3 + 1, none⟩ = some (.int .i64 t.k) ∧ W.cell? ⟨b, o + k * 3 + 2, none⟩ = some (.int .i64 t.v)) := hcell
  have HN : Hid (∀ w, Calls Try.prog 8 #[.int .i64 (cap : Int)] w fun e w' => ∃ p, e = .returned (.tuple #[.pointer (some ⟨p, 0, none⟩), .int .i64 0]) ∧ (∃ K, CaK w' w.heap.size p K cap (List.replicate ((cap + 1) / 2) []) 0 0 0 0) ∧ Tch (fun _ => False) w w') := cnew_c cap h64
  have HP : Hid (∀ N p K ss h m w e1 e2, CaK w N p K cap ss h m 0 0 → Calls Try.prog 11 #[.pointer (some ⟨p, 0, none⟩), .int .i64 e1, .int .i64 e2] w fun e w' => e = .returned (.tuple #[.int .i64 (ptSS cap (e1, e2) ss).1.1, .int .i64 (ptSS cap (e1, e2) ss).1.2, .bool (ptSS cap (e1, e2) ss).2.1]) ∧ CaK w' N p K cap (ptSS cap (e1, e2) ss).2.2 h m 0 0 ∧ TC N w w') := fun N p K ss h m w e1 e2 H => cput_c H e1 e2
  have HG : Hid (∀ N p K ss h m w key, CaK w N p K cap ss h m 0 0 → Calls Try.prog 14 #[.pointer (some ⟨p, 0, none⟩), .int .i64 key] w fun e w' => e = .returned (.tuple #[.int .i64 (fdSS key ss).1, .bool (fdSS key ss).2.1]) ∧ (∃ h' m', CaK w' N p K cap (fdSS key ss).2.2 h' m' 0 0) ∧ TC N w w') := fun N p K ss h m w key H => (cget_c H key).mono fun e w' ⟨a, b, c⟩ => ⟨a, ⟨_, _, b⟩, c⟩
  have HL : Hid (∀ N p K ss h m w, CaK w N p K cap ss h m 0 0 → Calls Try.prog 16 #[.pointer (some ⟨p, 0, none⟩)] w fun e w' => e = .returned (.tuple #[]) ∧ CaK w' N p K cap (List.replicate ss.length []) h m 0 0 ∧ TC N w w') := fun N p K ss h m w H => cclear_c H
  clear hnn hcell h64
  go_enter Try.func5, Try.ntmps5
  go_wp2_with (first
    | (go_at_call 7; refine (awake_c _).mono ?_; rintro e w1 ⟨rfl, t1⟩; have T1 : Hid (Tch (fun _ => False) W w1) := t1; clear t1)
    | (go_at_call 8; refine (HN.out _).mono ?_; rintro e w2 ⟨p, rfl, ⟨K, h2⟩, t2⟩; have C2 : Hid (CaK w2 w1.heap.size p K cap (List.replicate ((cap + 1) / 2) []) 0 0 0 0) := h2; have T2 : Hid (Tch (fun _ => False) W w2) := T1.out.trans t2 (fun _ _ x => x); have hN : Hid (W.heap.size ≤ w1.heap.size) := T1.out.size; clear h2 t2 HN T1))
  obtain ⟨N, hNe⟩ : ∃ N, w1.heap.size = N := ⟨_, rfl⟩
  rw [hNe] at C2 hN
  clear hNe
  go_loopw [7] (fun iv wr => ∃ (i : Nat) (ss : List (List (Int × Int))) (h m : Int), iv = .int .i64 i ∧ i ≤ n ∧ Hid (CaK wr N p K cap ss h m 0 0) ∧ Hid (InvC cap ss) ∧ Hid (LkI ts i ss) ∧ Hid (Tch (fun _ => False) W wr)) (fun iv _ => n - (intOf iv).toNat)
  case atStart => exact ⟨0, _, 0, 0, rfl, Nat.zero_le _, C2, InvC.new cap, LkI.clear, T2⟩
  case round =>
    obtain ⟨i, ss, h, m, rfl, hi, CR, IR, LR, TR⟩ := hrel
    obtain ⟨wo, rfl⟩ : ∃ wo, wo = wr := ⟨_, rfl⟩
    by_cases hlt : i < n
    · have hlq : i < ts.length := by rw [HNN.out]; exact hlt
      obtain ⟨t, ht⟩ : ∃ t, ts[i]? = some t := ⟨_, List.getElem?_eq_getElem hlq⟩
      obtain ⟨b, ob, rfl, hbl, hcl⟩ := HC.out (by rintro rfl; simp at hlq)
      have HCL : Hid (∀ k t, ts[k]? = some t → ∀ w, Tch (fun _ => False) W w → w.cell? ⟨b, ob + k * 3, none⟩ = some (.int .i64 t.kd) ∧ w.cell? ⟨b, ob + k * 3 + 1, none⟩ = some (.int .i64 t.k) ∧ w.cell? ⟨b, ob + k * 3 + 2, none⟩ = some (.int .i64 t.v)) := fun k t hk w hw => by
        obtain ⟨a1, a2, a3⟩ := hcl k t hk
        have e := hw.blk b hbl (fun x => x)
        exact ⟨(World.cell?_of_block (a := ⟨b, ob + k * 3, none⟩) e).trans a1, (World.cell?_of_block (a := ⟨b, ob + k * 3 + 1, none⟩) e).trans a2, (World.cell?_of_block (a := ⟨b, ob + k * 3 + 2, none⟩) e).trans a3⟩
      obtain ⟨a1, a2, a3⟩ := HCL.out i t ht _ TR.out
      have HTI : Hid (ts[i]? = some t) := ht
      have CA : Hid (CaK (wo.alloc (.cells #[.int .i64 t.kd, .int .i64 t.k, .int .i64 t.v] 33)) N p K cap ss h m 0 0) := CR.out.store (Sk.tch CR.out.st ((Tch.refl _ wo).alloc _)) (TK.of0 ((Tch.refl _ wo).alloc _))
      have TA : Hid (Tch (fun _ => False) W (wo.alloc (.cells #[.int .i64 t.kd, .int .i64 t.k, .int .i64 t.v] 33))) := TR.out.alloc _
      obtain ⟨kd, hkd⟩ : ∃ kd, kd = t.kd := ⟨_, rfl⟩
      obtain ⟨ky, hky⟩ : ∃ ky, ky = t.k := ⟨_, rfl⟩
      obtain ⟨vl, hvl⟩ : ∃ vl, vl = t.v := ⟨_, rfl⟩
      rw [← hkd, ← hky, ← hvl] at CA TA
      rw [← hkd] at a1
      rw [← hky] at a2
      rw [← hvl] at a3
      have dA : (wo.alloc (.cells #[.int .i64 kd, .int .i64 ky, .int .i64 vl] 33)).heap[wo.heap.size]? = some (.cells #[.int .i64 kd, .int .i64 ky, .int .i64 vl] 33 (0, 0)) := halloc1 _ _
      have DA : Hid ((wo.alloc (.cells #[.int .i64 kd, .int .i64 ky, .int .i64 vl] 33)).heap[wo.heap.size]? = some (.cells #[.int .i64 kd, .int .i64 ky, .int .i64 vl] 33 (0, 0))) := dA
      have HS : Hid (∃ s2, (kd = 2 → s2 = (ptSS cap (ky, vl) ss).2.2) ∧ (kd ≠ 2 → kd = 4 → s2 = List.replicate ss.length []) ∧ (kd ≠ 2 → kd ≠ 4 → s2 = ss) ∧ InvC cap s2 ∧ LkI ts (i + 1) s2) := by
        by_cases e2 : kd = 2
        · refine ⟨_, fun _ => rfl, fun h => absurd e2 h, fun h => absurd e2 h, IR.out.put _, ?_⟩
          rw [hky, hvl]; exact LR.out.put IR.out ht (by rw [← hkd]; exact e2)
        · by_cases e4 : kd = 4
          · exact ⟨_, fun h => absurd h e2, fun _ _ => rfl, fun _ h => absurd e4 h, IR.out.clear, LkI.clear⟩
          · exact ⟨_, fun h => absurd h e2, fun _ h => absurd h e4, fun _ _ => rfl, IR.out, LR.out.skip ht (by rw [← hkd]; exact e2)⟩
      obtain ⟨s2, S2a, S2b, S2c, I2, L2⟩ := HS.out
      have HS2a : Hid (kd = 2 → s2 = (ptSS cap (ky, vl) ss).2.2) := S2a
      have HS2b : Hid (kd ≠ 2 → kd = 4 → s2 = List.replicate ss.length []) := S2b
      have HS2c : Hid (kd ≠ 2 → kd ≠ 4 → s2 = ss) := S2c
      have HI2 : Hid (InvC cap s2) := I2
      have HL2 : Hid (LkI ts (i + 1) s2) := L2
      have HKY : Hid (ky = t.k) := hky
      clear hcl HS S2a S2b S2c I2 L2 CR TR dA IR LR ht hlq hkd hky hvl
      obtain ⟨fv, hfv⟩ : ∃ fv, (fdSS ky s2).1 = fv := ⟨_, rfl⟩
      obtain ⟨fb, hfb⟩ : ∃ fb, (fdSS ky s2).2.1 = fb := ⟨_, rfl⟩
      have HG2 : Hid (∀ w, CaK w N p K cap s2 h m 0 0 → Calls Try.prog 14 #[.pointer (some ⟨p, 0, none⟩), .int .i64 ky] w fun e w' => e = .returned (.tuple #[.int .i64 fv, .bool fb]) ∧ (∃ h' m', CaK w' N p K cap (fdSS ky s2).2.2 h' m' 0 0) ∧ TC N w w') := fun w H => by
        have := HG.out N p K s2 h m w ky H
        rw [hfv, hfb] at this; exact this
      have HF : Hid (fb = true → Ent s2 (ky, fv)) := fun e => by have := (fdSS_spec HI2.out ky).2.2.1 (by rw [hfb]; exact e); rw [hfv] at this; exact this
      have HI6 : Hid (InvC cap (fdSS ky s2).2.2) := (fdSS_spec HI2.out ky).1
      have HL6 : Hid (LkI ts (i + 1) (fdSS ky s2).2.2) := HL2.out.get HI2.out ky
      have HLL : Hid (fb = true → ∃ j : Nat, lstI ts ky (i + 1) = (j : Int) ∧ ∃ t, ts[j]? = some t ∧ t.v = fv) := fun e => HL2.out (ky, fv) (HF.out e)
      have HCP : Hid (fb = true → cap ≠ 0) := fun e => (HF.out e).cap HI2.out
      clear hfv hfb HF HG
      generalize (fdSS ky s2).2.2 = s6 at *
      by_cases e2 : kd = 2
      · have E2 : Hid (s2 = (ptSS cap (ky, vl) ss).2.2) := HS2a.out e2
        clear HS2a HS2b HS2c HL
        subst e2
        cases fb with
        | false =>
          go_wp2_with (first
            | (go_at_call 11; refine (HP.out N p K ss h m _ ky vl CA.out).mono ?_; rintro e w5 ⟨rfl, c5, t5⟩
               have C5 : Hid (CaK w5 N p K cap s2 h m 0 0) := (by rw [E2.out]; exact c5)
               have T5 : Hid (Tch (fun _ => False) W w5) := TC.step TA.out hN.out t5
               have d5 : w5.heap[wo.heap.size]? = some (.cells #[.int .i64 2, .int .i64 ky, .int .i64 vl] 33 (0, 0)) := (t5.kind DA.out (by rfl)).trans DA.out
               have D5 : Hid (w5.heap[wo.heap.size]? = some (.cells #[.int .i64 2, .int .i64 ky, .int .i64 vl] 33 (0, 0))) := d5
               have x0 : w5.cell? ⟨wo.heap.size, 0, none⟩ = some (.int .i64 2) := (cell_of_row w5 _ 0 _ _ _ d5).trans rfl
               have x1 : w5.cell? ⟨wo.heap.size, 1, none⟩ = some (.int .i64 ky) := (cell_of_row w5 _ 1 _ _ _ d5).trans rfl
               clear c5 t5 d5 HP CA TA DA E2)
            | (go_at_call 14; refine (HG2.out _ C5.out).mono ?_; rintro e w6 ⟨rfl, ⟨h6, m6, c6⟩, t6⟩
               have C6 : Hid (CaK w6 N p K cap s6 h6 m6 0 0) := c6
               have T6 : Hid (Tch (fun _ => False) W w6) := TC.step T5.out hN.out t6
               have d6 : w6.heap[wo.heap.size]? = some (.cells #[.int .i64 2, .int .i64 ky, .int .i64 vl] 33 (0, 0)) := (t6.kind D5.out (by rfl)).trans D5.out
               have D6 : Hid (w6.heap[wo.heap.size]? = some (.cells #[.int .i64 2, .int .i64 ky, .int .i64 vl] 33 (0, 0))) := d6
               clear c6 t6 d6 HG2 C5 T5 D5))
          clear HLL HCP
          go_roundw
          case rel => exact ⟨i + 1, s6, h6, m6, by go_num, by omega, C6, HI6, HL6, T6⟩
          case measure => simp [intOf]; omega
        | true =>
          obtain ⟨jx, hjx, tx, htx, hvx⟩ := HLL.out rfl
          have hcp : ¬ ((cap : Int) = 0) := by have := HCP.out rfl; omega
          have HJX : Hid (lstI ts ky (i + 1) = (jx : Int)) := hjx
          have HTX : Hid (ts[jx]? = some tx) := htx
          have HVX : Hid (tx.v = fv) := hvx
          clear HLL HCP hjx htx hvx
          go_wp2_with (first
            | (go_at_call 11; refine (HP.out N p K ss h m _ ky vl CA.out).mono ?_; rintro e w5 ⟨rfl, c5, t5⟩
               have C5 : Hid (CaK w5 N p K cap s2 h m 0 0) := (by rw [E2.out]; exact c5)
               have T5 : Hid (Tch (fun _ => False) W w5) := TC.step TA.out hN.out t5
               have d5 : w5.heap[wo.heap.size]? = some (.cells #[.int .i64 2, .int .i64 ky, .int .i64 vl] 33 (0, 0)) := (t5.kind DA.out (by rfl)).trans DA.out
               have D5 : Hid (w5.heap[wo.heap.size]? = some (.cells #[.int .i64 2, .int .i64 ky, .int .i64 vl] 33 (0, 0))) := d5
               have x0 : w5.cell? ⟨wo.heap.size, 0, none⟩ = some (.int .i64 2) := (cell_of_row w5 _ 0 _ _ _ d5).trans rfl
               have x1 : w5.cell? ⟨wo.heap.size, 1, none⟩ = some (.int .i64 ky) := (cell_of_row w5 _ 1 _ _ _ d5).trans rfl
               clear c5 t5 d5 HP CA TA DA E2)
            | (go_at_call 14; refine (HG2.out _ C5.out).mono ?_; rintro e w6 ⟨rfl, ⟨h6, m6, c6⟩, t6⟩
               have C6 : Hid (CaK w6 N p K cap s6 h6 m6 0 0) := c6
               have T6 : Hid (Tch (fun _ => False) W w6) := TC.step T5.out hN.out t6
               have d6 : w6.heap[wo.heap.size]? = some (.cells #[.int .i64 2, .int .i64 ky, .int .i64 vl] 33 (0, 0)) := (t6.kind D5.out (by rfl)).trans D5.out
               have D6 : Hid (w6.heap[wo.heap.size]? = some (.cells #[.int .i64 2, .int .i64 ky, .int .i64 vl] 33 (0, 0))) := d6
               clear c6 t6 d6 HG2 C5 T5 D5))
          obtain ⟨iq, hiq⟩ : ∃ iq : Nat, iq = i := ⟨_, rfl⟩
          go_loopw [11, 12] (fun lv jv wr => ∃ (j : Nat), jv = .int .i64 j ∧ j ≤ i + 1 ∧ Hid (lv = .int .i64 (lstI ts ky j)) ∧ Hid (Tch (fun _ => False) w6 wr)) (fun _ jv _ => i + 1 - (intOf jv).toNat)
          case atStart => exact ⟨0, rfl, Nat.zero_le _, rfl, Tch.refl _ _⟩
          case round =>
            obtain ⟨j, rfl, hj, HLV, TZ⟩ := hrel
            obtain ⟨wz, rfl⟩ : ∃ wz, wz = wr := ⟨_, rfl⟩
            obtain rfl := HLV.out
            have TWZ : Hid (Tch (fun _ => False) W wz) := T6.out.trans TZ.out (fun _ _ x => x)
            by_cases hle : j ≤ i
            · obtain ⟨tj, htj⟩ : ∃ tj, ts[j]? = some tj := ⟨_, List.getElem?_eq_getElem (by rw [HNN.out]; omega)⟩
              obtain ⟨y1, y2, y3⟩ := HCL.out j tj htj _ TWZ.out
              have dz : wz.heap[wo.heap.size]? = some (.cells #[.int .i64 2, .int .i64 ky, .int .i64 vl] 33 (0, 0)) := (TZ.out.blk wo.heap.size (Array.getElem?_eq_some_iff.1 D6.out).1 (fun x => x)).trans D6.out
              have z1 : wz.cell? ⟨wo.heap.size, 1, none⟩ = some (.int .i64 ky) := (cell_of_row wz _ 1 _ _ _ dz).trans rfl
              clear dz y3
              by_cases u1 : tj.kd = 2
              · by_cases u2 : tj.k = ky
                · have HJ : Hid (lstI ts ky (j + 1) = (j : Int)) := by rw [Hid, ← u2]; exact lstI_yes htj u1
                  rw [u1] at y1
                  rw [u2] at y2
                  clear u1 u2 htj
                  go_wp2
                  go_region
                  all_goals go_wp2
                  all_goals go_roundw
                  all_goals first
                    | exact ⟨j + 1, by go_num, by omega, by rw [Hid, HJ.out], TZ.out.drew⟩
                    | (simp [intOf]; omega)
                · have HJ : Hid (lstI ts ky (j + 1) = lstI ts ky j) := lstI_no htj (fun e => u2 e.2)
                  rw [u1] at y1
                  obtain ⟨kj, hkj⟩ : ∃ kj, kj = tj.k := ⟨_, rfl⟩
                  rw [← hkj] at y2 u2
                  have u3 : (kj == ky) = false := by simpa using u2
                  generalize lstI ts ky j = LJ at *
                  clear u1 htj hkj
                  go_wp2
                  go_region
                  all_goals go_wp2
                  all_goals go_roundw
                  all_goals first
                    | exact ⟨j + 1, by go_num, by omega, by rw [Hid, HJ.out], TZ.out.drew⟩
                    | (simp [intOf]; omega)
              · have HJ : Hid (lstI ts ky (j + 1) = lstI ts ky j) := lstI_no htj (fun e => u1 e.1)
                obtain ⟨kj, hkj⟩ : ∃ kj, kj = tj.kd := ⟨_, rfl⟩
                rw [← hkj] at y1 u1
                have u3 : (kj == 2) = false := by simpa using u1
                generalize lstI ts ky j = LJ at *
                clear htj hkj
                go_wp2
                go_region
                all_goals go_wp2
                all_goals go_roundw
                all_goals first
                  | exact ⟨j + 1, by go_num, by omega, by rw [Hid, HJ.out], TZ.out.drew⟩
                  | (simp [intOf]; omega)
            · obtain rfl : j = i + 1 := by omega
              obtain ⟨_, _, y3⟩ := HCL.out jx tx HTX.out _ TWZ.out
              rw [HVX.out] at y3
              rw [HJX.out]
              have hjn : jx < n := by rw [← HNN.out]; exact (List.getElem?_eq_some_iff.1 HTX.out).1
              have hj0 : ¬ ((jx : Int) < 0) := by omega
              have hcb : ((cap : Int) == 0) = false := by simpa using hcp
              have CZ : Hid (CaK wz N p K cap s6 h6 m6 0 0) := C6.out.store (Sk.tch C6.out.st TZ.out) (TK.of0 TZ.out)
              go_wp2
              go_roundw
              case rel => exact ⟨i + 1, s6, h6, m6, by go_num, by omega, CZ, HI6, HL6, TWZ⟩
              case measure => simp [intOf]; omega
      · by_cases e4 : kd = 4
        · have E2 : Hid (s2 = List.replicate ss.length []) := HS2b.out e2 e4
          clear HS2a HS2b HS2c HP e2
          subst e4
          cases fb with
          | false =>
            go_wp2_with (first
              | (go_at_call 16; refine (HL.out N p K ss h m _ CA.out).mono ?_; rintro e w5 ⟨rfl, c5, t5⟩
                 have C5 : Hid (CaK w5 N p K cap s2 h m 0 0) := (by rw [E2.out]; exact c5)
                 have T5 : Hid (Tch (fun _ => False) W w5) := TC.step TA.out hN.out t5
                 have d5 : w5.heap[wo.heap.size]? = some (.cells #[.int .i64 4, .int .i64 ky, .int .i64 vl] 33 (0, 0)) := (t5.kind DA.out (by rfl)).trans DA.out
                 have D5 : Hid (w5.heap[wo.heap.size]? = some (.cells #[.int .i64 4, .int .i64 ky, .int .i64 vl] 33 (0, 0))) := d5
                 have x1 : w5.cell? ⟨wo.heap.size, 1, none⟩ = some (.int .i64 ky) := (cell_of_row w5 _ 1 _ _ _ d5).trans rfl
                 clear c5 t5 d5 HL CA TA DA E2)
              | (go_at_call 14; refine (HG2.out _ C5.out).mono ?_; rintro e w6 ⟨rfl, ⟨h6, m6, c6⟩, t6⟩
                 have C6 : Hid (CaK w6 N p K cap s6 h6 m6 0 0) := c6
                 have T6 : Hid (Tch (fun _ => False) W w6) := TC.step T5.out hN.out t6
                 have d6 : w6.heap[wo.heap.size]? = some (.cells #[.int .i64 4, .int .i64 ky, .int .i64 vl] 33 (0, 0)) := (t6.kind D5.out (by rfl)).trans D5.out
                 have D6 : Hid (w6.heap[wo.heap.size]? = some (.cells #[.int .i64 4, .int .i64 ky, .int .i64 vl] 33 (0, 0))) := d6
                 clear c6 t6 d6 HG2 C5 T5 D5))
            clear HLL HCP
            go_roundw
            case rel => exact ⟨i + 1, s6, h6, m6, by go_num, by omega, C6, HI6, HL6, T6⟩
            case measure => simp [intOf]; omega
          | true =>
            obtain ⟨jx, hjx, tx, htx, hvx⟩ := HLL.out rfl
            have hcp : ¬ ((cap : Int) = 0) := by have := HCP.out rfl; omega
            have HJX : Hid (lstI ts ky (i + 1) = (jx : Int)) := hjx
            have HTX : Hid (ts[jx]? = some tx) := htx
            have HVX : Hid (tx.v = fv) := hvx
            clear HLL HCP hjx htx hvx
            go_wp2_with (first
              | (go_at_call 16; refine (HL.out N p K ss h m _ CA.out).mono ?_; rintro e w5 ⟨rfl, c5, t5⟩
                 have C5 : Hid (CaK w5 N p K cap s2 h m 0 0) := (by rw [E2.out]; exact c5)
                 have T5 : Hid (Tch (fun _ => False) W w5) := TC.step TA.out hN.out t5
                 have d5 : w5.heap[wo.heap.size]? = some (.cells #[.int .i64 4, .int .i64 ky, .int .i64 vl] 33 (0, 0)) := (t5.kind DA.out (by rfl)).trans DA.out
                 have D5 : Hid (w5.heap[wo.heap.size]? = some (.cells #[.int .i64 4, .int .i64 ky, .int .i64 vl] 33 (0, 0))) := d5
                 have x1 : w5.cell? ⟨wo.heap.size, 1, none⟩ = some (.int .i64 ky) := (cell_of_row w5 _ 1 _ _ _ d5).trans rfl
                 clear c5 t5 d5 HL CA TA DA E2)
              | (go_at_call 14; refine (HG2.out _ C5.out).mono ?_; rintro e w6 ⟨rfl, ⟨h6, m6, c6⟩, t6⟩
                 have C6 : Hid (CaK w6 N p K cap s6 h6 m6 0 0) := c6
                 have T6 : Hid (Tch (fun _ => False) W w6) := TC.step T5.out hN.out t6
                 have d6 : w6.heap[wo.heap.size]? = some (.cells #[.int .i64 4, .int .i64 ky, .int .i64 vl] 33 (0, 0)) := (t6.kind D5.out (by rfl)).trans D5.out
                 have D6 : Hid (w6.heap[wo.heap.size]? = some (.cells #[.int .i64 4, .int .i64 ky, .int .i64 vl] 33 (0, 0))) := d6
                 clear c6 t6 d6 HG2 C5 T5 D5))
            obtain ⟨iq, hiq⟩ : ∃ iq : Nat, iq = i := ⟨_, rfl⟩
            go_loopw [11, 12] (fun lv jv wr => ∃ (j : Nat), jv = .int .i64 j ∧ j ≤ i + 1 ∧ Hid (lv = .int .i64 (lstI ts ky j)) ∧ Hid (Tch (fun _ => False) w6 wr)) (fun _ jv _ => i + 1 - (intOf jv).toNat)
            case atStart => exact ⟨0, rfl, Nat.zero_le _, rfl, Tch.refl _ _⟩
            case round =>
              obtain ⟨j, rfl, hj, HLV, TZ⟩ := hrel
              obtain ⟨wz, rfl⟩ : ∃ wz, wz = wr := ⟨_, rfl⟩
              obtain rfl := HLV.out
              have TWZ : Hid (Tch (fun _ => False) W wz) := T6.out.trans TZ.out (fun _ _ x => x)
              by_cases hle : j ≤ i
              · obtain ⟨tj, htj⟩ : ∃ tj, ts[j]? = some tj := ⟨_, List.getElem?_eq_getElem (by rw [HNN.out]; omega)⟩
                obtain ⟨y1, y2, y3⟩ := HCL.out j tj htj _ TWZ.out
                have dz : wz.heap[wo.heap.size]? = some (.cells #[.int .i64 4, .int .i64 ky, .int .i64 vl] 33 (0, 0)) := (TZ.out.blk wo.heap.size (Array.getElem?_eq_some_iff.1 D6.out).1 (fun x => x)).trans D6.out
                have z1 : wz.cell? ⟨wo.heap.size, 1, none⟩ = some (.int .i64 ky) := (cell_of_row wz _ 1 _ _ _ dz).trans rfl
                clear dz y3
                by_cases u1 : tj.kd = 2
                · by_cases u2 : tj.k = ky
                  · have HJ : Hid (lstI ts ky (j + 1) = (j : Int)) := by rw [Hid, ← u2]; exact lstI_yes htj u1
                    rw [u1] at y1
                    rw [u2] at y2
                    clear u1 u2 htj
                    go_wp2
                    go_region
                    all_goals go_wp2
                    all_goals go_roundw
                    all_goals first
                      | exact ⟨j + 1, by go_num, by omega, by rw [Hid, HJ.out], TZ.out.drew⟩
                      | (simp [intOf]; omega)
                  · have HJ : Hid (lstI ts ky (j + 1) = lstI ts ky j) := lstI_no htj (fun e => u2 e.2)
                    rw [u1] at y1
                    obtain ⟨kj, hkj⟩ : ∃ kj, kj = tj.k := ⟨_, rfl⟩
                    rw [← hkj] at y2 u2
                    have u3 : (kj == ky) = false := by simpa using u2
                    generalize lstI ts ky j = LJ at *
                    clear u1 htj hkj
                    go_wp2
                    go_region
                    all_goals go_wp2
                    all_goals go_roundw
                    all_goals first
                      | exact ⟨j + 1, by go_num, by omega, by rw [Hid, HJ.out], TZ.out.drew⟩
                      | (simp [intOf]; omega)
                · have HJ : Hid (lstI ts ky (j + 1) = lstI ts ky j) := lstI_no htj (fun e => u1 e.1)
                  obtain ⟨kj, hkj⟩ : ∃ kj, kj = tj.kd := ⟨_, rfl⟩
                  rw [← hkj] at y1 u1
                  have u3 : (kj == 2) = false := by simpa using u1
                  generalize lstI ts ky j = LJ at *
                  clear htj hkj
                  go_wp2
                  go_region
                  all_goals go_wp2
                  all_goals go_roundw
                  all_goals first
                    | exact ⟨j + 1, by go_num, by omega, by rw [Hid, HJ.out], TZ.out.drew⟩
                    | (simp [intOf]; omega)
              · obtain rfl : j = i + 1 := by omega
                obtain ⟨_, _, y3⟩ := HCL.out jx tx HTX.out _ TWZ.out
                rw [HVX.out] at y3
                rw [HJX.out]
                have hjn : jx < n := by rw [← HNN.out]; exact (List.getElem?_eq_some_iff.1 HTX.out).1
                have hj0 : ¬ ((jx : Int) < 0) := by omega
                have hcb : ((cap : Int) == 0) = false := by simpa using hcp
                have CZ : Hid (CaK wz N p K cap s6 h6 m6 0 0) := C6.out.store (Sk.tch C6.out.st TZ.out) (TK.of0 TZ.out)
                go_wp2
                go_roundw
                case rel => exact ⟨i + 1, s6, h6, m6, by go_num, by omega, CZ, HI6, HL6, TWZ⟩
                case measure => simp [intOf]; omega
        · have E2 : Hid (s2 = ss) := HS2c.out e2 e4
          have C5 : Hid (CaK (wo.alloc (.cells #[.int .i64 kd, .int .i64 ky, .int .i64 vl] 33)) N p K cap s2 h m 0 0) := by rw [E2.out]; exact CA
          have T5 : Hid (Tch (fun _ => False) W (wo.alloc (.cells #[.int .i64 kd, .int .i64 ky, .int .i64 vl] 33))) := TA
          have D5 : Hid ((wo.alloc (.cells #[.int .i64 kd, .int .i64 ky, .int .i64 vl] 33)).heap[wo.heap.size]? = some (.cells #[.int .i64 kd, .int .i64 ky, .int .i64 vl] 33 (0, 0))) := DA
          clear HS2a HS2b HS2c HP HL CA TA DA E2
          cases fb with
          | false =>
            go_wp2_with (first
              | (go_at_call 14; refine (HG2.out _ C5.out).mono ?_; rintro e w6 ⟨rfl, ⟨h6, m6, c6⟩, t6⟩
                 have C6 : Hid (CaK w6 N p K cap s6 h6 m6 0 0) := c6
                 have T6 : Hid (Tch (fun _ => False) W w6) := TC.step T5.out hN.out t6
                 have d6 : w6.heap[wo.heap.size]? = some (.cells #[.int .i64 kd, .int .i64 ky, .int .i64 vl] 33 (0, 0)) := (t6.kind D5.out (by rfl)).trans D5.out
                 have D6 : Hid (w6.heap[wo.heap.size]? = some (.cells #[.int .i64 kd, .int .i64 ky, .int .i64 vl] 33 (0, 0))) := d6
                 clear c6 t6 d6 HG2 C5 T5 D5))
            clear HLL HCP
            go_roundw
            case rel => exact ⟨i + 1, s6, h6, m6, by go_num, by omega, C6, HI6, HL6, T6⟩
            case measure => simp [intOf]; omega
          | true =>
            obtain ⟨jx, hjx, tx, htx, hvx⟩ := HLL.out rfl
            have hcp : ¬ ((cap : Int) = 0) := by have := HCP.out rfl; omega
            have HJX : Hid (lstI ts ky (i + 1) = (jx : Int)) := hjx
            have HTX : Hid (ts[jx]? = some tx) := htx
            have HVX : Hid (tx.v = fv) := hvx
            clear HLL HCP hjx htx hvx
            go_wp2_with (first
              | (go_at_call 14; refine (HG2.out _ C5.out).mono ?_; rintro e w6 ⟨rfl, ⟨h6, m6, c6⟩, t6⟩
                 have C6 : Hid (CaK w6 N p K cap s6 h6 m6 0 0) := c6
                 have T6 : Hid (Tch (fun _ => False) W w6) := TC.step T5.out hN.out t6
                 have d6 : w6.heap[wo.heap.size]? = some (.cells #[.int .i64 kd, .int .i64 ky, .int .i64 vl] 33 (0, 0)) := (t6.kind D5.out (by rfl)).trans D5.out
                 have D6 : Hid (w6.heap[wo.heap.size]? = some (.cells #[.int .i64 kd, .int .i64 ky, .int .i64 vl] 33 (0, 0))) := d6
                 clear c6 t6 d6 HG2 C5 T5 D5))
            obtain ⟨iq, hiq⟩ : ∃ iq : Nat, iq = i := ⟨_, rfl⟩
            go_loopw [11, 12] (fun lv jv wr => ∃ (j : Nat), jv = .int .i64 j ∧ j ≤ i + 1 ∧ Hid (lv = .int .i64 (lstI ts ky j)) ∧ Hid (Tch (fun _ => False) w6 wr)) (fun _ jv _ => i + 1 - (intOf jv).toNat)
            case atStart => exact ⟨0, rfl, Nat.zero_le _, rfl, Tch.refl _ _⟩
            case round =>
              obtain ⟨j, rfl, hj, HLV, TZ⟩ := hrel
              obtain ⟨wz, rfl⟩ : ∃ wz, wz = wr := ⟨_, rfl⟩
              obtain rfl := HLV.out
              have TWZ : Hid (Tch (fun _ => False) W wz) := T6.out.trans TZ.out (fun _ _ x => x)
              by_cases hle : j ≤ i
              · obtain ⟨tj, htj⟩ : ∃ tj, ts[j]? = some tj := ⟨_, List.getElem?_eq_getElem (by rw [HNN.out]; omega)⟩
                obtain ⟨y1, y2, y3⟩ := HCL.out j tj htj _ TWZ.out
                have dz : wz.heap[wo.heap.size]? = some (.cells #[.int .i64 kd, .int .i64 ky, .int .i64 vl] 33 (0, 0)) := (TZ.out.blk wo.heap.size (Array.getElem?_eq_some_iff.1 D6.out).1 (fun x => x)).trans D6.out
                have z1 : wz.cell? ⟨wo.heap.size, 1, none⟩ = some (.int .i64 ky) := (cell_of_row wz _ 1 _ _ _ dz).trans rfl
                clear dz y3
                by_cases u1 : tj.kd = 2
                · by_cases u2 : tj.k = ky
                  · have HJ : Hid (lstI ts ky (j + 1) = (j : Int)) := by rw [Hid, ← u2]; exact lstI_yes htj u1
                    rw [u1] at y1
                    rw [u2] at y2
                    clear u1 u2 htj
                    go_wp2
                    go_region
                    all_goals go_wp2
                    all_goals go_roundw
                    all_goals first
                      | exact ⟨j + 1, by go_num, by omega, by rw [Hid, HJ.out], TZ.out.drew⟩
                      | (simp [intOf]; omega)
                  · have HJ : Hid (lstI ts ky (j + 1) = lstI ts ky j) := lstI_no htj (fun e => u2 e.2)
                    rw [u1] at y1
                    obtain ⟨kj, hkj⟩ : ∃ kj, kj = tj.k := ⟨_, rfl⟩
                    rw [← hkj] at y2 u2
                    have u3 : (kj == ky) = false := by simpa using u2
                    generalize lstI ts ky j = LJ at *
                    clear u1 htj hkj
                    go_wp2
                    go_region
                    all_goals go_wp2
                    all_goals go_roundw
                    all_goals first
                      | exact ⟨j + 1, by go_num, by omega, by rw [Hid, HJ.out], TZ.out.drew⟩
                      | (simp [intOf]; omega)
                · have HJ : Hid (lstI ts ky (j + 1) = lstI ts ky j) := lstI_no htj (fun e => u1 e.1)
                  obtain ⟨kj, hkj⟩ : ∃ kj, kj = tj.kd := ⟨_, rfl⟩
                  rw [← hkj] at y1 u1
                  have u3 : (kj == 2) = false := by simpa using u1
                  generalize lstI ts ky j = LJ at *
                  clear htj hkj
                  go_wp2
                  go_region
                  all_goals go_wp2
                  all_goals go_roundw
                  all_goals first
                    | exact ⟨j + 1, by go_num, by omega, by rw [Hid, HJ.out], TZ.out.drew⟩
                    | (simp [intOf]; omega)
              · obtain rfl : j = i + 1 := by omega
                obtain ⟨_, _, y3⟩ := HCL.out jx tx HTX.out _ TWZ.out
                rw [HVX.out] at y3
                rw [HJX.out]
                have hjn : jx < n := by rw [← HNN.out]; exact (List.getElem?_eq_some_iff.1 HTX.out).1
                have hj0 : ¬ ((jx : Int) < 0) := by omega
                have hcb : ((cap : Int) == 0) = false := by simpa using hcp
                have CZ : Hid (CaK wz N p K cap s6 h6 m6 0 0) := C6.out.store (Sk.tch C6.out.st TZ.out) (TK.of0 TZ.out)
                go_wp2
                go_roundw
                case rel => exact ⟨i + 1, s6, h6, m6, by go_num, by omega, CZ, HI6, HL6, TWZ⟩
                case measure => simp [intOf]; omega
    · obtain rfl : i = n := by omega
      clear HC HP HG HL
      go_wp2
      go_ret
      exact ⟨rfl, TR.out⟩
set_option maxRecDepth 100000 in
theorem CacheLike_any (n : Int) (v : Value) (ts : List OpI) (W : World) (hv : IsOps W v ts) :
    Calls Try.prog 5 #[.int .i64 n, v] W fun e w' => e = .returned (.bool true) ∧ Below W.heap.size W w' := by
  by_cases hr : 0 ≤ n ∧ n ≤ 64
  · obtain ⟨cap, rfl⟩ : ∃ cap : Nat, n = (cap : Int) := ⟨n.toNat, by omega⟩
    exact (CacheLike_in cap (by omega) v ts W hv).mono fun e w' ⟨a, b⟩ => ⟨a, b.bel0⟩
  · have HN : Hid (∀ w, Calls Try.prog 8 #[.int .i64 n] w fun e w' => e = .returned (.tuple #[.pointer none, .int .i64 7]) ∧ w' = w) := cnew_no n (by omega)
    clear hr hv
    go_enter Try.func5, Try.ntmps5
    go_wp2_with (first
      | (go_at_call 7; refine (awake_c _).mono ?_; rintro e w1 ⟨rfl, t1⟩; have T1 : Hid (Tch (fun _ => False) W w1) := t1; clear t1)
      | (go_at_call 8; refine (HN.out _).mono ?_; rintro e w2 ⟨rfl, hw⟩; obtain rfl := hw.symm; clear HN))
    go_ret
    exact ⟨rfl, T1.out.bel0⟩
end Go.Proofs.Ytdjmjdlolhfejaa
