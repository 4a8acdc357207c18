/- CacheRoom: room, keys, what is dropped. -/
import Derived.Test.YtllommealfchfaaKaU
namespace Go.Proofs.Ytllommealfchfaa
open Go.RowKit Go.Maps

/-- hits and misses behind i rounds -/
def HmI (cap i : Nat) (h m : Int) : Prop := h = (if 0 < cap then (i : Int) else 0) ∧ m = (if 0 < cap then 0 else (i : Int))
theorem HmI.next {cap i : Nat} {h m : Int} {fb : Bool} (H : HmI cap i h m) (hf : fb = decide (0 < cap)) (hi : i < 9223372036854775807) : HmI cap (i + 1) (if fb then wrap64 (h + 1) else h) (if fb then m else wrap64 (m + 1)) := by
  obtain ⟨rfl, rfl⟩ := H
  subst hf
  by_cases hc : 0 < cap
  · simp only [hc, decide_true, if_true, HmI]
    refine ⟨?_, trivial⟩
    unfold wrap64; omega
  · simp only [hc, decide_false, if_false, HmI, Bool.false_eq_true]
    refine ⟨trivial, ?_⟩
    unfold wrap64; omega
theorem nodup_at {kl : List Int} (h : kl.Nodup) {a b : Nat} {x y : Int} (ha : kl[a]? = some x) (hb : kl[b]? = some y) (hab : b < a) : x ≠ y := by
  rintro rfl
  obtain ⟨h1, h2⟩ := List.getElem?_eq_some_iff.1 ha
  obtain ⟨h3, h4⟩ := List.getElem?_eq_some_iff.1 hb
  have := List.pairwise_iff_getElem.1 h b a h3 h1 hab
  exact this (h4.trans h2.symm)
set_option maxRecDepth 100000 in
set_option maxHeartbeats 16000000 in
theorem CacheRoom_pos (cap : Nat) (hcpos : 0 < cap) (h64 : cap ≤ 64) (v : Value) (ts : List Int) (W : World) (hv : IsInts W v ts) :
    Calls Try.prog 4 #[.int .i64 (cap : Int), v] W fun e w' => e = .returned (.bool true) ∧ Tch (fun _ => False) W w' := by
  obtain ⟨ao, vc, rfl, hn, hcell⟩ := hv
  obtain ⟨n, hnn⟩ : ∃ n, ts.length = n := ⟨_, rfl⟩
  rw [hnn] at hn ⊢
  unfold maxLen at hn
  have HNN : Hid (ts.length = n) := hnn
  have HC : Hid (ts ≠ [] → ∃ b o, ao = some ⟨b, o, none⟩ ∧ b < W.heap.size ∧ ∀ k t, ts[k]? = some t → W.cell? ⟨b, o + k, none⟩ = some (.int .i64 t)) := hcell
  have HN : Hid (∀ w, Calls Try.prog 8 #[.int .i64 (cap : Int)] w fun e w' => ∃ p, e = .returned (.tuple #[.pointer (some ⟨p, 0, none⟩), .int .i64 0]) ∧ (∃ K, CaK w' w.heap.size p K cap (List.replicate ((cap + 1) / 2) []) 0 0 0 0) ∧ Tch (fun _ => False) w w') := cnew_c cap h64
  have HH : Hid (∀ N p K ss h m w, CaK w N p K cap ss h m 0 0 → Calls Try.prog 15 #[.pointer (some ⟨p, 0, none⟩)] w fun e w' => e = .returned (.tuple #[.int .i64 h, .int .i64 m]) ∧ TC N w w') := fun N p K ss h m w H => (chits_c H).mono fun e w' ⟨a, _, c⟩ => ⟨a, c⟩
  clear hnn hcell
  go_enter Try.func4, Try.ntmps4
  go_wp2_with (first
    | (go_at_call 7; refine (awake_c _).mono ?_; rintro e w1 ⟨rfl, t1⟩; have T1 : Hid (Tch (fun _ => False) W w1) := t1; clear t1)
    | (go_at_call 8; refine (HN.out _).mono ?_; rintro e w2 ⟨p, rfl, ⟨K, h2⟩, t2⟩; have C2 : Hid (CaK w2 w1.heap.size p K cap (List.replicate ((cap + 1) / 2) []) 0 0 0 0) := h2; have T2 : Hid (Tch (fun _ => False) W w2) := T1.out.trans t2 (fun _ _ x => x); have hN : Hid (W.heap.size ≤ w1.heap.size) := T1.out.size; clear h2 t2 HN T1))
  obtain ⟨N, hNe⟩ : ∃ N, w1.heap.size = N := ⟨_, rfl⟩
  rw [hNe] at C2 hN
  clear hNe
  go_loopw [7] (fun iv wr => ∃ (i : Nat) (ss : List (List (Int × Int))) (h m : Int), iv = .int .i64 i ∧ i ≤ n ∧ Hid (CaK wr N p K cap ss h m 0 0) ∧ Hid (InvC cap ss) ∧ Hid (RmI ts i ss) ∧ Hid (HmI cap i h m) ∧ Hid (Tch (fun _ => False) W wr)) (fun iv _ => n - (intOf iv).toNat)
  case atStart => exact ⟨0, _, 0, 0, rfl, Nat.zero_le _, C2, InvC.new cap, fun _ hx => (Ent.new hx).elim, ⟨by split <;> rfl, by split <;> rfl⟩, T2⟩
  case round =>
    obtain ⟨i, ss, h, m, rfl, hi, CR, IR, RR, MR, TR⟩ := hrel
    obtain ⟨wo, rfl⟩ : ∃ wo, wo = wr := ⟨_, rfl⟩
    by_cases hlt : i < n
    · have hlq : i < ts.length := by rw [HNN.out]; exact hlt
      obtain ⟨ky, hky⟩ : ∃ t, ts[i]? = some t := ⟨_, List.getElem?_eq_getElem hlq⟩
      obtain ⟨b, ob, rfl, hbl, hcl⟩ := HC.out (by rintro rfl; simp at hlq)
      have HCL : Hid (∀ k t, ts[k]? = some t → ∀ w, Tch (fun _ => False) W w → w.cell? ⟨b, ob + k, none⟩ = some (.int .i64 t)) := fun k t hk w hw => (World.cell?_of_block (a := ⟨b, ob + k, none⟩) (hw.blk b hbl (fun x => x))).trans (hcl k t hk)
      have a1 := HCL.out i ky hky _ TR.out
      have HKY : Hid (ts[i]? = some ky) := hky
      have RD := round_f IR.out RR.out hky
      have HP2 : Hid (Calls Try.prog 11 #[.pointer (some ⟨p, 0, none⟩), .int .i64 ky, .int .i64 (i : Int)] wo fun e w' => e = .returned (.tuple #[.int .i64 (ptSS cap (ky, (i : Int)) ss).1.1, .int .i64 (ptSS cap (ky, (i : Int)) ss).1.2, .bool (ptSS cap (ky, (i : Int)) ss).2.1]) ∧ CaK w' N p K cap (ptSS cap (ky, (i : Int)) ss).2.2 h m 0 0 ∧ TC N wo w') := cput_c CR.out ky i
      generalize (ptSS cap (ky, (i : Int)) ss).1.1 = z1 at RD HP2
      generalize (ptSS cap (ky, (i : Int)) ss).1.2 = z2 at RD HP2
      generalize (ptSS cap (ky, (i : Int)) ss).2.1 = zb at RD HP2
      generalize (ptSS cap (ky, (i : Int)) ss).2.2 = s1 at RD HP2
      have HG2 : Hid (∀ w, CaK w N p K cap s1 h m 0 0 → Calls Try.prog 14 #[.pointer (some ⟨p, 0, none⟩), .int .i64 ky] w fun e w' => e = .returned (.tuple #[.int .i64 (fdSS ky s1).1, .bool (fdSS ky s1).2.1]) ∧ CaK w' N p K cap (fdSS ky s1).2.2 (if (fdSS ky s1).2.1 then wrap64 (h + 1) else h) (if (fdSS ky s1).2.1 then m else wrap64 (m + 1)) 0 0 ∧ TC N w w') := fun w H => cget_c H ky
      generalize (fdSS ky s1).1 = fv at RD HG2
      generalize (fdSS ky s1).2.1 = fb at RD HG2
      generalize (fdSS ky s1).2.2 = s2 at RD HG2
      have HM2 : Hid (HmI cap (i + 1) (if fb then wrap64 (h + 1) else h) (if fb then m else wrap64 (m + 1))) := MR.out.next RD.fe (by omega)
      generalize (if fb then wrap64 (h + 1) else h) = h2 at HG2 HM2
      generalize (if fb then m else wrap64 (m + 1)) = m2 at HG2 HM2
      have HLn : Hid (∀ w, CaK w N p K cap s1 h m 0 0 → Calls Try.prog 12 #[.pointer (some ⟨p, 0, none⟩)] w fun e w' => e = .returned (.int .i64 (ksL s1).length) ∧ CaK w' N p K cap s1 h m 0 0 ∧ TC N w w') := fun w H => clen_c H
      have HK : Hid (∀ w, CaK w N p K cap s1 h m 0 0 → Calls Try.prog 13 #[.pointer (some ⟨p, 0, none⟩)] w fun e w' => ∃ v', e = .returned v' ∧ w'.ownsRow w.heap.size 3 1 v' (ksL s1).length (intC (ksL s1)) ∧ CaK w' N p K cap s1 h m 0 0 ∧ TC N w w') := fun w H => ckeys_c H
      have HRD : Hid (RdF cap ts i ky z1 z2 zb s1 fv fb s2) := RD
      obtain ⟨kl, hkl⟩ : ∃ kl, ksL s1 = kl := ⟨_, rfl⟩
      obtain ⟨M, hM⟩ : ∃ M, (ksL s1).length = M := ⟨_, rfl⟩
      have hMc : ¬ ((cap : Int) < (M : Int)) := by have := RD.room; omega
      have hM64 : M ≤ 64 := by have := RD.room; omega
      rw [hM] at HLn HK
      rw [hkl] at HK hM
      have HND : Hid (kl.Nodup) := by rw [← hkl]; exact RD.nd
      have HZT : Hid (zb = true → z1 ∉ kl) := fun e => by rw [← hkl]; exact (RD.zt e).1
      have HKL : Hid (kl.length = M) := hM
      clear hcl CR IR RR MR RD hky hlq hkl hM
      have hfbt : fb = true := by have := HRD.out.fe; rw [this]; simpa using hcpos
      subst hfbt
      cases zb with
      | false =>
        obtain ⟨hz1, hz2⟩ := HRD.out.zf rfl
        subst hz1 hz2
        have hcp2 : (0 : Int) < (cap : Int) := by omega
        have hfv := HRD.out.ft rfl
        subst hfv
        go_wp2_with (first
          | (go_at_call 11; refine HP2.out.mono ?_; rintro e w3 ⟨rfl, c3, t3⟩; have C3 : Hid (CaK w3 N p K cap s1 h m 0 0) := c3; have T3 : Hid (Tch (fun _ => False) W w3) := TC.step TR.out hN.out t3; clear c3 t3 HP2 TR)
          | (go_at_call 12; refine (HLn.out _ C3.out).mono ?_; rintro e w4 ⟨rfl, c4, t4⟩; have C4 : Hid (CaK w4 N p K cap s1 h m 0 0) := c4; have T4 : Hid (Tch (fun _ => False) W w4) := TC.step T3.out hN.out t4; clear c4 t4 HLn C3 T3)
          | (go_at_call 13; refine (HK.out _ C4.out).mono ?_; rintro e w5 ⟨v5, rfl, r5, c5, t5⟩; have C5 : Hid (CaK w5 N p K cap s1 h m 0 0) := c5; have T5 : Hid (Tch (fun _ => False) W w5) := TC.step T4.out hN.out t5; obtain ⟨ka, kc, rfl⟩ := ownv r5; have R5 : Hid (w5.ownsRow w4.heap.size 3 1 (.slice ka M kc) M (intC kl)) := r5; clear r5 c5 t5 HK C4 T4))
        go_loopw [12] (fun av wr => ∃ a : Nat, av = .int .i64 a ∧ a ≤ M ∧ Hid (Tch (fun _ => False) w5 wr)) (fun av _ => M - (intOf av).toNat)
        case atStart => exact ⟨0, rfl, Nat.zero_le _, Tch.refl _ _⟩
        case round =>
          obtain ⟨a, rfl, haM, TA⟩ := hrel
          obtain ⟨wa, rfl⟩ : ∃ wa, wa = wr := ⟨_, rfl⟩
          have RA : Hid (wa.ownsRow w4.heap.size 3 1 (.slice ka M kc) M (intC kl)) := own_keep R5.out (fun g hg => TA.out.blk g (R5.out.lt g hg).2 (fun x => x))
          by_cases hla : a < M
          · obtain ⟨g, rfl⟩ : ∃ g, ka = some ⟨g, 0, none⟩ := by
              rcases R5.out.2 with ⟨_, e⟩ | ⟨g, c, cur, e, _⟩
              · omega
              · cases e; exact ⟨g, rfl⟩
            obtain ⟨xa, hxa⟩ : ∃ x, kl[a]? = some x := ⟨_, List.getElem?_eq_getElem (by rw [HKL.out]; exact hla)⟩
            have ya : wa.cell? ⟨g, a, none⟩ = some (.int .i64 xa) := (RA.out.cellAt a (by omega)).trans (by simp [intC, hxa])
            have HXA : Hid (kl[a]? = some xa) := hxa
            clear hxa
            go_wp2
            go_loopw [13] (fun bv wr => ∃ b : Nat, bv = .int .i64 b ∧ b ≤ a ∧ Hid (Tch (fun _ => False) w5 wr)) (fun bv _ => a - (intOf bv).toNat)
            case atStart => exact ⟨0, rfl, Nat.zero_le _, TA⟩
            case round =>
              obtain ⟨bb, rfl, hbb, TB⟩ := hrel
              obtain ⟨wb, rfl⟩ : ∃ wb, wb = wr := ⟨_, rfl⟩
              by_cases hlb : bb < a
              · obtain ⟨xb, hxb⟩ : ∃ x, kl[bb]? = some x := ⟨_, List.getElem?_eq_getElem (by rw [HKL.out]; omega)⟩
                have RB : wb.ownsRow w4.heap.size 3 1 (.slice (some ⟨g, 0, none⟩) M kc) M (intC kl) := own_keep R5.out (fun g hg => TB.out.blk g (R5.out.lt g hg).2 (fun x => x))
                have yb : wb.cell? ⟨g, bb, none⟩ = some (.int .i64 xb) := (RB.cellAt bb (by omega)).trans (by simp [intC, hxb])
                have yc : wb.cell? ⟨g, a, none⟩ = some (.int .i64 xa) := (RB.cellAt a (by omega)).trans (by have := HXA.out; simp [intC, this])
                have hne : ¬ (xa = xb) := nodup_at HND.out HXA.out hxb hlb
                have hnb : (xa == xb) = false := by simpa using hne
                clear RB hxb
                go_wp2
                go_region
                all_goals go_wp2
                all_goals go_roundw
                all_goals first
                  | exact ⟨bb + 1, by go_num, by omega, TB.out.drew⟩
                  | (simp [intOf]; omega)
              · obtain rfl : bb = a := by omega
                go_wp2
                go_roundw
                case rel => exact ⟨bb + 1, by go_num, by omega, TB⟩
                case measure => simp [intOf]; omega
          · obtain rfl : a = M := by omega
            have TWA : Hid (Tch (fun _ => False) W wa) := T5.out.trans TA.out (fun _ _ x => x)
            have CWA : Hid (CaK wa N p K cap s1 h m 0 0) := C5.out.store (Sk.tch C5.out.st TA.out) (TK.of0 TA.out)
            have a2 := HCL.out i ky HKY.out _ TWA.out
            go_wp2_with (go_at_call 14; refine (HG2.out _ CWA.out).mono ?_; rintro e w6 ⟨rfl, c6, t6⟩; have C6 : Hid (CaK w6 N p K cap s2 h2 m2 0 0) := c6; have T6 : Hid (Tch (fun _ => False) W w6) := TC.step TWA.out hN.out t6; clear c6 t6 HG2 CWA TWA)
            go_roundw
            case rel => exact ⟨i + 1, s2, h2, m2, by go_num, by omega, C6, HRD.out.inv, HRD.out.rm, HM2, T6⟩
            case measure => simp [intOf]; omega
      | true =>
        have hcp2 : (0 : Int) < (cap : Int) := by omega
        have hfv := HRD.out.ft rfl
        subst hfv
        obtain ⟨jz, hjz, hjl, hjk⟩ := (HRD.out.zt rfl).2
        have HJK : Hid (ts[jz]? = some z1) := hjk
        subst hjz
        have hjn : jz < n := by omega
        have hj0 : ¬ ((jz : Int) < 0) := by omega
        have hji : ¬ ((i : Int) ≤ (jz : Int)) := by omega
        clear hjk
        go_wp2_with (first
          | (go_at_call 11; refine HP2.out.mono ?_; rintro e w3 ⟨rfl, c3, t3⟩; have C3 : Hid (CaK w3 N p K cap s1 h m 0 0) := c3; have T3 : Hid (Tch (fun _ => False) W w3) := TC.step TR.out hN.out t3; clear c3 t3 HP2 TR)
          | (go_at_call 12; refine (HLn.out _ C3.out).mono ?_; rintro e w4 ⟨rfl, c4, t4⟩; have C4 : Hid (CaK w4 N p K cap s1 h m 0 0) := c4; have T4 : Hid (Tch (fun _ => False) W w4) := TC.step T3.out hN.out t4; clear c4 t4 HLn C3 T3)
          | (go_at_call 13; refine (HK.out _ C4.out).mono ?_; rintro e w5 ⟨v5, rfl, r5, c5, t5⟩; have C5 : Hid (CaK w5 N p K cap s1 h m 0 0) := c5; have T5 : Hid (Tch (fun _ => False) W w5) := TC.step T4.out hN.out t5; obtain ⟨ka, kc, rfl⟩ := ownv r5; have R5 : Hid (w5.ownsRow w4.heap.size 3 1 (.slice ka M kc) M (intC kl)) := r5; clear r5 c5 t5 HK C4 T4))
        go_loopw [12] (fun av wr => ∃ a : Nat, av = .int .i64 a ∧ a ≤ M ∧ Hid (Tch (fun _ => False) w5 wr)) (fun av _ => M - (intOf av).toNat)
        case atStart => exact ⟨0, rfl, Nat.zero_le _, Tch.refl _ _⟩
        case round =>
          obtain ⟨a, rfl, haM, TA⟩ := hrel
          obtain ⟨wa, rfl⟩ : ∃ wa, wa = wr := ⟨_, rfl⟩
          have RA : Hid (wa.ownsRow w4.heap.size 3 1 (.slice ka M kc) M (intC kl)) := own_keep R5.out (fun g hg => TA.out.blk g (R5.out.lt g hg).2 (fun x => x))
          by_cases hla : a < M
          · obtain ⟨g, rfl⟩ : ∃ g, ka = some ⟨g, 0, none⟩ := by
              rcases R5.out.2 with ⟨_, e⟩ | ⟨g, c, cur, e, _⟩
              · omega
              · cases e; exact ⟨g, rfl⟩
            obtain ⟨xa, hxa⟩ : ∃ x, kl[a]? = some x := ⟨_, List.getElem?_eq_getElem (by rw [HKL.out]; exact hla)⟩
            have ya : wa.cell? ⟨g, a, none⟩ = some (.int .i64 xa) := (RA.out.cellAt a (by omega)).trans (by simp [intC, hxa])
            have HXA : Hid (kl[a]? = some xa) := hxa
            have hzx : ¬ (xa = z1) := fun e => HZT.out (by first | rfl | trivial) (by rw [← e]; exact List.mem_of_getElem? hxa)
            have hzy : (xa == z1) = false := by simpa using hzx
            clear hxa
            go_wp2
            go_loopw [13] (fun bv wr => ∃ b : Nat, bv = .int .i64 b ∧ b ≤ a ∧ Hid (Tch (fun _ => False) w5 wr)) (fun bv _ => a - (intOf bv).toNat)
            case atStart => exact ⟨0, rfl, Nat.zero_le _, TA⟩
            case round =>
              obtain ⟨bb, rfl, hbb, TB⟩ := hrel
              obtain ⟨wb, rfl⟩ : ∃ wb, wb = wr := ⟨_, rfl⟩
              by_cases hlb : bb < a
              · obtain ⟨xb, hxb⟩ : ∃ x, kl[bb]? = some x := ⟨_, List.getElem?_eq_getElem (by rw [HKL.out]; omega)⟩
                have RB : wb.ownsRow w4.heap.size 3 1 (.slice (some ⟨g, 0, none⟩) M kc) M (intC kl) := own_keep R5.out (fun g hg => TB.out.blk g (R5.out.lt g hg).2 (fun x => x))
                have yb : wb.cell? ⟨g, bb, none⟩ = some (.int .i64 xb) := (RB.cellAt bb (by omega)).trans (by simp [intC, hxb])
                have yc : wb.cell? ⟨g, a, none⟩ = some (.int .i64 xa) := (RB.cellAt a (by omega)).trans (by have := HXA.out; simp [intC, this])
                have hne : ¬ (xa = xb) := nodup_at HND.out HXA.out hxb hlb
                have hnb : (xa == xb) = false := by simpa using hne
                clear RB hxb
                go_wp2
                go_region
                all_goals go_wp2
                all_goals go_roundw
                all_goals first
                  | exact ⟨bb + 1, by go_num, by omega, TB.out.drew⟩
                  | (simp [intOf]; omega)
              · obtain rfl : bb = a := by omega
                go_wp2
                go_roundw
                case rel => exact ⟨bb + 1, by go_num, by omega, TB⟩
                case measure => simp [intOf]; omega
          · obtain rfl : a = M := by omega
            have TWA : Hid (Tch (fun _ => False) W wa) := T5.out.trans TA.out (fun _ _ x => x)
            have CWA : Hid (CaK wa N p K cap s1 h m 0 0) := C5.out.store (Sk.tch C5.out.st TA.out) (TK.of0 TA.out)
            have a2 := HCL.out i ky HKY.out _ TWA.out
            have a3 := HCL.out jz z1 HJK.out _ TWA.out
            go_wp2_with (go_at_call 14; refine (HG2.out _ CWA.out).mono ?_; rintro e w6 ⟨rfl, c6, t6⟩; have C6 : Hid (CaK w6 N p K cap s2 h2 m2 0 0) := c6; have T6 : Hid (Tch (fun _ => False) W w6) := TC.step TWA.out hN.out t6; clear c6 t6 HG2 CWA TWA)
            go_roundw
            case rel => exact ⟨i + 1, s2, h2, m2, by go_num, by omega, C6, HRD.out.inv, HRD.out.rm, HM2, T6⟩
            case measure => simp [intOf]; omega
    · obtain rfl : i = n := by omega
      obtain ⟨e1, e2⟩ := MR.out
      rw [if_pos hcpos] at e1 e2
      subst e1 e2
      have hcb : ((cap : Int) == 0) = false := by simp; omega
      have hc0 : ¬ ((cap : Int) = 0) := by omega
      by_cases h0 : i = 0
      · subst h0
        go_wp2_with (go_at_call 15; refine (HH.out N p K ss _ _ _ CR.out).mono ?_; rintro e w8 ⟨rfl, t8⟩; have T8 : Hid (Tch (fun _ => False) W w8) := TC.step TR.out hN.out t8; clear t8 HH)
        go_ret
        exact ⟨rfl, T8.out⟩
      · have hi0 : ¬ ((i : Int) = 0) := by omega
        have hib : ((i : Int) == 0) = false := by simp; omega
        go_wp2_with (go_at_call 15; refine (HH.out N p K ss _ _ _ CR.out).mono ?_; rintro e w8 ⟨rfl, t8⟩; have T8 : Hid (Tch (fun _ => False) W w8) := TC.step TR.out hN.out t8; clear t8 HH)
        go_ret
        exact ⟨rfl, T8.out⟩
set_option maxRecDepth 100000 in
set_option maxHeartbeats 16000000 in
theorem CacheRoom_zero (v : Value) (ts : List Int) (W : World) (hv : IsInts W v ts) :
    Calls Try.prog 4 #[.int .i64 0, v] W fun e w' => e = .returned (.bool true) ∧ Tch (fun _ => False) W w' := by
  obtain ⟨ao, vc, rfl, hn, hcell⟩ := hv
  obtain ⟨n, hnn⟩ : ∃ n, ts.length = n := ⟨_, rfl⟩
  rw [hnn] at hn ⊢
  unfold maxLen at hn
  have HNN : Hid (ts.length = n) := hnn
  have HC : Hid (ts ≠ [] → ∃ b o, ao = some ⟨b, o, none⟩ ∧ b < W.heap.size ∧ ∀ k t, ts[k]? = some t → W.cell? ⟨b, o + k, none⟩ = some (.int .i64 t)) := hcell
  have HN : Hid (∀ w, Calls Try.prog 8 #[.int .i64 0] w fun e w' => ∃ p, e = .returned (.tuple #[.pointer (some ⟨p, 0, none⟩), .int .i64 0]) ∧ (∃ K, CaK w' w.heap.size p K 0 (List.replicate ((0 + 1) / 2) []) 0 0 0 0) ∧ Tch (fun _ => False) w w') := cnew_c 0 (by omega)
  have HH : Hid (∀ N p K ss h m w, CaK w N p K 0 ss h m 0 0 → Calls Try.prog 15 #[.pointer (some ⟨p, 0, none⟩)] w fun e w' => e = .returned (.tuple #[.int .i64 h, .int .i64 m]) ∧ TC N w w') := fun N p K ss h m w H => (chits_c H).mono fun e w' ⟨a, _, c⟩ => ⟨a, c⟩
  clear hnn hcell
  go_enter Try.func4, Try.ntmps4
  go_wp2_with (first
    | (go_at_call 7; refine (awake_c _).mono ?_; rintro e w1 ⟨rfl, t1⟩; have T1 : Hid (Tch (fun _ => False) W w1) := t1; clear t1)
    | (go_at_call 8; refine (HN.out _).mono ?_; rintro e w2 ⟨p, rfl, ⟨K, h2⟩, t2⟩; have C2 : Hid (CaK w2 w1.heap.size p K 0 (List.replicate ((0 + 1) / 2) []) 0 0 0 0) := h2; have T2 : Hid (Tch (fun _ => False) W w2) := T1.out.trans t2 (fun _ _ x => x); have hN : Hid (W.heap.size ≤ w1.heap.size) := T1.out.size; clear h2 t2 HN T1))
  obtain ⟨N, hNe⟩ : ∃ N, w1.heap.size = N := ⟨_, rfl⟩
  rw [hNe] at C2 hN
  clear hNe
  go_loopw [7] (fun iv wr => ∃ (i : Nat) (ss : List (List (Int × Int))) (h m : Int), iv = .int .i64 i ∧ i ≤ n ∧ Hid (CaK wr N p K 0 ss h m 0 0) ∧ Hid (InvC 0 ss) ∧ Hid (RmI ts i ss) ∧ Hid (HmI 0 i h m) ∧ Hid (Tch (fun _ => False) W wr)) (fun iv _ => n - (intOf iv).toNat)
  case atStart => exact ⟨0, _, 0, 0, rfl, Nat.zero_le _, C2, InvC.new 0, fun _ hx => (Ent.new hx).elim, ⟨by split <;> rfl, by split <;> rfl⟩, T2⟩
  case round =>
    obtain ⟨i, ss, h, m, rfl, hi, CR, IR, RR, MR, TR⟩ := hrel
    obtain ⟨wo, rfl⟩ : ∃ wo, wo = wr := ⟨_, rfl⟩
    by_cases hlt : i < n
    · have hlq : i < ts.length := by rw [HNN.out]; exact hlt
      obtain ⟨ky, hky⟩ : ∃ t, ts[i]? = some t := ⟨_, List.getElem?_eq_getElem hlq⟩
      obtain ⟨b, ob, rfl, hbl, hcl⟩ := HC.out (by rintro rfl; simp at hlq)
      have HCL : Hid (∀ k t, ts[k]? = some t → ∀ w, Tch (fun _ => False) W w → w.cell? ⟨b, ob + k, none⟩ = some (.int .i64 t)) := fun k t hk w hw => (World.cell?_of_block (a := ⟨b, ob + k, none⟩) (hw.blk b hbl (fun x => x))).trans (hcl k t hk)
      have a1 := HCL.out i ky hky _ TR.out
      have HKY : Hid (ts[i]? = some ky) := hky
      have RD := round_f IR.out RR.out hky
      have HP2 : Hid (Calls Try.prog 11 #[.pointer (some ⟨p, 0, none⟩), .int .i64 ky, .int .i64 (i : Int)] wo fun e w' => e = .returned (.tuple #[.int .i64 (ptSS 0 (ky, (i : Int)) ss).1.1, .int .i64 (ptSS 0 (ky, (i : Int)) ss).1.2, .bool (ptSS 0 (ky, (i : Int)) ss).2.1]) ∧ CaK w' N p K 0 (ptSS 0 (ky, (i : Int)) ss).2.2 h m 0 0 ∧ TC N wo w') := cput_c CR.out ky i
      generalize (ptSS 0 (ky, (i : Int)) ss).1.1 = z1 at RD HP2
      generalize (ptSS 0 (ky, (i : Int)) ss).1.2 = z2 at RD HP2
      generalize (ptSS 0 (ky, (i : Int)) ss).2.1 = zb at RD HP2
      generalize (ptSS 0 (ky, (i : Int)) ss).2.2 = s1 at RD HP2
      have HG2 : Hid (∀ w, CaK w N p K 0 s1 h m 0 0 → Calls Try.prog 14 #[.pointer (some ⟨p, 0, none⟩), .int .i64 ky] w fun e w' => e = .returned (.tuple #[.int .i64 (fdSS ky s1).1, .bool (fdSS ky s1).2.1]) ∧ CaK w' N p K 0 (fdSS ky s1).2.2 (if (fdSS ky s1).2.1 then wrap64 (h + 1) else h) (if (fdSS ky s1).2.1 then m else wrap64 (m + 1)) 0 0 ∧ TC N w w') := fun w H => cget_c H ky
      generalize (fdSS ky s1).1 = fv at RD HG2
      generalize (fdSS ky s1).2.1 = fb at RD HG2
      generalize (fdSS ky s1).2.2 = s2 at RD HG2
      have HM2 : Hid (HmI 0 (i + 1) (if fb then wrap64 (h + 1) else h) (if fb then m else wrap64 (m + 1))) := MR.out.next RD.fe (by omega)
      generalize (if fb then wrap64 (h + 1) else h) = h2 at HG2 HM2
      generalize (if fb then m else wrap64 (m + 1)) = m2 at HG2 HM2
      have HLn : Hid (∀ w, CaK w N p K 0 s1 h m 0 0 → Calls Try.prog 12 #[.pointer (some ⟨p, 0, none⟩)] w fun e w' => e = .returned (.int .i64 (ksL s1).length) ∧ CaK w' N p K 0 s1 h m 0 0 ∧ TC N w w') := fun w H => clen_c H
      have HK : Hid (∀ w, CaK w N p K 0 s1 h m 0 0 → Calls Try.prog 13 #[.pointer (some ⟨p, 0, none⟩)] w fun e w' => ∃ v', e = .returned v' ∧ w'.ownsRow w.heap.size 3 1 v' (ksL s1).length (intC (ksL s1)) ∧ CaK w' N p K 0 s1 h m 0 0 ∧ TC N w w') := fun w H => ckeys_c H
      have HRD : Hid (RdF 0 ts i ky z1 z2 zb s1 fv fb s2) := RD
      obtain ⟨kl, hkl⟩ : ∃ kl, ksL s1 = kl := ⟨_, rfl⟩
      obtain ⟨M, hM⟩ : ∃ M, (ksL s1).length = M := ⟨_, rfl⟩
      have hMc : ¬ (0 < (M : Int)) := by have := RD.room; omega
      have hM64 : M ≤ 64 := by have := RD.room; omega
      rw [hM] at HLn HK
      rw [hkl] at HK hM
      have HND : Hid (kl.Nodup) := by rw [← hkl]; exact RD.nd
      have HZT : Hid (zb = true → z1 ∉ kl) := fun e => by rw [← hkl]; exact (RD.zt e).1
      have HKL : Hid (kl.length = M) := hM
      clear hcl CR IR RR MR RD hky hlq hkl hM
      have hfbt : fb = false := by have := HRD.out.fe; rw [this]; simp
      subst hfbt
      have hzbf : zb = false := by cases zb with | false => rfl | true => exact absurd (HRD.out.zc rfl) (by omega)
      subst hzbf
      obtain ⟨hz1, hz2⟩ := HRD.out.zf rfl
      subst hz1 hz2
      have hfv := HRD.out.ff rfl
      subst hfv
      go_wp2_with (first
        | (go_at_call 11; refine HP2.out.mono ?_; rintro e w3 ⟨rfl, c3, t3⟩; have C3 : Hid (CaK w3 N p K 0 s1 h m 0 0) := c3; have T3 : Hid (Tch (fun _ => False) W w3) := TC.step TR.out hN.out t3; clear c3 t3 HP2 TR)
        | (go_at_call 12; refine (HLn.out _ C3.out).mono ?_; rintro e w4 ⟨rfl, c4, t4⟩; have C4 : Hid (CaK w4 N p K 0 s1 h m 0 0) := c4; have T4 : Hid (Tch (fun _ => False) W w4) := TC.step T3.out hN.out t4; clear c4 t4 HLn C3 T3)
        | (go_at_call 13; refine (HK.out _ C4.out).mono ?_; rintro e w5 ⟨v5, rfl, r5, c5, t5⟩; have C5 : Hid (CaK w5 N p K 0 s1 h m 0 0) := c5; have T5 : Hid (Tch (fun _ => False) W w5) := TC.step T4.out hN.out t5; obtain ⟨ka, kc, rfl⟩ := ownv r5; have R5 : Hid (w5.ownsRow w4.heap.size 3 1 (.slice ka M kc) M (intC kl)) := r5; clear r5 c5 t5 HK C4 T4))
      go_loopw [12] (fun av wr => ∃ a : Nat, av = .int .i64 a ∧ a ≤ M ∧ Hid (Tch (fun _ => False) w5 wr)) (fun av _ => M - (intOf av).toNat)
      case atStart => exact ⟨0, rfl, Nat.zero_le _, Tch.refl _ _⟩
      case round =>
        obtain ⟨a, rfl, haM, TA⟩ := hrel
        obtain ⟨wa, rfl⟩ : ∃ wa, wa = wr := ⟨_, rfl⟩
        have RA : Hid (wa.ownsRow w4.heap.size 3 1 (.slice ka M kc) M (intC kl)) := own_keep R5.out (fun g hg => TA.out.blk g (R5.out.lt g hg).2 (fun x => x))
        by_cases hla : a < M
        · exfalso; omega
        · obtain rfl : a = M := by omega
          have TWA : Hid (Tch (fun _ => False) W wa) := T5.out.trans TA.out (fun _ _ x => x)
          have CWA : Hid (CaK wa N p K 0 s1 h m 0 0) := C5.out.store (Sk.tch C5.out.st TA.out) (TK.of0 TA.out)
          have a2 := HCL.out i ky HKY.out _ TWA.out
          go_wp2_with (go_at_call 14; refine (HG2.out _ CWA.out).mono ?_; rintro e w6 ⟨rfl, c6, t6⟩; have C6 : Hid (CaK w6 N p K 0 s2 h2 m2 0 0) := c6; have T6 : Hid (Tch (fun _ => False) W w6) := TC.step TWA.out hN.out t6; clear c6 t6 HG2 CWA TWA)
          go_roundw
          case rel => exact ⟨i + 1, s2, h2, m2, by go_num, by omega, C6, HRD.out.inv, HRD.out.rm, HM2, T6⟩
          case measure => simp [intOf]; omega
    · obtain rfl : i = n := by omega
      obtain ⟨e1, e2⟩ := MR.out
      simp at e1 e2
      subst e1 e2
      by_cases h0 : i = 0
      · subst h0
        go_wp2_with (go_at_call 15; refine (HH.out N p K ss _ _ _ CR.out).mono ?_; rintro e w8 ⟨rfl, t8⟩; have T8 : Hid (Tch (fun _ => False) W w8) := TC.step TR.out hN.out t8; clear t8 HH)
        go_ret
        exact ⟨rfl, T8.out⟩
      · have hi0 : ¬ ((i : Int) = 0) := by omega
        have hib : ((i : Int) == 0) = false := by simp; omega
        go_wp2_with (go_at_call 15; refine (HH.out N p K ss _ _ _ CR.out).mono ?_; rintro e w8 ⟨rfl, t8⟩; have T8 : Hid (Tch (fun _ => False) W w8) := TC.step TR.out hN.out t8; clear t8 HH)
        go_ret
        exact ⟨rfl, T8.out⟩
set_option maxRecDepth 100000 in
theorem CacheRoom_any (n : Int) (v : Value) (ts : List Int) (W : World) (hv : IsInts W v ts) :
    Calls Try.prog 4 #[.int .i64 n, v] W fun e w' => e = .returned (.bool true) ∧ Below W.heap.size W w' := by
  by_cases hr : 0 ≤ n ∧ n ≤ 64
  · obtain ⟨cap, rfl⟩ : ∃ cap : Nat, n = (cap : Int) := ⟨n.toNat, by omega⟩
    by_cases hc : 0 < cap
    · exact (CacheRoom_pos cap hc (by omega) v ts W hv).mono fun e w' ⟨a, b⟩ => ⟨a, b.bel0⟩
    · obtain rfl : cap = 0 := by omega
      exact (CacheRoom_zero v ts W hv).mono fun e w' ⟨a, b⟩ => ⟨a, b.bel0⟩
  · have HN : Hid (∀ w, Calls Try.prog 8 #[.int .i64 n] w fun e w' => e = .returned (.tuple #[.pointer none, .int .i64 7]) ∧ w' = w) := cnew_no n (by omega)
    by_cases hl : n < 0
    · clear hr hv
      go_enter Try.func4, Try.ntmps4
      go_wp2_with (first
        | (go_at_call 7; refine (awake_c _).mono ?_; rintro e w1 ⟨rfl, t1⟩; have T1 : Hid (Tch (fun _ => False) W w1) := t1; clear t1)
        | (go_at_call 8; refine (HN.out _).mono ?_; rintro e w2 ⟨rfl, hw⟩; obtain rfl := hw.symm; clear HN))
      go_ret
      exact ⟨rfl, T1.out.bel0⟩
    · have hg : (64 : Int) < n := by omega
      clear hr hv
      go_enter Try.func4, Try.ntmps4
      go_wp2_with (first
        | (go_at_call 7; refine (awake_c _).mono ?_; rintro e w1 ⟨rfl, t1⟩; have T1 : Hid (Tch (fun _ => False) W w1) := t1; clear t1)
        | (go_at_call 8; refine (HN.out _).mono ?_; rintro e w2 ⟨rfl, hw⟩; obtain rfl := hw.symm; clear HN))
      go_ret
      exact ⟨rfl, T1.out.bel0⟩
end Go.Proofs.Ytllommealfchfaa
