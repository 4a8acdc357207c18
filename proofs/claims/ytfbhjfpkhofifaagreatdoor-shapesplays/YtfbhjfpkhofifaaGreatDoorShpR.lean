/- The walk of the document's Print (arbiterref05) at a sound class, where it has no flags; what was there before stays. -/
import Derived.Test.YtfbhjfpkhofifaaGreatDoorShpP
namespace Go.Proofs.YtfbhjfpkhofifaaGreatDoor
open Go.RowKit

set_option maxRecDepth 100000 in
set_option maxHeartbeats 4000000 in
theorem rprint_e (c : Cls) (vi vm : Value) (W : World) (hi : IsStrs W vi c.ifs) (hm : IsMths W vm c.ms) (hw : ClsW c) (hb : clsB c = true) (hq : (textF c.fl clsP == []) = true) :
    Calls Tryz.prog 15 #[clsV c vi vm] W fun e w' => e = .returned (.tuple #[.string ⟨(tCls c).toArray⟩, .int .i64 0]) ∧ Below W.heap.size W w' := by
  have HC : Hid (∀ w', Below W.heap.size W w' → Calls Tryz.prog 9 #[clsV c vi vm] w' fun e w'' => e = .returned (.int .i64 0) ∧ Below w'.heap.size w' w'') := fun w' h => by
    have := rcheckW_any c vi vm w' (hi.keep h) (hm.keep h) hw
    rw [clsE, hb] at this
    exact this
  have hS := cls_sound hb
  obtain ⟨s1, s2, s3, s4, s5, s6⟩ := hw
  obtain ⟨nm, su, ifs, fl, ld, ms⟩ := c
  simp only at hi hm s1 s2 s3 s4 s5 s6
  have hnm := (val_ne hS.nm).2
  have hsu := (val_ne hS.su).2
  have hld := hS.ld
  simp only at hnm hsu hld
  have hnms : nm.size ≤ 60 := by have : nm.data.toList.length = nm.size := by rw [Array.length_toList]; rfl
                                 omega
  have hsus : su.size ≤ 60 := by have : su.data.toList.length = su.size := by rw [Array.length_toList]; rfl
                                 omega
  obtain ⟨T, hT⟩ : ∃ T : ByteArray, T = ⟨(textF fl clsP).toArray⟩ := ⟨_, rfl⟩
  have hTs : T.size ≤ 2100 := by rw [hT]; have := textF_len fl clsP clsP_small (by decide); simpa [ByteArray.size] using this
  have HCT : Hid (∀ w' : World, Calls Tryz.prog 39 #[.int .i64 fl] w' fun e w'' => e = .returned (.tuple #[.string T, .int .i64 (textE fl clsP)]) ∧ Below w'.heap.size w' w'') := fun w' => by rw [hT]; exact rClassText_any fl w'
  obtain ⟨D1, hD1⟩ : ∃ D : ByteArray, D = ⟨(Lib.itoa ld).toArray⟩ := ⟨_, rfl⟩
  have hD1s : D1.size ≤ 21 := by rw [hD1]; exact itoa_size ld (by omega) (by omega)
  have HI1 : Hid (∀ w' : World, Calls Tryz.prog 40 #[.int .i64 ld] w' fun e w'' => e = .returned (.string D1) ∧ Below w'.heap.size w' w'') := fun w' => by rw [hD1]; exact rDecimal_any ld (by omega) (by omega) w'
  have HQ : Hid ((T.data.toList == []) = true) := by rw [Hid, hT]; exact hq
  clear hq
  have HTC : Hid (tCls ⟨nm, su, ifs, fl, ld, ms⟩ = tHead nm.data.toList su.data.toList ++ ifs.flatMap tIf ++ tFl T.data.toList D1.data.toList ++ ms.flatMap tMt ++ [101, 110, 100, 10]) := by rw [Hid, hT, hD1]; rfl
  have HMS : Hid (∀ m ∈ ms, MthS m ∧ MthW m) := fun m hm => ⟨hS.ms m hm, s6 m hm⟩
  have HIS : Hid (∀ p ∈ ifs, p.length ≤ 60) := fun p hp => (val_ne (hS.ifs p hp)).2
  have hnif : ifs.length ≤ 20 := hS.nif
  have hnmm : ms.length ≤ 40 := hS.nms
  have hTe : T.toList.isEmpty = (T.data.toList == []) := by rw [Lib.toList_data]; cases T.data.toList <;> rfl
  generalize tCls ⟨nm, su, ifs, fl, ld, ms⟩ = CT at *
  obtain ⟨ai, capi, rfl, i1, i2, i3⟩ := hi
  obtain ⟨am, capm, rfl, m1, m2, m3⟩ := hm
  have HIA : Hid _ := i3
  have HMA : Hid _ := m3
  unfold maxLen at i2 m2
  simp only [clsV] at HC ⊢
  obtain ⟨K, hK⟩ : ∃ K, ifs.length = K := ⟨_, rfl⟩
  obtain ⟨M, hM⟩ : ∃ M, ms.length = M := ⟨_, rfl⟩
  rw [hK] at i1 HC hnif ⊢
  rw [hM] at m1 HC hnmm ⊢
  have HK : Hid (ifs.length = K) := hK
  have HL : Hid (ms.length = M) := hM
  clear hb hS s1 s2 s3 s4 s5 s6 hnm hsu hld hT hD1 i3 m3 hK hM
  generalize textE fl clsP = te at *
  obtain ⟨Wc, hWc⟩ : ∃ x, x = W.alloc (.cells #[.string nm, .string su, .slice ai K capi, .int .i64 fl, .int .i64 ld, .slice am M capm] 25) := ⟨_, rfl⟩
  have HWc : Hid (Below W.heap.size W Wc) := by rw [hWc]; exact (Below.refl _ _).alloc (Nat.le_refl _) _
  have HCc : Hid (CB Wc W.heap.size nm su (.slice ai K capi) fl ld (.slice am M capm)) := by rw [hWc]; exact ⟨by simp, by simp [go_sem], by simp [go_sem], by simp [go_sem], by simp [go_sem], by simp [go_sem], by simp [go_sem]⟩
  have HWE : Hid (Wc = W.alloc (.cells #[.string nm, .string su, .slice ai K capi, .int .i64 fl, .int .i64 ld, .slice am M capm] 25)) := hWc
  clear hWc
  have q1 : ¬ 9223372036854775807 < 6 + nm.size := by omega
  have q2 : ¬ 9223372036854775807 < 6 + nm.size + 7 := by omega
  have q3 : ¬ 9223372036854775807 < 6 + nm.size + 7 + su.size := by omega
  have q4 : ¬ 9223372036854775807 < 6 + nm.size + 7 + su.size + 1 := by omega
  go_enter Tryz.func15, Tryz.ntmps15
  go_wp2_with (go_at_call 9; rw [← HWE.out]; refine (HC.out _ HWc.out).mono ?_; rintro e w1 ⟨rfl, hb1⟩; obtain ⟨y9, y0, y1, y2, y3, y4, y5⟩ := HCc.out.keep hb1; have B1 : Hid (Below Wc.heap.size Wc w1) := hb1; clear hb1 HWE HC)
  clear y0 y1 y2 y3 y4 y5 y9
  have HA0 : Hid ((⟨#[99, 108, 97, 115, 115, 32]⟩ ++ nm ++ ⟨#[10, 115, 117, 112, 101, 114, 32]⟩ ++ su ++ ⟨#[10]⟩ : ByteArray).data.toList = tHead nm.data.toList su.data.toList) := by rw [Hid]; simp [tHead]
  have HA9 : Hid ((⟨#[99, 108, 97, 115, 115, 32]⟩ ++ nm ++ ⟨#[10, 115, 117, 112, 101, 114, 32]⟩ ++ su ++ ⟨#[10]⟩ : ByteArray).size ≤ 200) := by rw [Hid]; simp [ByteArray.size_append, sz6, sz7, sz10]; omega
  generalize (⟨#[99, 108, 97, 115, 115, 32]⟩ ++ nm ++ ⟨#[10, 115, 117, 112, 101, 114, 32]⟩ ++ su ++ ⟨#[10]⟩ : ByteArray) = acc00 at *
  go_loopg [4, 5] K (fun g sv iv wr => ∃ (i : Nat) (acc : ByteArray), sv = .string acc ∧ iv = .int .i64 i ∧ i ≤ K ∧ g = K - i ∧ acc.size ≤ 200 + 100 * i ∧ Hid (acc.data.toList = tHead nm.data.toList su.data.toList ++ (ifs.take i).flatMap tIf) ∧ Hid (Below Wc.heap.size Wc wr))
  case atStart => exact ⟨0, acc00, rfl, rfl, Nat.zero_le _, rfl, HA9.out, by simp [Hid, HA0.out], B1⟩
  case round =>
    obtain ⟨i, acc, rfl, rfl, hi, rfl, hac, hD, hb⟩ := hrel
    clear HA0 HA9 B1 q1 q2 q3 q4
    by_cases hlt : i < K
    · obtain ⟨bk, o, hao, hbk, hc⟩ := HIA.out (by intro e; have := HK.out; rw [e] at this; simp at this; omega)
      obtain ⟨x, hx⟩ : ∃ x, ifs[i]? = some x := ⟨_, List.getElem?_eq_getElem (by rw [HK.out]; exact hlt)⟩
      subst hao
      have HN : Hid (tHead nm.data.toList su.data.toList ++ (ifs.take (i + 1)).flatMap tIf = tHead nm.data.toList su.data.toList ++ (ifs.take i).flatMap tIf ++ tIf x) := by
        rw [Hid, List.take_add_one, hx]; simp
      have p0 := (hb.out.cell (Nat.lt_of_lt_of_le hbk HWc.out.size)).trans ((HWc.out.cell hbk).trans (hc i x hx))
      obtain ⟨z9, z0, z1, z2, z3, z4, z5⟩ := HCc.out.keep hb.out
      have hxl := HIS.out x (List.mem_of_getElem? hx)
      obtain ⟨X, hX⟩ : ∃ X : ByteArray, X = ⟨x.toArray⟩ := ⟨_, rfl⟩
      have hXs : X.size ≤ 60 := by rw [hX]; simpa [ByteArray.size] using hxl
      have HX : Hid (X.data.toList = x) := by rw [hX]; exact rfl
      rw [← hX] at p0
      have q1 : ¬ 9223372036854775807 < acc.size + 6 := by omega
      have q2 : ¬ 9223372036854775807 < acc.size + 6 + X.size := by omega
      have q3 : ¬ 9223372036854775807 < acc.size + 6 + X.size + 1 := by omega
      have HA1 : Hid ((acc ++ ⟨#[105, 102, 97, 99, 101, 32]⟩ ++ X ++ ⟨#[10]⟩).data.toList = tHead nm.data.toList su.data.toList ++ (ifs.take (i + 1)).flatMap tIf) := by rw [Hid, HN.out]; simp [hD.out, HX.out, tIf]
      have HA2 : Hid ((acc ++ ⟨#[105, 102, 97, 99, 101, 32]⟩ ++ X ++ ⟨#[10]⟩).size ≤ 200 + 100 * (i + 1)) := by rw [Hid]; simp [ByteArray.size_append, sz6', sz10]; omega
      clear hc hX hx hxl HIA HMA HN hD HX
      go_wp2
      go_roundg (K - (i + 1))
      case measure => omega
      case rel => exact ⟨i + 1, _, rfl, by go_num, by omega, rfl, HA2.out, HA1, hb⟩
    · have e : i = K := by omega
      subst e
      have hD2 : Hid (acc.data.toList = tHead nm.data.toList su.data.toList ++ ifs.flatMap tIf) := by rw [Hid, hD.out, List.take_of_length_le (by rw [HK.out]; exact Nat.le_refl _)]
      clear hD HIA
      have hq := HQ.out
      rw [hq] at hTe
      have HTE : Hid (T.data.toList = []) := eq_of_beq hq
      clear hq HQ
      obtain ⟨z9, z0, z1, z2, z3, z4, z5⟩ := HCc.out.keep hb.out
      have q11 : ¬ 9223372036854775807 < acc.size + 5 := by omega
      have q12 : ¬ 9223372036854775807 < acc.size + 5 + 8 := by omega
      have q13 : ¬ 9223372036854775807 < acc.size + 5 + 8 + D1.size := by omega
      have q14 : ¬ 9223372036854775807 < acc.size + 5 + 8 + D1.size + 1 := by omega
      go_wp2_with (first
        | (go_at_call 39; refine (HCT.out _).mono ?_; rintro e w2 ⟨rfl, hb2⟩; have B2 : Hid (Below Wc.heap.size Wc w2) := Below.step hb.out hb2; clear hb2 z0 z1 z2 z3 z4 z5 z9 HCT; obtain ⟨z9, z0, z1, z2, z3, z4, z5⟩ := HCc.out.keep B2.out)
        | (go_at_call 40; refine (HI1.out _).mono ?_; rintro e w3 ⟨rfl, hb3⟩; have B3 : Hid (Below Wc.heap.size Wc w3) := Below.step B2.out hb3; clear hb3 z0 z1 z2 z3 z4 z5 z9 HI1))
      have HA1 : Hid ((acc ++ ⟨#[102, 108, 97, 103, 115]⟩ ++ ⟨#[10, 108, 111, 97, 100, 101, 114, 32]⟩ ++ D1 ++ ⟨#[10]⟩).data.toList = tHead nm.data.toList su.data.toList ++ ifs.flatMap tIf ++ tFl T.data.toList D1.data.toList) := by
        have hte := HTE.out
        rw [Hid]; simp [hD2.out, tFl, tOpt, hte]
      have HA2 : Hid ((acc ++ ⟨#[102, 108, 97, 103, 115]⟩ ++ ⟨#[10, 108, 111, 97, 100, 101, 114, 32]⟩ ++ D1 ++ ⟨#[10]⟩).size ≤ 8000) := by
        rw [Hid]; simp [ByteArray.size_append, sz5, sz8, sz10]; omega
      generalize acc ++ ⟨#[102, 108, 97, 103, 115]⟩ ++ ⟨#[10, 108, 111, 97, 100, 101, 114, 32]⟩ ++ D1 ++ ⟨#[10]⟩ = acc0 at *
      obtain ⟨PRE, hPRE⟩ : ∃ PRE, PRE = tHead nm.data.toList su.data.toList ++ ifs.flatMap tIf ++ tFl T.data.toList D1.data.toList := ⟨_, rfl⟩
      rw [← hPRE] at HA1
      have HPRE : Hid (tHead nm.data.toList su.data.toList ++ ifs.flatMap tIf ++ tFl T.data.toList D1.data.toList = PRE) := hPRE.symm
      clear hPRE
      clear q11 q12 q13 q14 B2 hb hD2
      go_loopg [4, 8] M (fun g sv iv wr => ∃ (k : Nat) (acc : ByteArray), sv = .string acc ∧ iv = .int .i64 k ∧ k ≤ M ∧ g = M - k ∧ acc.size ≤ 8000 + 3000000 * k ∧ Hid (acc.data.toList = PRE ++ (ms.take k).flatMap tMt) ∧ Hid (Below Wc.heap.size Wc wr))
      case atStart => exact ⟨0, acc0, rfl, rfl, Nat.zero_le _, rfl, HA2.out, by simp [Hid, HA1.out], B3⟩
      case round =>
        obtain ⟨k, acc, rfl, rfl, hk, rfl, hac, hD, hb⟩ := hrel
        clear HA1 HA2 B3
        obtain ⟨z9, z0, z1, z2, z3, z4, z5⟩ := HCc.out.keep hb.out
        by_cases hlt : k < M
        · obtain ⟨bk, o, hao, hbk, hc⟩ := HMA.out (by intro e; have := HL.out; rw [e] at this; simp at this; omega)
          obtain ⟨x, hx⟩ : ∃ x, ms[k]? = some x := ⟨_, List.getElem?_eq_getElem (by rw [HL.out]; exact hlt)⟩
          subst hao
          obtain ⟨hMS, t1, t2, t3, t4, t5, t6⟩ := HMS.out x (List.mem_of_getElem? hx)
          have n1 := member_len hMS.mem
          have n2 := pd_len hMS.desc
          have hl1 := hMS.lo
          have hl2 := hMS.st
          have hnum := hMS.num
          have hins := hMS.ins
          have HN : Hid (PRE ++ (ms.take (k + 1)).flatMap tMt = PRE ++ (ms.take k).flatMap tMt ++ tMt x) := by
            rw [Hid, List.take_add_one, hx]; simp
          obtain ⟨p0, p1, p2, p3, p4, vc, p5, hI⟩ := hc k x hx
          obtain ⟨xn, xd, xf, xl, xs, xc⟩ := x
          simp only at n1 n2 hl1 hl2 hnum hins t1 t2 t3 t4 t5 t6 p0 p1 p2 p3 p4 p5 hI
          obtain ⟨va, vcap, rfl, v1, v2, v3⟩ := hI
          have HVA : Hid _ := v3
          obtain ⟨XL, hXL⟩ : ∃ XL, xc.length = XL := ⟨_, rfl⟩
          rw [hXL] at v1 hnum p5
          have HXL : Hid (xc.length = XL) := hXL
          unfold maxLen at v2
          have keepc : ∀ (j : Nat) (v : Value), W.cell? ⟨bk, j, none⟩ = some v → wr.cell? ⟨bk, j, none⟩ = some v := fun j v h => (hb.out.cell (p := ⟨bk, j, none⟩) (Nat.lt_of_lt_of_le hbk HWc.out.size)).trans ((HWc.out.cell (p := ⟨bk, j, none⟩) hbk).trans h)
          replace p0 := keepc _ _ p0
          replace p1 := keepc _ _ p1
          replace p2 := keepc _ _ p2
          replace p3 := keepc _ _ p3
          replace p4 := keepc _ _ p4
          replace p5 := keepc _ _ p5
          have hxns : xn.size ≤ 60 := (show xn.data.toList.length = xn.size by rw [Array.length_toList]; rfl) ▸ n1
          have hxds : xd.size ≤ 2000 := (show xd.data.toList.length = xd.size by rw [Array.length_toList]; rfl) ▸ n2
          obtain ⟨G, hG⟩ : ∃ T : ByteArray, T = ⟨(textF xf mthP).toArray⟩ := ⟨_, rfl⟩
          have hGs : G.size ≤ 2100 := by rw [hG]; have := textF_len xf mthP mthP_small (by decide); simpa [ByteArray.size] using this
          have HMT : Hid (∀ w' : World, Calls Tryz.prog 41 #[.int .i64 xf] w' fun e w'' => e = .returned (.tuple #[.string G, .int .i64 (textE xf mthP)]) ∧ Below w'.heap.size w' w'') := fun w' => by rw [hG]; exact rMethodText_any xf w'
          obtain ⟨E1, hE1⟩ : ∃ D : ByteArray, D = ⟨(Lib.itoa xl).toArray⟩ := ⟨_, rfl⟩
          obtain ⟨E2, hE2⟩ : ∃ D : ByteArray, D = ⟨(Lib.itoa xs).toArray⟩ := ⟨_, rfl⟩
          have hE1s : E1.size ≤ 21 := by rw [hE1]; exact itoa_size xl (by omega) (by omega)
          have hE2s : E2.size ≤ 21 := by rw [hE2]; exact itoa_size xs (by omega) (by omega)
          have HE1 : Hid (∀ w' : World, Calls Tryz.prog 40 #[.int .i64 xl] w' fun e w'' => e = .returned (.string E1) ∧ Below w'.heap.size w' w'') := fun w' => by rw [hE1]; exact rDecimal_any xl (by omega) (by omega) w'
          have HE2 : Hid (∀ w' : World, Calls Tryz.prog 40 #[.int .i64 xs] w' fun e w'' => e = .returned (.string E2) ∧ Below w'.heap.size w' w'') := fun w' => by rw [hE2]; exact rDecimal_any xs (by omega) (by omega) w'
          have HTM : Hid (tMt ⟨xn, xd, xf, xl, xs, xc⟩ = tMh xn.data.toList xd.data.toList G.data.toList E1.data.toList E2.data.toList ++ xc.flatMap fun i => prtI i ++ [10]) := by rw [Hid, hG, hE1, hE2]; rfl
          have HPI : Hid (∀ (y : Ins) (w' : World), y ∈ xc → Calls Tryz.prog 42 #[.agg #[.int .i64 y.op, .int .i64 y.n, .string y.t, .bool y.b, .string y.c, .string y.m, .string y.d]] w' fun e w'' => e = .returned (.tuple #[.string ⟨(prtI y).toArray⟩, .int .i64 (ickI y)]) ∧ Below w'.heap.size w' w'') := fun y w' hy => by
            obtain ⟨⟨b1, b2⟩, b3, b4, b5, b6⟩ := t6 y hy
            exact rPrint_any y.op y.n b1 b2 y.t y.b y.c y.m y.d b3 b4 b5 b6 w'
          have HPL : Hid (∀ y ∈ xc, (prtI y).length ≤ 9000) := fun y hy => prt_len (hins y hy)
          generalize tMt ⟨xn, xd, xf, xl, xs, xc⟩ = XT at *
          generalize textE xf mthP = ge at *
          have hGe : G.toList.isEmpty = (G.data.toList == []) := by rw [Lib.toList_data]; cases G.data.toList <;> rfl
          obtain ⟨Wm, hWm⟩ : ∃ x, x = wr.alloc (.cells #[.string xn, .string xd, .int .i64 xf, .int .i64 xl, .int .i64 xs, .slice va XL vcap] 34) := ⟨_, rfl⟩
          have HWm : Hid (Below Wc.heap.size Wc Wm) := by rw [hWm]; exact bal hb.out _
          have HWm2 : Hid (Below wr.heap.size wr Wm) := by rw [hWm]; exact (Below.refl _ _).alloc (Nat.le_refl _) _
          have HCm : Hid (wr.heap.size < Wm.heap.size ∧ Wm.cell? ⟨wr.heap.size, 3, none⟩ = some (.int .i64 xl) ∧ Wm.cell? ⟨wr.heap.size, 4, none⟩ = some (.int .i64 xs) ∧ Wm.cell? ⟨wr.heap.size, 5, none⟩ = some (.slice va XL vcap)) := by rw [hWm]; exact ⟨by simp, by simp [go_sem], by simp [go_sem], by simp [go_sem]⟩
          have HWE : Hid (Wm = wr.alloc (.cells #[.string xn, .string xd, .int .i64 xf, .int .i64 xl, .int .i64 xs, .slice va XL vcap] 34)) := hWm
          clear hWm hXL hc keepc hx HMA HMS n1 n2 hl1 hl2 hins t1 t2 t3 t4 t5 t6 hG hE1 hE2 v3
          cases hgq : (G.data.toList == []) with
          | true =>
            rw [hgq] at hGe
            have HGE : Hid (G.data.toList = []) := eq_of_beq hgq
            clear hgq
            have q15 : ¬ 9223372036854775807 < acc.size + 7 := by omega
            have q16 : ¬ 9223372036854775807 < acc.size + 7 + xn.size := by omega
            have q17 : ¬ 9223372036854775807 < acc.size + 7 + xn.size + 1 := by omega
            have q18 : ¬ 9223372036854775807 < acc.size + 7 + xn.size + 1 + xd.size := by omega
            have q19 : ¬ 9223372036854775807 < acc.size + 7 + xn.size + 1 + xd.size + 8 := by omega
            have q20 : ¬ 9223372036854775807 < acc.size + 7 + xn.size + 1 + xd.size + 8 + E1.size := by omega
            have q21 : ¬ 9223372036854775807 < acc.size + 7 + xn.size + 1 + xd.size + 8 + E1.size + 7 := by omega
            have q22 : ¬ 9223372036854775807 < acc.size + 7 + xn.size + 1 + xd.size + 8 + E1.size + 7 + E2.size := by omega
            have q23 : ¬ 9223372036854775807 < acc.size + 7 + xn.size + 1 + xd.size + 8 + E1.size + 7 + E2.size + 1 := by omega
            go_wp2_with (go_at_call 41; rw [← HWE.out]; refine (HMT.out _).mono ?_; rintro e w2 ⟨rfl, hb2⟩; have B2 : Hid (Below Wm.heap.size Wm w2) := hb2; have x9 : wr.heap.size < w2.heap.size := Nat.lt_of_lt_of_le HCm.out.1 hb2.size; have x3 : w2.cell? ⟨wr.heap.size, 3, none⟩ = some (.int .i64 xl) := (hb2.cell HCm.out.1).trans HCm.out.2.1; have x4 : w2.cell? ⟨wr.heap.size, 4, none⟩ = some (.int .i64 xs) := (hb2.cell HCm.out.1).trans HCm.out.2.2.1; clear hb2 HMT HWE)
            go_region_held3 (fun w' => w'.cell? ⟨wr.heap.size, 3, none⟩ = some (.int .i64 xl) ∧ w'.cell? ⟨wr.heap.size, 4, none⟩ = some (.int .i64 xs)) (go_keep)
              (first
                | (go_at_call 40; refine (HE1.out _).mono ?_; rintro e w4 ⟨rfl, hb4⟩; have B4 : Hid (Below Wm.heap.size Wm w4) := Below.step B2.out.drew hb4; have u9 : wr.heap.size < w4.heap.size := Nat.lt_of_lt_of_le HCm.out.1 B4.out.size; have u3 : w4.cell? ⟨wr.heap.size, 3, none⟩ = some (.int .i64 xl) := (B4.out.cell HCm.out.1).trans HCm.out.2.1; have u4' : w4.cell? ⟨wr.heap.size, 4, none⟩ = some (.int .i64 xs) := (B4.out.cell HCm.out.1).trans HCm.out.2.2.1; clear hb4 x3 x4 x9 HE1)
                | (go_at_call 40; have hB4 := B4; clear hB4; refine (HE2.out _).mono ?_; rintro e w5 ⟨rfl, hb5⟩; have B5 : Hid (Below Wm.heap.size Wm w5) := Below.step B4.out hb5; have r9 : wr.heap.size < w5.heap.size := Nat.lt_of_lt_of_le HCm.out.1 B5.out.size; have r3 : w5.cell? ⟨wr.heap.size, 3, none⟩ = some (.int .i64 xl) := (B5.out.cell HCm.out.1).trans HCm.out.2.1; have r4 : w5.cell? ⟨wr.heap.size, 4, none⟩ = some (.int .i64 xs) := (B5.out.cell HCm.out.1).trans HCm.out.2.2.1; clear hb5 u3 u4' u9 HE2))
            go_wp2
            have HA3 : Hid ((acc ++ ⟨#[109, 101, 116, 104, 111, 100, 32]⟩ ++ xn ++ ⟨#[32]⟩ ++ xd ++ ⟨#[10, 108, 111, 99, 97, 108, 115, 32]⟩ ++ E1 ++ ⟨#[10, 115, 116, 97, 99, 107, 32]⟩ ++ E2 ++ ⟨#[10]⟩).data.toList = PRE ++ (ms.take k).flatMap tMt ++ tMh xn.data.toList xd.data.toList G.data.toList E1.data.toList E2.data.toList) := by
              have hge := HGE.out
              rw [Hid]; simp [hD.out, tMh, tOpt, hge]
            have HA4 : Hid ((acc ++ ⟨#[109, 101, 116, 104, 111, 100, 32]⟩ ++ xn ++ ⟨#[32]⟩ ++ xd ++ ⟨#[10, 108, 111, 99, 97, 108, 115, 32]⟩ ++ E1 ++ ⟨#[10, 115, 116, 97, 99, 107, 32]⟩ ++ E2 ++ ⟨#[10]⟩).size ≤ 8000 + 3000000 * k + 20000) := by
              rw [Hid]; simp [ByteArray.size_append, sz1, sz10, szm, szl, szs]; omega
            generalize acc ++ ⟨#[109, 101, 116, 104, 111, 100, 32]⟩ ++ xn ++ ⟨#[32]⟩ ++ xd ++ ⟨#[10, 108, 111, 99, 97, 108, 115, 32]⟩ ++ E1 ++ ⟨#[10, 115, 116, 97, 99, 107, 32]⟩ ++ E2 ++ ⟨#[10]⟩ = acc1 at *
            obtain ⟨wo, hwo⟩ : ∃ x : World, x = wr := ⟨_, rfl⟩
            subst hwo
            clear q15 q16 q17 q18 q19 q20 q21 q22 q23 hac hD hE1s hE2s hGs hxns hxds r3 r4 r9 B2 B4
            go_loopg [4, 12] XL (fun g sv iv wi => ∃ (j : Nat) (acc : ByteArray), sv = .string acc ∧ iv = .int .i64 j ∧ j ≤ XL ∧ g = XL - j ∧ acc.size ≤ 8000 + 3000000 * k + 20000 + 9001 * j ∧ Hid (acc.data.toList = PRE ++ (ms.take k).flatMap tMt ++ tMh xn.data.toList xd.data.toList G.data.toList E1.data.toList E2.data.toList ++ (xc.take j).flatMap fun i => prtI i ++ [10]) ∧ Hid (Below Wm.heap.size Wm wi))
            case atStart => exact ⟨0, acc1, rfl, rfl, Nat.zero_le _, rfl, HA4.out, by simp [Hid, HA3.out], B5⟩
            case round =>
              obtain ⟨j, acc, rfl, rfl, hj, rfl, hac2, hD2, hb2⟩ := hrel
              clear HA3 HA4 B5
              have y5 : wr.cell? ⟨wo.heap.size, 5, none⟩ = some (.slice va XL vcap) := (hb2.out.cell HCm.out.1).trans HCm.out.2.2.2
              have y9 : wo.heap.size < wr.heap.size := Nat.lt_of_lt_of_le HCm.out.1 hb2.out.size
              by_cases hlt2 : j < XL
              · obtain ⟨bk2, o2, hao2, hbk2, hc2⟩ := HVA.out (by intro e; have := HXL.out; rw [e] at this; simp at this; omega)
                obtain ⟨y, hy⟩ : ∃ y, xc[j]? = some y := ⟨_, List.getElem?_eq_getElem (by rw [HXL.out]; exact hlt2)⟩
                subst hao2
                have HPX : Hid (∀ w' : World, Calls Tryz.prog 42 #[.agg #[.int .i64 y.op, .int .i64 y.n, .string y.t, .bool y.b, .string y.c, .string y.m, .string y.d]] w' fun e w'' => e = .returned (.tuple #[.string ⟨(prtI y).toArray⟩, .int .i64 (ickI y)]) ∧ Below w'.heap.size w' w'') := fun w' => HPI.out y w' (List.mem_of_getElem? hy)
                have hpl := HPL.out y (List.mem_of_getElem? hy)
                have HN2 : Hid ((xc.take (j + 1)).flatMap (fun i => prtI i ++ [10]) = (xc.take j).flatMap (fun i => prtI i ++ [10]) ++ (prtI y ++ [10])) := by
                  rw [Hid, List.take_add_one, hy]; simp
                have hbl : bk2 < wo.heap.size := Nat.lt_of_lt_of_le hbk2 (Nat.le_trans HWc.out.size hb.out.size)
                have keep2 : ∀ (u : Nat) (v : Value), W.cell? ⟨bk2, u, none⟩ = some v → wr.cell? ⟨bk2, u, none⟩ = some v := fun u v h => (hb2.out.cell (p := ⟨bk2, u, none⟩) (Nat.lt_of_lt_of_le hbl HWm2.out.size)).trans ((HWm2.out.cell (p := ⟨bk2, u, none⟩) hbl).trans ((hb.out.cell (p := ⟨bk2, u, none⟩) (Nat.lt_of_lt_of_le hbk2 HWc.out.size)).trans ((HWc.out.cell (p := ⟨bk2, u, none⟩) hbk2).trans h)))
                obtain ⟨c0', c1', c2', c3', c4', c5', c6'⟩ := hc2 j y hy
                replace c0' := keep2 _ _ c0'
                replace c1' := keep2 _ _ c1'
                replace c2' := keep2 _ _ c2'
                replace c3' := keep2 _ _ c3'
                replace c4' := keep2 _ _ c4'
                replace c5' := keep2 _ _ c5'
                replace c6' := keep2 _ _ c6'
                obtain ⟨P, hP⟩ : ∃ P : ByteArray, P = ⟨(prtI y).toArray⟩ := ⟨_, rfl⟩
                rw [← hP] at HPX
                have hPs : P.size ≤ 9000 := by rw [hP]; simpa [ByteArray.size] using hpl
                have HPD : Hid (P.data.toList = prtI y) := by rw [hP]; exact rfl
                generalize ickI y = ye at *
                generalize prtI y = PL at *
                obtain ⟨yo, yn, yt, yb, yc, ym, yd⟩ := y
                simp only at c0' c1' c2' c3' c4' c5' c6' HPX
                have q1 : ¬ 9223372036854775807 < acc.size + P.size := by omega
                have q2 : ¬ 9223372036854775807 < acc.size + P.size + 1 := by omega
                have HA5 : Hid ((acc ++ P ++ ⟨#[10]⟩).data.toList = PRE ++ (ms.take k).flatMap tMt ++ tMh xn.data.toList xd.data.toList G.data.toList E1.data.toList E2.data.toList ++ (xc.take (j + 1)).flatMap fun i => prtI i ++ [10]) := by rw [Hid, HN2.out]; simp [hD2.out, HPD.out]
                have HA6 : Hid ((acc ++ P ++ ⟨#[10]⟩).size ≤ 8000 + 3000000 * k + 20000 + 9001 * (j + 1)) := by rw [Hid]; simp [ByteArray.size_append, sz10]; omega
                clear hc2 keep2 hP hy hpl HPD HN2 hD2 HVA HPI HPL
                go_wp2_with (go_at_call 42; refine (HPX.out _).mono ?_; rintro e w6 ⟨rfl, hb6⟩; have B6 : Hid (Below Wm.heap.size Wm w6) := Below.step hb2.out hb6; clear hb6)
                go_roundg (XL - (j + 1))
                case measure => omega
                case rel => exact ⟨j + 1, _, rfl, by go_num, by omega, rfl, HA6.out, HA5, B6⟩
              · have e : j = XL := by omega
                subst e
                have HA7 : Hid (acc.data.toList = PRE ++ (ms.take (k + 1)).flatMap tMt) := by
                  have e9 : xc.take j = xc := List.take_of_length_le (by rw [HXL.out]; exact Nat.le_refl _)
                  rw [Hid, HN.out, HTM.out, hD2.out, e9]; simp
                have HA8 : Hid (acc.size ≤ 8000 + 3000000 * (k + 1)) := by unfold Hid; omega
                have B7 : Hid (Below Wc.heap.size Wc wr) := Below.step HWm.out hb2.out
                clear hD2 HVA HPI HPL hac2 HTM HN
                go_wp2
                go_roundg (M - (k + 1))
                case measure => omega
                case rel => exact ⟨k + 1, acc, rfl, by go_num, by omega, rfl, HA8.out, HA7, B7⟩
          | false =>
            rw [hgq] at hGe
            have HGE : Hid (G.data.toList ≠ []) := fun e => by rw [e] at hgq; exact absurd hgq (by decide)
            clear hgq
            have q24 : ¬ 9223372036854775807 < acc.size + 7 := by omega
            have q25 : ¬ 9223372036854775807 < acc.size + 7 + xn.size := by omega
            have q26 : ¬ 9223372036854775807 < acc.size + 7 + xn.size + 1 := by omega
            have q27 : ¬ 9223372036854775807 < acc.size + 7 + xn.size + 1 + xd.size := by omega
            have q28 : ¬ 9223372036854775807 < acc.size + 7 + xn.size + 1 + xd.size + 1 := by omega
            have q29 : ¬ 9223372036854775807 < acc.size + 7 + xn.size + 1 + xd.size + 1 + G.size := by omega
            have q30 : ¬ 9223372036854775807 < acc.size + 7 + xn.size + 1 + xd.size + 1 + G.size + 8 := by omega
            have q31 : ¬ 9223372036854775807 < acc.size + 7 + xn.size + 1 + xd.size + 1 + G.size + 8 + E1.size := by omega
            have q32 : ¬ 9223372036854775807 < acc.size + 7 + xn.size + 1 + xd.size + 1 + G.size + 8 + E1.size + 7 := by omega
            have q33 : ¬ 9223372036854775807 < acc.size + 7 + xn.size + 1 + xd.size + 1 + G.size + 8 + E1.size + 7 + E2.size := by omega
            have q34 : ¬ 9223372036854775807 < acc.size + 7 + xn.size + 1 + xd.size + 1 + G.size + 8 + E1.size + 7 + E2.size + 1 := by omega
            go_wp2_with (go_at_call 41; rw [← HWE.out]; refine (HMT.out _).mono ?_; rintro e w2 ⟨rfl, hb2⟩; have B2 : Hid (Below Wm.heap.size Wm w2) := hb2; have x9 : wr.heap.size < w2.heap.size := Nat.lt_of_lt_of_le HCm.out.1 hb2.size; have x3 : w2.cell? ⟨wr.heap.size, 3, none⟩ = some (.int .i64 xl) := (hb2.cell HCm.out.1).trans HCm.out.2.1; have x4 : w2.cell? ⟨wr.heap.size, 4, none⟩ = some (.int .i64 xs) := (hb2.cell HCm.out.1).trans HCm.out.2.2.1; clear hb2 HMT HWE)
            go_region_held3 (fun w' => w'.cell? ⟨wr.heap.size, 3, none⟩ = some (.int .i64 xl) ∧ w'.cell? ⟨wr.heap.size, 4, none⟩ = some (.int .i64 xs)) (go_keep)
              (first
                | (go_at_call 40; refine (HE1.out _).mono ?_; rintro e w4 ⟨rfl, hb4⟩; have B4 : Hid (Below Wm.heap.size Wm w4) := Below.step B2.out.drew hb4; have u9 : wr.heap.size < w4.heap.size := Nat.lt_of_lt_of_le HCm.out.1 B4.out.size; have u3 : w4.cell? ⟨wr.heap.size, 3, none⟩ = some (.int .i64 xl) := (B4.out.cell HCm.out.1).trans HCm.out.2.1; have u4' : w4.cell? ⟨wr.heap.size, 4, none⟩ = some (.int .i64 xs) := (B4.out.cell HCm.out.1).trans HCm.out.2.2.1; clear hb4 x3 x4 x9 HE1)
                | (go_at_call 40; have hB4 := B4; clear hB4; refine (HE2.out _).mono ?_; rintro e w5 ⟨rfl, hb5⟩; have B5 : Hid (Below Wm.heap.size Wm w5) := Below.step B4.out hb5; have r9 : wr.heap.size < w5.heap.size := Nat.lt_of_lt_of_le HCm.out.1 B5.out.size; have r3 : w5.cell? ⟨wr.heap.size, 3, none⟩ = some (.int .i64 xl) := (B5.out.cell HCm.out.1).trans HCm.out.2.1; have r4 : w5.cell? ⟨wr.heap.size, 4, none⟩ = some (.int .i64 xs) := (B5.out.cell HCm.out.1).trans HCm.out.2.2.1; clear hb5 u3 u4' u9 HE2))
            go_wp2
            have HA3 : Hid ((acc ++ ⟨#[109, 101, 116, 104, 111, 100, 32]⟩ ++ xn ++ ⟨#[32]⟩ ++ xd ++ ⟨#[32]⟩ ++ G ++ ⟨#[10, 108, 111, 99, 97, 108, 115, 32]⟩ ++ E1 ++ ⟨#[10, 115, 116, 97, 99, 107, 32]⟩ ++ E2 ++ ⟨#[10]⟩).data.toList = PRE ++ (ms.take k).flatMap tMt ++ tMh xn.data.toList xd.data.toList G.data.toList E1.data.toList E2.data.toList) := by
              have hge := HGE.out
              rw [Hid]; simp [hD.out, tMh, tOpt, hge]
            have HA4 : Hid ((acc ++ ⟨#[109, 101, 116, 104, 111, 100, 32]⟩ ++ xn ++ ⟨#[32]⟩ ++ xd ++ ⟨#[32]⟩ ++ G ++ ⟨#[10, 108, 111, 99, 97, 108, 115, 32]⟩ ++ E1 ++ ⟨#[10, 115, 116, 97, 99, 107, 32]⟩ ++ E2 ++ ⟨#[10]⟩).size ≤ 8000 + 3000000 * k + 20000) := by
              rw [Hid]; simp [ByteArray.size_append, sz1, sz10, szm, szl, szs]; omega
            generalize acc ++ ⟨#[109, 101, 116, 104, 111, 100, 32]⟩ ++ xn ++ ⟨#[32]⟩ ++ xd ++ ⟨#[32]⟩ ++ G ++ ⟨#[10, 108, 111, 99, 97, 108, 115, 32]⟩ ++ E1 ++ ⟨#[10, 115, 116, 97, 99, 107, 32]⟩ ++ E2 ++ ⟨#[10]⟩ = acc1 at *
            obtain ⟨wo, hwo⟩ : ∃ x : World, x = wr := ⟨_, rfl⟩
            subst hwo
            clear q24 q25 q26 q27 q28 q29 q30 q31 q32 q33 q34 hac hD hE1s hE2s hGs hxns hxds r3 r4 r9 B2 B4
            go_loopg [4, 12] XL (fun g sv iv wi => ∃ (j : Nat) (acc : ByteArray), sv = .string acc ∧ iv = .int .i64 j ∧ j ≤ XL ∧ g = XL - j ∧ acc.size ≤ 8000 + 3000000 * k + 20000 + 9001 * j ∧ Hid (acc.data.toList = PRE ++ (ms.take k).flatMap tMt ++ tMh xn.data.toList xd.data.toList G.data.toList E1.data.toList E2.data.toList ++ (xc.take j).flatMap fun i => prtI i ++ [10]) ∧ Hid (Below Wm.heap.size Wm wi))
            case atStart => exact ⟨0, acc1, rfl, rfl, Nat.zero_le _, rfl, HA4.out, by simp [Hid, HA3.out], B5⟩
            case round =>
              obtain ⟨j, acc, rfl, rfl, hj, rfl, hac2, hD2, hb2⟩ := hrel
              clear HA3 HA4 B5
              have y5 : wr.cell? ⟨wo.heap.size, 5, none⟩ = some (.slice va XL vcap) := (hb2.out.cell HCm.out.1).trans HCm.out.2.2.2
              have y9 : wo.heap.size < wr.heap.size := Nat.lt_of_lt_of_le HCm.out.1 hb2.out.size
              by_cases hlt2 : j < XL
              · obtain ⟨bk2, o2, hao2, hbk2, hc2⟩ := HVA.out (by intro e; have := HXL.out; rw [e] at this; simp at this; omega)
                obtain ⟨y, hy⟩ : ∃ y, xc[j]? = some y := ⟨_, List.getElem?_eq_getElem (by rw [HXL.out]; exact hlt2)⟩
                subst hao2
                have HPX : Hid (∀ w' : World, Calls Tryz.prog 42 #[.agg #[.int .i64 y.op, .int .i64 y.n, .string y.t, .bool y.b, .string y.c, .string y.m, .string y.d]] w' fun e w'' => e = .returned (.tuple #[.string ⟨(prtI y).toArray⟩, .int .i64 (ickI y)]) ∧ Below w'.heap.size w' w'') := fun w' => HPI.out y w' (List.mem_of_getElem? hy)
                have hpl := HPL.out y (List.mem_of_getElem? hy)
                have HN2 : Hid ((xc.take (j + 1)).flatMap (fun i => prtI i ++ [10]) = (xc.take j).flatMap (fun i => prtI i ++ [10]) ++ (prtI y ++ [10])) := by
                  rw [Hid, List.take_add_one, hy]; simp
                have hbl : bk2 < wo.heap.size := Nat.lt_of_lt_of_le hbk2 (Nat.le_trans HWc.out.size hb.out.size)
                have keep2 : ∀ (u : Nat) (v : Value), W.cell? ⟨bk2, u, none⟩ = some v → wr.cell? ⟨bk2, u, none⟩ = some v := fun u v h => (hb2.out.cell (p := ⟨bk2, u, none⟩) (Nat.lt_of_lt_of_le hbl HWm2.out.size)).trans ((HWm2.out.cell (p := ⟨bk2, u, none⟩) hbl).trans ((hb.out.cell (p := ⟨bk2, u, none⟩) (Nat.lt_of_lt_of_le hbk2 HWc.out.size)).trans ((HWc.out.cell (p := ⟨bk2, u, none⟩) hbk2).trans h)))
                obtain ⟨c0', c1', c2', c3', c4', c5', c6'⟩ := hc2 j y hy
                replace c0' := keep2 _ _ c0'
                replace c1' := keep2 _ _ c1'
                replace c2' := keep2 _ _ c2'
                replace c3' := keep2 _ _ c3'
                replace c4' := keep2 _ _ c4'
                replace c5' := keep2 _ _ c5'
                replace c6' := keep2 _ _ c6'
                obtain ⟨P, hP⟩ : ∃ P : ByteArray, P = ⟨(prtI y).toArray⟩ := ⟨_, rfl⟩
                rw [← hP] at HPX
                have hPs : P.size ≤ 9000 := by rw [hP]; simpa [ByteArray.size] using hpl
                have HPD : Hid (P.data.toList = prtI y) := by rw [hP]; exact rfl
                generalize ickI y = ye at *
                generalize prtI y = PL at *
                obtain ⟨yo, yn, yt, yb, yc, ym, yd⟩ := y
                simp only at c0' c1' c2' c3' c4' c5' c6' HPX
                have q1 : ¬ 9223372036854775807 < acc.size + P.size := by omega
                have q2 : ¬ 9223372036854775807 < acc.size + P.size + 1 := by omega
                have HA5 : Hid ((acc ++ P ++ ⟨#[10]⟩).data.toList = PRE ++ (ms.take k).flatMap tMt ++ tMh xn.data.toList xd.data.toList G.data.toList E1.data.toList E2.data.toList ++ (xc.take (j + 1)).flatMap fun i => prtI i ++ [10]) := by rw [Hid, HN2.out]; simp [hD2.out, HPD.out]
                have HA6 : Hid ((acc ++ P ++ ⟨#[10]⟩).size ≤ 8000 + 3000000 * k + 20000 + 9001 * (j + 1)) := by rw [Hid]; simp [ByteArray.size_append, sz10]; omega
                clear hc2 keep2 hP hy hpl HPD HN2 hD2 HVA HPI HPL
                go_wp2_with (go_at_call 42; refine (HPX.out _).mono ?_; rintro e w6 ⟨rfl, hb6⟩; have B6 : Hid (Below Wm.heap.size Wm w6) := Below.step hb2.out hb6; clear hb6)
                go_roundg (XL - (j + 1))
                case measure => omega
                case rel => exact ⟨j + 1, _, rfl, by go_num, by omega, rfl, HA6.out, HA5, B6⟩
              · have e : j = XL := by omega
                subst e
                have HA7 : Hid (acc.data.toList = PRE ++ (ms.take (k + 1)).flatMap tMt) := by
                  have e9 : xc.take j = xc := List.take_of_length_le (by rw [HXL.out]; exact Nat.le_refl _)
                  rw [Hid, HN.out, HTM.out, hD2.out, e9]; simp
                have HA8 : Hid (acc.size ≤ 8000 + 3000000 * (k + 1)) := by unfold Hid; omega
                have B7 : Hid (Below Wc.heap.size Wc wr) := Below.step HWm.out hb2.out
                clear hD2 HVA HPI HPL hac2 HTM HN
                go_wp2
                go_roundg (M - (k + 1))
                case measure => omega
                case rel => exact ⟨k + 1, acc, rfl, by go_num, by omega, rfl, HA8.out, HA7, B7⟩
        · have e : k = M := by omega
          subst e
          have HA7 : Hid ((acc ++ ⟨#[101, 110, 100, 10]⟩).data.toList = CT) := by
            rw [Hid, HTC.out, HPRE.out]; simp [hD.out, List.take_of_length_le (show ms.length ≤ k by rw [HL.out]; exact Nat.le_refl _)]
          have HA8 : Hid (acc ++ ⟨#[101, 110, 100, 10]⟩ = ⟨CT.toArray⟩) := by rw [Hid, ← HA7.out]
          have q1 : ¬ 9223372036854775807 < acc.size + 4 := by omega
          clear hD HMA HMS HTC HPRE
          go_wp2
          go_ret2
          exact ⟨by rw [← HA8.out]; rfl, Below.step HWc.out hb.out⟩
end Go.Proofs.YtfbhjfpkhofifaaGreatDoor

namespace Go.Proofs.YtfbhjfpkhofifaaGreatDoor
open Go.RowKit

set_option maxRecDepth 100000 in
set_option maxHeartbeats 4000000 in
theorem rprint_n (c : Cls) (vi vm : Value) (W : World) (hi : IsStrs W vi c.ifs) (hm : IsMths W vm c.ms) (hw : ClsW c) (hb : clsB c = true) (hq : (textF c.fl clsP == []) = false) :
    Calls Tryz.prog 15 #[clsV c vi vm] W fun e w' => e = .returned (.tuple #[.string ⟨(tCls c).toArray⟩, .int .i64 0]) ∧ Below W.heap.size W w' := by
  have HC : Hid (∀ w', Below W.heap.size W w' → Calls Tryz.prog 9 #[clsV c vi vm] w' fun e w'' => e = .returned (.int .i64 0) ∧ Below w'.heap.size w' w'') := fun w' h => by
    have := rcheckW_any c vi vm w' (hi.keep h) (hm.keep h) hw
    rw [clsE, hb] at this
    exact this
  have hS := cls_sound hb
  obtain ⟨s1, s2, s3, s4, s5, s6⟩ := hw
  obtain ⟨nm, su, ifs, fl, ld, ms⟩ := c
  simp only at hi hm s1 s2 s3 s4 s5 s6
  have hnm := (val_ne hS.nm).2
  have hsu := (val_ne hS.su).2
  have hld := hS.ld
  simp only at hnm hsu hld
  have hnms : nm.size ≤ 60 := by have : nm.data.toList.length = nm.size := by rw [Array.length_toList]; rfl
                                 omega
  have hsus : su.size ≤ 60 := by have : su.data.toList.length = su.size := by rw [Array.length_toList]; rfl
                                 omega
  obtain ⟨T, hT⟩ : ∃ T : ByteArray, T = ⟨(textF fl clsP).toArray⟩ := ⟨_, rfl⟩
  have hTs : T.size ≤ 2100 := by rw [hT]; have := textF_len fl clsP clsP_small (by decide); simpa [ByteArray.size] using this
  have HCT : Hid (∀ w' : World, Calls Tryz.prog 39 #[.int .i64 fl] w' fun e w'' => e = .returned (.tuple #[.string T, .int .i64 (textE fl clsP)]) ∧ Below w'.heap.size w' w'') := fun w' => by rw [hT]; exact rClassText_any fl w'
  obtain ⟨D1, hD1⟩ : ∃ D : ByteArray, D = ⟨(Lib.itoa ld).toArray⟩ := ⟨_, rfl⟩
  have hD1s : D1.size ≤ 21 := by rw [hD1]; exact itoa_size ld (by omega) (by omega)
  have HI1 : Hid (∀ w' : World, Calls Tryz.prog 40 #[.int .i64 ld] w' fun e w'' => e = .returned (.string D1) ∧ Below w'.heap.size w' w'') := fun w' => by rw [hD1]; exact rDecimal_any ld (by omega) (by omega) w'
  have HQ : Hid ((T.data.toList == []) = false) := by rw [Hid, hT]; exact hq
  clear hq
  have HTC : Hid (tCls ⟨nm, su, ifs, fl, ld, ms⟩ = tHead nm.data.toList su.data.toList ++ ifs.flatMap tIf ++ tFl T.data.toList D1.data.toList ++ ms.flatMap tMt ++ [101, 110, 100, 10]) := by rw [Hid, hT, hD1]; rfl
  have HMS : Hid (∀ m ∈ ms, MthS m ∧ MthW m) := fun m hm => ⟨hS.ms m hm, s6 m hm⟩
  have HIS : Hid (∀ p ∈ ifs, p.length ≤ 60) := fun p hp => (val_ne (hS.ifs p hp)).2
  have hnif : ifs.length ≤ 20 := hS.nif
  have hnmm : ms.length ≤ 40 := hS.nms
  have hTe : T.toList.isEmpty = (T.data.toList == []) := by rw [Lib.toList_data]; cases T.data.toList <;> rfl
  generalize tCls ⟨nm, su, ifs, fl, ld, ms⟩ = CT at *
  obtain ⟨ai, capi, rfl, i1, i2, i3⟩ := hi
  obtain ⟨am, capm, rfl, m1, m2, m3⟩ := hm
  have HIA : Hid _ := i3
  have HMA : Hid _ := m3
  unfold maxLen at i2 m2
  simp only [clsV] at HC ⊢
  obtain ⟨K, hK⟩ : ∃ K, ifs.length = K := ⟨_, rfl⟩
  obtain ⟨M, hM⟩ : ∃ M, ms.length = M := ⟨_, rfl⟩
  rw [hK] at i1 HC hnif ⊢
  rw [hM] at m1 HC hnmm ⊢
  have HK : Hid (ifs.length = K) := hK
  have HL : Hid (ms.length = M) := hM
  clear hb hS s1 s2 s3 s4 s5 s6 hnm hsu hld hT hD1 i3 m3 hK hM
  generalize textE fl clsP = te at *
  obtain ⟨Wc, hWc⟩ : ∃ x, x = W.alloc (.cells #[.string nm, .string su, .slice ai K capi, .int .i64 fl, .int .i64 ld, .slice am M capm] 25) := ⟨_, rfl⟩
  have HWc : Hid (Below W.heap.size W Wc) := by rw [hWc]; exact (Below.refl _ _).alloc (Nat.le_refl _) _
  have HCc : Hid (CB Wc W.heap.size nm su (.slice ai K capi) fl ld (.slice am M capm)) := by rw [hWc]; exact ⟨by simp, by simp [go_sem], by simp [go_sem], by simp [go_sem], by simp [go_sem], by simp [go_sem], by simp [go_sem]⟩
  have HWE : Hid (Wc = W.alloc (.cells #[.string nm, .string su, .slice ai K capi, .int .i64 fl, .int .i64 ld, .slice am M capm] 25)) := hWc
  clear hWc
  have q1 : ¬ 9223372036854775807 < 6 + nm.size := by omega
  have q2 : ¬ 9223372036854775807 < 6 + nm.size + 7 := by omega
  have q3 : ¬ 9223372036854775807 < 6 + nm.size + 7 + su.size := by omega
  have q4 : ¬ 9223372036854775807 < 6 + nm.size + 7 + su.size + 1 := by omega
  go_enter Tryz.func15, Tryz.ntmps15
  go_wp2_with (go_at_call 9; rw [← HWE.out]; refine (HC.out _ HWc.out).mono ?_; rintro e w1 ⟨rfl, hb1⟩; obtain ⟨y9, y0, y1, y2, y3, y4, y5⟩ := HCc.out.keep hb1; have B1 : Hid (Below Wc.heap.size Wc w1) := hb1; clear hb1 HWE HC)
  clear y0 y1 y2 y3 y4 y5 y9
  have HA0 : Hid ((⟨#[99, 108, 97, 115, 115, 32]⟩ ++ nm ++ ⟨#[10, 115, 117, 112, 101, 114, 32]⟩ ++ su ++ ⟨#[10]⟩ : ByteArray).data.toList = tHead nm.data.toList su.data.toList) := by rw [Hid]; simp [tHead]
  have HA9 : Hid ((⟨#[99, 108, 97, 115, 115, 32]⟩ ++ nm ++ ⟨#[10, 115, 117, 112, 101, 114, 32]⟩ ++ su ++ ⟨#[10]⟩ : ByteArray).size ≤ 200) := by rw [Hid]; simp [ByteArray.size_append, sz6, sz7, sz10]; omega
  generalize (⟨#[99, 108, 97, 115, 115, 32]⟩ ++ nm ++ ⟨#[10, 115, 117, 112, 101, 114, 32]⟩ ++ su ++ ⟨#[10]⟩ : ByteArray) = acc00 at *
  go_loopg [4, 5] K (fun g sv iv wr => ∃ (i : Nat) (acc : ByteArray), sv = .string acc ∧ iv = .int .i64 i ∧ i ≤ K ∧ g = K - i ∧ acc.size ≤ 200 + 100 * i ∧ Hid (acc.data.toList = tHead nm.data.toList su.data.toList ++ (ifs.take i).flatMap tIf) ∧ Hid (Below Wc.heap.size Wc wr))
  case atStart => exact ⟨0, acc00, rfl, rfl, Nat.zero_le _, rfl, HA9.out, by simp [Hid, HA0.out], B1⟩
  case round =>
    obtain ⟨i, acc, rfl, rfl, hi, rfl, hac, hD, hb⟩ := hrel
    clear HA0 HA9 B1 q1 q2 q3 q4
    by_cases hlt : i < K
    · obtain ⟨bk, o, hao, hbk, hc⟩ := HIA.out (by intro e; have := HK.out; rw [e] at this; simp at this; omega)
      obtain ⟨x, hx⟩ : ∃ x, ifs[i]? = some x := ⟨_, List.getElem?_eq_getElem (by rw [HK.out]; exact hlt)⟩
      subst hao
      have HN : Hid (tHead nm.data.toList su.data.toList ++ (ifs.take (i + 1)).flatMap tIf = tHead nm.data.toList su.data.toList ++ (ifs.take i).flatMap tIf ++ tIf x) := by
        rw [Hid, List.take_add_one, hx]; simp
      have p0 := (hb.out.cell (Nat.lt_of_lt_of_le hbk HWc.out.size)).trans ((HWc.out.cell hbk).trans (hc i x hx))
      obtain ⟨z9, z0, z1, z2, z3, z4, z5⟩ := HCc.out.keep hb.out
      have hxl := HIS.out x (List.mem_of_getElem? hx)
      obtain ⟨X, hX⟩ : ∃ X : ByteArray, X = ⟨x.toArray⟩ := ⟨_, rfl⟩
      have hXs : X.size ≤ 60 := by rw [hX]; simpa [ByteArray.size] using hxl
      have HX : Hid (X.data.toList = x) := by rw [hX]; exact rfl
      rw [← hX] at p0
      have q1 : ¬ 9223372036854775807 < acc.size + 6 := by omega
      have q2 : ¬ 9223372036854775807 < acc.size + 6 + X.size := by omega
      have q3 : ¬ 9223372036854775807 < acc.size + 6 + X.size + 1 := by omega
      have HA1 : Hid ((acc ++ ⟨#[105, 102, 97, 99, 101, 32]⟩ ++ X ++ ⟨#[10]⟩).data.toList = tHead nm.data.toList su.data.toList ++ (ifs.take (i + 1)).flatMap tIf) := by rw [Hid, HN.out]; simp [hD.out, HX.out, tIf]
      have HA2 : Hid ((acc ++ ⟨#[105, 102, 97, 99, 101, 32]⟩ ++ X ++ ⟨#[10]⟩).size ≤ 200 + 100 * (i + 1)) := by rw [Hid]; simp [ByteArray.size_append, sz6', sz10]; omega
      clear hc hX hx hxl HIA HMA HN hD HX
      go_wp2
      go_roundg (K - (i + 1))
      case measure => omega
      case rel => exact ⟨i + 1, _, rfl, by go_num, by omega, rfl, HA2.out, HA1, hb⟩
    · have e : i = K := by omega
      subst e
      have hD2 : Hid (acc.data.toList = tHead nm.data.toList su.data.toList ++ ifs.flatMap tIf) := by rw [Hid, hD.out, List.take_of_length_le (by rw [HK.out]; exact Nat.le_refl _)]
      clear hD HIA
      have hq := HQ.out
      rw [hq] at hTe
      have HTE : Hid (T.data.toList ≠ []) := fun e => by rw [e] at hq; exact absurd hq (by decide)
      clear hq HQ
      obtain ⟨z9, z0, z1, z2, z3, z4, z5⟩ := HCc.out.keep hb.out
      have q35 : ¬ 9223372036854775807 < acc.size + 5 := by omega
      have q36 : ¬ 9223372036854775807 < acc.size + 5 + 1 := by omega
      have q37 : ¬ 9223372036854775807 < acc.size + 5 + 1 + T.size := by omega
      have q38 : ¬ 9223372036854775807 < acc.size + 5 + 1 + T.size + 8 := by omega
      have q39 : ¬ 9223372036854775807 < acc.size + 5 + 1 + T.size + 8 + D1.size := by omega
      have q40 : ¬ 9223372036854775807 < acc.size + 5 + 1 + T.size + 8 + D1.size + 1 := by omega
      go_wp2_with (first
        | (go_at_call 39; refine (HCT.out _).mono ?_; rintro e w2 ⟨rfl, hb2⟩; have B2 : Hid (Below Wc.heap.size Wc w2) := Below.step hb.out hb2; clear hb2 z0 z1 z2 z3 z4 z5 z9 HCT; obtain ⟨z9, z0, z1, z2, z3, z4, z5⟩ := HCc.out.keep B2.out)
        | (go_at_call 40; refine (HI1.out _).mono ?_; rintro e w3 ⟨rfl, hb3⟩; have B3 : Hid (Below Wc.heap.size Wc w3) := Below.step B2.out hb3; clear hb3 z0 z1 z2 z3 z4 z5 z9 HI1))
      have HA1 : Hid ((acc ++ ⟨#[102, 108, 97, 103, 115]⟩ ++ ⟨#[32]⟩ ++ T ++ ⟨#[10, 108, 111, 97, 100, 101, 114, 32]⟩ ++ D1 ++ ⟨#[10]⟩).data.toList = tHead nm.data.toList su.data.toList ++ ifs.flatMap tIf ++ tFl T.data.toList D1.data.toList) := by
        have hte := HTE.out
        rw [Hid]; simp [hD2.out, tFl, tOpt, hte]
      have HA2 : Hid ((acc ++ ⟨#[102, 108, 97, 103, 115]⟩ ++ ⟨#[32]⟩ ++ T ++ ⟨#[10, 108, 111, 97, 100, 101, 114, 32]⟩ ++ D1 ++ ⟨#[10]⟩).size ≤ 8000) := by
        rw [Hid]; simp [ByteArray.size_append, sz5, sz1, sz8, sz10]; omega
      generalize acc ++ ⟨#[102, 108, 97, 103, 115]⟩ ++ ⟨#[32]⟩ ++ T ++ ⟨#[10, 108, 111, 97, 100, 101, 114, 32]⟩ ++ D1 ++ ⟨#[10]⟩ = acc0 at *
      obtain ⟨PRE, hPRE⟩ : ∃ PRE, PRE = tHead nm.data.toList su.data.toList ++ ifs.flatMap tIf ++ tFl T.data.toList D1.data.toList := ⟨_, rfl⟩
      rw [← hPRE] at HA1
      have HPRE : Hid (tHead nm.data.toList su.data.toList ++ ifs.flatMap tIf ++ tFl T.data.toList D1.data.toList = PRE) := hPRE.symm
      clear hPRE
      clear q35 q36 q37 q38 q39 q40 B2 hb hD2
      go_loopg [4, 8] M (fun g sv iv wr => ∃ (k : Nat) (acc : ByteArray), sv = .string acc ∧ iv = .int .i64 k ∧ k ≤ M ∧ g = M - k ∧ acc.size ≤ 8000 + 3000000 * k ∧ Hid (acc.data.toList = PRE ++ (ms.take k).flatMap tMt) ∧ Hid (Below Wc.heap.size Wc wr))
      case atStart => exact ⟨0, acc0, rfl, rfl, Nat.zero_le _, rfl, HA2.out, by simp [Hid, HA1.out], B3⟩
      case round =>
        obtain ⟨k, acc, rfl, rfl, hk, rfl, hac, hD, hb⟩ := hrel
        clear HA1 HA2 B3
        obtain ⟨z9, z0, z1, z2, z3, z4, z5⟩ := HCc.out.keep hb.out
        by_cases hlt : k < M
        · obtain ⟨bk, o, hao, hbk, hc⟩ := HMA.out (by intro e; have := HL.out; rw [e] at this; simp at this; omega)
          obtain ⟨x, hx⟩ : ∃ x, ms[k]? = some x := ⟨_, List.getElem?_eq_getElem (by rw [HL.out]; exact hlt)⟩
          subst hao
          obtain ⟨hMS, t1, t2, t3, t4, t5, t6⟩ := HMS.out x (List.mem_of_getElem? hx)
          have n1 := member_len hMS.mem
          have n2 := pd_len hMS.desc
          have hl1 := hMS.lo
          have hl2 := hMS.st
          have hnum := hMS.num
          have hins := hMS.ins
          have HN : Hid (PRE ++ (ms.take (k + 1)).flatMap tMt = PRE ++ (ms.take k).flatMap tMt ++ tMt x) := by
            rw [Hid, List.take_add_one, hx]; simp
          obtain ⟨p0, p1, p2, p3, p4, vc, p5, hI⟩ := hc k x hx
          obtain ⟨xn, xd, xf, xl, xs, xc⟩ := x
          simp only at n1 n2 hl1 hl2 hnum hins t1 t2 t3 t4 t5 t6 p0 p1 p2 p3 p4 p5 hI
          obtain ⟨va, vcap, rfl, v1, v2, v3⟩ := hI
          have HVA : Hid _ := v3
          obtain ⟨XL, hXL⟩ : ∃ XL, xc.length = XL := ⟨_, rfl⟩
          rw [hXL] at v1 hnum p5
          have HXL : Hid (xc.length = XL) := hXL
          unfold maxLen at v2
          have keepc : ∀ (j : Nat) (v : Value), W.cell? ⟨bk, j, none⟩ = some v → wr.cell? ⟨bk, j, none⟩ = some v := fun j v h => (hb.out.cell (p := ⟨bk, j, none⟩) (Nat.lt_of_lt_of_le hbk HWc.out.size)).trans ((HWc.out.cell (p := ⟨bk, j, none⟩) hbk).trans h)
          replace p0 := keepc _ _ p0
          replace p1 := keepc _ _ p1
          replace p2 := keepc _ _ p2
          replace p3 := keepc _ _ p3
          replace p4 := keepc _ _ p4
          replace p5 := keepc _ _ p5
          have hxns : xn.size ≤ 60 := (show xn.data.toList.length = xn.size by rw [Array.length_toList]; rfl) ▸ n1
          have hxds : xd.size ≤ 2000 := (show xd.data.toList.length = xd.size by rw [Array.length_toList]; rfl) ▸ n2
          obtain ⟨G, hG⟩ : ∃ T : ByteArray, T = ⟨(textF xf mthP).toArray⟩ := ⟨_, rfl⟩
          have hGs : G.size ≤ 2100 := by rw [hG]; have := textF_len xf mthP mthP_small (by decide); simpa [ByteArray.size] using this
          have HMT : Hid (∀ w' : World, Calls Tryz.prog 41 #[.int .i64 xf] w' fun e w'' => e = .returned (.tuple #[.string G, .int .i64 (textE xf mthP)]) ∧ Below w'.heap.size w' w'') := fun w' => by rw [hG]; exact rMethodText_any xf w'
          obtain ⟨E1, hE1⟩ : ∃ D : ByteArray, D = ⟨(Lib.itoa xl).toArray⟩ := ⟨_, rfl⟩
          obtain ⟨E2, hE2⟩ : ∃ D : ByteArray, D = ⟨(Lib.itoa xs).toArray⟩ := ⟨_, rfl⟩
          have hE1s : E1.size ≤ 21 := by rw [hE1]; exact itoa_size xl (by omega) (by omega)
          have hE2s : E2.size ≤ 21 := by rw [hE2]; exact itoa_size xs (by omega) (by omega)
          have HE1 : Hid (∀ w' : World, Calls Tryz.prog 40 #[.int .i64 xl] w' fun e w'' => e = .returned (.string E1) ∧ Below w'.heap.size w' w'') := fun w' => by rw [hE1]; exact rDecimal_any xl (by omega) (by omega) w'
          have HE2 : Hid (∀ w' : World, Calls Tryz.prog 40 #[.int .i64 xs] w' fun e w'' => e = .returned (.string E2) ∧ Below w'.heap.size w' w'') := fun w' => by rw [hE2]; exact rDecimal_any xs (by omega) (by omega) w'
          have HTM : Hid (tMt ⟨xn, xd, xf, xl, xs, xc⟩ = tMh xn.data.toList xd.data.toList G.data.toList E1.data.toList E2.data.toList ++ xc.flatMap fun i => prtI i ++ [10]) := by rw [Hid, hG, hE1, hE2]; rfl
          have HPI : Hid (∀ (y : Ins) (w' : World), y ∈ xc → Calls Tryz.prog 42 #[.agg #[.int .i64 y.op, .int .i64 y.n, .string y.t, .bool y.b, .string y.c, .string y.m, .string y.d]] w' fun e w'' => e = .returned (.tuple #[.string ⟨(prtI y).toArray⟩, .int .i64 (ickI y)]) ∧ Below w'.heap.size w' w'') := fun y w' hy => by
            obtain ⟨⟨b1, b2⟩, b3, b4, b5, b6⟩ := t6 y hy
            exact rPrint_any y.op y.n b1 b2 y.t y.b y.c y.m y.d b3 b4 b5 b6 w'
          have HPL : Hid (∀ y ∈ xc, (prtI y).length ≤ 9000) := fun y hy => prt_len (hins y hy)
          generalize tMt ⟨xn, xd, xf, xl, xs, xc⟩ = XT at *
          generalize textE xf mthP = ge at *
          have hGe : G.toList.isEmpty = (G.data.toList == []) := by rw [Lib.toList_data]; cases G.data.toList <;> rfl
          obtain ⟨Wm, hWm⟩ : ∃ x, x = wr.alloc (.cells #[.string xn, .string xd, .int .i64 xf, .int .i64 xl, .int .i64 xs, .slice va XL vcap] 34) := ⟨_, rfl⟩
          have HWm : Hid (Below Wc.heap.size Wc Wm) := by rw [hWm]; exact bal hb.out _
          have HWm2 : Hid (Below wr.heap.size wr Wm) := by rw [hWm]; exact (Below.refl _ _).alloc (Nat.le_refl _) _
          have HCm : Hid (wr.heap.size < Wm.heap.size ∧ Wm.cell? ⟨wr.heap.size, 3, none⟩ = some (.int .i64 xl) ∧ Wm.cell? ⟨wr.heap.size, 4, none⟩ = some (.int .i64 xs) ∧ Wm.cell? ⟨wr.heap.size, 5, none⟩ = some (.slice va XL vcap)) := by rw [hWm]; exact ⟨by simp, by simp [go_sem], by simp [go_sem], by simp [go_sem]⟩
          have HWE : Hid (Wm = wr.alloc (.cells #[.string xn, .string xd, .int .i64 xf, .int .i64 xl, .int .i64 xs, .slice va XL vcap] 34)) := hWm
          clear hWm hXL hc keepc hx HMA HMS n1 n2 hl1 hl2 hins t1 t2 t3 t4 t5 t6 hG hE1 hE2 v3
          cases hgq : (G.data.toList == []) with
          | true =>
            rw [hgq] at hGe
            have HGE : Hid (G.data.toList = []) := eq_of_beq hgq
            clear hgq
            have q41 : ¬ 9223372036854775807 < acc.size + 7 := by omega
            have q42 : ¬ 9223372036854775807 < acc.size + 7 + xn.size := by omega
            have q43 : ¬ 9223372036854775807 < acc.size + 7 + xn.size + 1 := by omega
            have q44 : ¬ 9223372036854775807 < acc.size + 7 + xn.size + 1 + xd.size := by omega
            have q45 : ¬ 9223372036854775807 < acc.size + 7 + xn.size + 1 + xd.size + 8 := by omega
            have q46 : ¬ 9223372036854775807 < acc.size + 7 + xn.size + 1 + xd.size + 8 + E1.size := by omega
            have q47 : ¬ 9223372036854775807 < acc.size + 7 + xn.size + 1 + xd.size + 8 + E1.size + 7 := by omega
            have q48 : ¬ 9223372036854775807 < acc.size + 7 + xn.size + 1 + xd.size + 8 + E1.size + 7 + E2.size := by omega
            have q49 : ¬ 9223372036854775807 < acc.size + 7 + xn.size + 1 + xd.size + 8 + E1.size + 7 + E2.size + 1 := by omega
            go_wp2_with (go_at_call 41; rw [← HWE.out]; refine (HMT.out _).mono ?_; rintro e w2 ⟨rfl, hb2⟩; have B2 : Hid (Below Wm.heap.size Wm w2) := hb2; have x9 : wr.heap.size < w2.heap.size := Nat.lt_of_lt_of_le HCm.out.1 hb2.size; have x3 : w2.cell? ⟨wr.heap.size, 3, none⟩ = some (.int .i64 xl) := (hb2.cell HCm.out.1).trans HCm.out.2.1; have x4 : w2.cell? ⟨wr.heap.size, 4, none⟩ = some (.int .i64 xs) := (hb2.cell HCm.out.1).trans HCm.out.2.2.1; clear hb2 HMT HWE)
            go_region_held3 (fun w' => w'.cell? ⟨wr.heap.size, 3, none⟩ = some (.int .i64 xl) ∧ w'.cell? ⟨wr.heap.size, 4, none⟩ = some (.int .i64 xs)) (go_keep)
              (first
                | (go_at_call 40; refine (HE1.out _).mono ?_; rintro e w4 ⟨rfl, hb4⟩; have B4 : Hid (Below Wm.heap.size Wm w4) := Below.step B2.out.drew hb4; have u9 : wr.heap.size < w4.heap.size := Nat.lt_of_lt_of_le HCm.out.1 B4.out.size; have u3 : w4.cell? ⟨wr.heap.size, 3, none⟩ = some (.int .i64 xl) := (B4.out.cell HCm.out.1).trans HCm.out.2.1; have u4' : w4.cell? ⟨wr.heap.size, 4, none⟩ = some (.int .i64 xs) := (B4.out.cell HCm.out.1).trans HCm.out.2.2.1; clear hb4 x3 x4 x9 HE1)
                | (go_at_call 40; have hB4 := B4; clear hB4; refine (HE2.out _).mono ?_; rintro e w5 ⟨rfl, hb5⟩; have B5 : Hid (Below Wm.heap.size Wm w5) := Below.step B4.out hb5; have r9 : wr.heap.size < w5.heap.size := Nat.lt_of_lt_of_le HCm.out.1 B5.out.size; have r3 : w5.cell? ⟨wr.heap.size, 3, none⟩ = some (.int .i64 xl) := (B5.out.cell HCm.out.1).trans HCm.out.2.1; have r4 : w5.cell? ⟨wr.heap.size, 4, none⟩ = some (.int .i64 xs) := (B5.out.cell HCm.out.1).trans HCm.out.2.2.1; clear hb5 u3 u4' u9 HE2))
            go_wp2
            have HA3 : Hid ((acc ++ ⟨#[109, 101, 116, 104, 111, 100, 32]⟩ ++ xn ++ ⟨#[32]⟩ ++ xd ++ ⟨#[10, 108, 111, 99, 97, 108, 115, 32]⟩ ++ E1 ++ ⟨#[10, 115, 116, 97, 99, 107, 32]⟩ ++ E2 ++ ⟨#[10]⟩).data.toList = PRE ++ (ms.take k).flatMap tMt ++ tMh xn.data.toList xd.data.toList G.data.toList E1.data.toList E2.data.toList) := by
              have hge := HGE.out
              rw [Hid]; simp [hD.out, tMh, tOpt, hge]
            have HA4 : Hid ((acc ++ ⟨#[109, 101, 116, 104, 111, 100, 32]⟩ ++ xn ++ ⟨#[32]⟩ ++ xd ++ ⟨#[10, 108, 111, 99, 97, 108, 115, 32]⟩ ++ E1 ++ ⟨#[10, 115, 116, 97, 99, 107, 32]⟩ ++ E2 ++ ⟨#[10]⟩).size ≤ 8000 + 3000000 * k + 20000) := by
              rw [Hid]; simp [ByteArray.size_append, sz1, sz10, szm, szl, szs]; omega
            generalize acc ++ ⟨#[109, 101, 116, 104, 111, 100, 32]⟩ ++ xn ++ ⟨#[32]⟩ ++ xd ++ ⟨#[10, 108, 111, 99, 97, 108, 115, 32]⟩ ++ E1 ++ ⟨#[10, 115, 116, 97, 99, 107, 32]⟩ ++ E2 ++ ⟨#[10]⟩ = acc1 at *
            obtain ⟨wo, hwo⟩ : ∃ x : World, x = wr := ⟨_, rfl⟩
            subst hwo
            clear q41 q42 q43 q44 q45 q46 q47 q48 q49 hac hD hE1s hE2s hGs hxns hxds r3 r4 r9 B2 B4
            go_loopg [4, 12] XL (fun g sv iv wi => ∃ (j : Nat) (acc : ByteArray), sv = .string acc ∧ iv = .int .i64 j ∧ j ≤ XL ∧ g = XL - j ∧ acc.size ≤ 8000 + 3000000 * k + 20000 + 9001 * j ∧ Hid (acc.data.toList = PRE ++ (ms.take k).flatMap tMt ++ tMh xn.data.toList xd.data.toList G.data.toList E1.data.toList E2.data.toList ++ (xc.take j).flatMap fun i => prtI i ++ [10]) ∧ Hid (Below Wm.heap.size Wm wi))
            case atStart => exact ⟨0, acc1, rfl, rfl, Nat.zero_le _, rfl, HA4.out, by simp [Hid, HA3.out], B5⟩
            case round =>
              obtain ⟨j, acc, rfl, rfl, hj, rfl, hac2, hD2, hb2⟩ := hrel
              clear HA3 HA4 B5
              have y5 : wr.cell? ⟨wo.heap.size, 5, none⟩ = some (.slice va XL vcap) := (hb2.out.cell HCm.out.1).trans HCm.out.2.2.2
              have y9 : wo.heap.size < wr.heap.size := Nat.lt_of_lt_of_le HCm.out.1 hb2.out.size
              by_cases hlt2 : j < XL
              · obtain ⟨bk2, o2, hao2, hbk2, hc2⟩ := HVA.out (by intro e; have := HXL.out; rw [e] at this; simp at this; omega)
                obtain ⟨y, hy⟩ : ∃ y, xc[j]? = some y := ⟨_, List.getElem?_eq_getElem (by rw [HXL.out]; exact hlt2)⟩
                subst hao2
                have HPX : Hid (∀ w' : World, Calls Tryz.prog 42 #[.agg #[.int .i64 y.op, .int .i64 y.n, .string y.t, .bool y.b, .string y.c, .string y.m, .string y.d]] w' fun e w'' => e = .returned (.tuple #[.string ⟨(prtI y).toArray⟩, .int .i64 (ickI y)]) ∧ Below w'.heap.size w' w'') := fun w' => HPI.out y w' (List.mem_of_getElem? hy)
                have hpl := HPL.out y (List.mem_of_getElem? hy)
                have HN2 : Hid ((xc.take (j + 1)).flatMap (fun i => prtI i ++ [10]) = (xc.take j).flatMap (fun i => prtI i ++ [10]) ++ (prtI y ++ [10])) := by
                  rw [Hid, List.take_add_one, hy]; simp
                have hbl : bk2 < wo.heap.size := Nat.lt_of_lt_of_le hbk2 (Nat.le_trans HWc.out.size hb.out.size)
                have keep2 : ∀ (u : Nat) (v : Value), W.cell? ⟨bk2, u, none⟩ = some v → wr.cell? ⟨bk2, u, none⟩ = some v := fun u v h => (hb2.out.cell (p := ⟨bk2, u, none⟩) (Nat.lt_of_lt_of_le hbl HWm2.out.size)).trans ((HWm2.out.cell (p := ⟨bk2, u, none⟩) hbl).trans ((hb.out.cell (p := ⟨bk2, u, none⟩) (Nat.lt_of_lt_of_le hbk2 HWc.out.size)).trans ((HWc.out.cell (p := ⟨bk2, u, none⟩) hbk2).trans h)))
                obtain ⟨c0', c1', c2', c3', c4', c5', c6'⟩ := hc2 j y hy
                replace c0' := keep2 _ _ c0'
                replace c1' := keep2 _ _ c1'
                replace c2' := keep2 _ _ c2'
                replace c3' := keep2 _ _ c3'
                replace c4' := keep2 _ _ c4'
                replace c5' := keep2 _ _ c5'
                replace c6' := keep2 _ _ c6'
                obtain ⟨P, hP⟩ : ∃ P : ByteArray, P = ⟨(prtI y).toArray⟩ := ⟨_, rfl⟩
                rw [← hP] at HPX
                have hPs : P.size ≤ 9000 := by rw [hP]; simpa [ByteArray.size] using hpl
                have HPD : Hid (P.data.toList = prtI y) := by rw [hP]; exact rfl
                generalize ickI y = ye at *
                generalize prtI y = PL at *
                obtain ⟨yo, yn, yt, yb, yc, ym, yd⟩ := y
                simp only at c0' c1' c2' c3' c4' c5' c6' HPX
                have q1 : ¬ 9223372036854775807 < acc.size + P.size := by omega
                have q2 : ¬ 9223372036854775807 < acc.size + P.size + 1 := by omega
                have HA5 : Hid ((acc ++ P ++ ⟨#[10]⟩).data.toList = PRE ++ (ms.take k).flatMap tMt ++ tMh xn.data.toList xd.data.toList G.data.toList E1.data.toList E2.data.toList ++ (xc.take (j + 1)).flatMap fun i => prtI i ++ [10]) := by rw [Hid, HN2.out]; simp [hD2.out, HPD.out]
                have HA6 : Hid ((acc ++ P ++ ⟨#[10]⟩).size ≤ 8000 + 3000000 * k + 20000 + 9001 * (j + 1)) := by rw [Hid]; simp [ByteArray.size_append, sz10]; omega
                clear hc2 keep2 hP hy hpl HPD HN2 hD2 HVA HPI HPL
                go_wp2_with (go_at_call 42; refine (HPX.out _).mono ?_; rintro e w6 ⟨rfl, hb6⟩; have B6 : Hid (Below Wm.heap.size Wm w6) := Below.step hb2.out hb6; clear hb6)
                go_roundg (XL - (j + 1))
                case measure => omega
                case rel => exact ⟨j + 1, _, rfl, by go_num, by omega, rfl, HA6.out, HA5, B6⟩
              · have e : j = XL := by omega
                subst e
                have HA7 : Hid (acc.data.toList = PRE ++ (ms.take (k + 1)).flatMap tMt) := by
                  have e9 : xc.take j = xc := List.take_of_length_le (by rw [HXL.out]; exact Nat.le_refl _)
                  rw [Hid, HN.out, HTM.out, hD2.out, e9]; simp
                have HA8 : Hid (acc.size ≤ 8000 + 3000000 * (k + 1)) := by unfold Hid; omega
                have B7 : Hid (Below Wc.heap.size Wc wr) := Below.step HWm.out hb2.out
                clear hD2 HVA HPI HPL hac2 HTM HN
                go_wp2
                go_roundg (M - (k + 1))
                case measure => omega
                case rel => exact ⟨k + 1, acc, rfl, by go_num, by omega, rfl, HA8.out, HA7, B7⟩
          | false =>
            rw [hgq] at hGe
            have HGE : Hid (G.data.toList ≠ []) := fun e => by rw [e] at hgq; exact absurd hgq (by decide)
            clear hgq
            have q50 : ¬ 9223372036854775807 < acc.size + 7 := by omega
            have q51 : ¬ 9223372036854775807 < acc.size + 7 + xn.size := by omega
            have q52 : ¬ 9223372036854775807 < acc.size + 7 + xn.size + 1 := by omega
            have q53 : ¬ 9223372036854775807 < acc.size + 7 + xn.size + 1 + xd.size := by omega
            have q54 : ¬ 9223372036854775807 < acc.size + 7 + xn.size + 1 + xd.size + 1 := by omega
            have q55 : ¬ 9223372036854775807 < acc.size + 7 + xn.size + 1 + xd.size + 1 + G.size := by omega
            have q56 : ¬ 9223372036854775807 < acc.size + 7 + xn.size + 1 + xd.size + 1 + G.size + 8 := by omega
            have q57 : ¬ 9223372036854775807 < acc.size + 7 + xn.size + 1 + xd.size + 1 + G.size + 8 + E1.size := by omega
            have q58 : ¬ 9223372036854775807 < acc.size + 7 + xn.size + 1 + xd.size + 1 + G.size + 8 + E1.size + 7 := by omega
            have q59 : ¬ 9223372036854775807 < acc.size + 7 + xn.size + 1 + xd.size + 1 + G.size + 8 + E1.size + 7 + E2.size := by omega
            have q60 : ¬ 9223372036854775807 < acc.size + 7 + xn.size + 1 + xd.size + 1 + G.size + 8 + E1.size + 7 + E2.size + 1 := by omega
            go_wp2_with (go_at_call 41; rw [← HWE.out]; refine (HMT.out _).mono ?_; rintro e w2 ⟨rfl, hb2⟩; have B2 : Hid (Below Wm.heap.size Wm w2) := hb2; have x9 : wr.heap.size < w2.heap.size := Nat.lt_of_lt_of_le HCm.out.1 hb2.size; have x3 : w2.cell? ⟨wr.heap.size, 3, none⟩ = some (.int .i64 xl) := (hb2.cell HCm.out.1).trans HCm.out.2.1; have x4 : w2.cell? ⟨wr.heap.size, 4, none⟩ = some (.int .i64 xs) := (hb2.cell HCm.out.1).trans HCm.out.2.2.1; clear hb2 HMT HWE)
            go_region_held3 (fun w' => w'.cell? ⟨wr.heap.size, 3, none⟩ = some (.int .i64 xl) ∧ w'.cell? ⟨wr.heap.size, 4, none⟩ = some (.int .i64 xs)) (go_keep)
              (first
                | (go_at_call 40; refine (HE1.out _).mono ?_; rintro e w4 ⟨rfl, hb4⟩; have B4 : Hid (Below Wm.heap.size Wm w4) := Below.step B2.out.drew hb4; have u9 : wr.heap.size < w4.heap.size := Nat.lt_of_lt_of_le HCm.out.1 B4.out.size; have u3 : w4.cell? ⟨wr.heap.size, 3, none⟩ = some (.int .i64 xl) := (B4.out.cell HCm.out.1).trans HCm.out.2.1; have u4' : w4.cell? ⟨wr.heap.size, 4, none⟩ = some (.int .i64 xs) := (B4.out.cell HCm.out.1).trans HCm.out.2.2.1; clear hb4 x3 x4 x9 HE1)
                | (go_at_call 40; have hB4 := B4; clear hB4; refine (HE2.out _).mono ?_; rintro e w5 ⟨rfl, hb5⟩; have B5 : Hid (Below Wm.heap.size Wm w5) := Below.step B4.out hb5; have r9 : wr.heap.size < w5.heap.size := Nat.lt_of_lt_of_le HCm.out.1 B5.out.size; have r3 : w5.cell? ⟨wr.heap.size, 3, none⟩ = some (.int .i64 xl) := (B5.out.cell HCm.out.1).trans HCm.out.2.1; have r4 : w5.cell? ⟨wr.heap.size, 4, none⟩ = some (.int .i64 xs) := (B5.out.cell HCm.out.1).trans HCm.out.2.2.1; clear hb5 u3 u4' u9 HE2))
            go_wp2
            have HA3 : Hid ((acc ++ ⟨#[109, 101, 116, 104, 111, 100, 32]⟩ ++ xn ++ ⟨#[32]⟩ ++ xd ++ ⟨#[32]⟩ ++ G ++ ⟨#[10, 108, 111, 99, 97, 108, 115, 32]⟩ ++ E1 ++ ⟨#[10, 115, 116, 97, 99, 107, 32]⟩ ++ E2 ++ ⟨#[10]⟩).data.toList = PRE ++ (ms.take k).flatMap tMt ++ tMh xn.data.toList xd.data.toList G.data.toList E1.data.toList E2.data.toList) := by
              have hge := HGE.out
              rw [Hid]; simp [hD.out, tMh, tOpt, hge]
            have HA4 : Hid ((acc ++ ⟨#[109, 101, 116, 104, 111, 100, 32]⟩ ++ xn ++ ⟨#[32]⟩ ++ xd ++ ⟨#[32]⟩ ++ G ++ ⟨#[10, 108, 111, 99, 97, 108, 115, 32]⟩ ++ E1 ++ ⟨#[10, 115, 116, 97, 99, 107, 32]⟩ ++ E2 ++ ⟨#[10]⟩).size ≤ 8000 + 3000000 * k + 20000) := by
              rw [Hid]; simp [ByteArray.size_append, sz1, sz10, szm, szl, szs]; omega
            generalize acc ++ ⟨#[109, 101, 116, 104, 111, 100, 32]⟩ ++ xn ++ ⟨#[32]⟩ ++ xd ++ ⟨#[32]⟩ ++ G ++ ⟨#[10, 108, 111, 99, 97, 108, 115, 32]⟩ ++ E1 ++ ⟨#[10, 115, 116, 97, 99, 107, 32]⟩ ++ E2 ++ ⟨#[10]⟩ = acc1 at *
            obtain ⟨wo, hwo⟩ : ∃ x : World, x = wr := ⟨_, rfl⟩
            subst hwo
            clear q50 q51 q52 q53 q54 q55 q56 q57 q58 q59 q60 hac hD hE1s hE2s hGs hxns hxds r3 r4 r9 B2 B4
            go_loopg [4, 12] XL (fun g sv iv wi => ∃ (j : Nat) (acc : ByteArray), sv = .string acc ∧ iv = .int .i64 j ∧ j ≤ XL ∧ g = XL - j ∧ acc.size ≤ 8000 + 3000000 * k + 20000 + 9001 * j ∧ Hid (acc.data.toList = PRE ++ (ms.take k).flatMap tMt ++ tMh xn.data.toList xd.data.toList G.data.toList E1.data.toList E2.data.toList ++ (xc.take j).flatMap fun i => prtI i ++ [10]) ∧ Hid (Below Wm.heap.size Wm wi))
            case atStart => exact ⟨0, acc1, rfl, rfl, Nat.zero_le _, rfl, HA4.out, by simp [Hid, HA3.out], B5⟩
            case round =>
              obtain ⟨j, acc, rfl, rfl, hj, rfl, hac2, hD2, hb2⟩ := hrel
              clear HA3 HA4 B5
              have y5 : wr.cell? ⟨wo.heap.size, 5, none⟩ = some (.slice va XL vcap) := (hb2.out.cell HCm.out.1).trans HCm.out.2.2.2
              have y9 : wo.heap.size < wr.heap.size := Nat.lt_of_lt_of_le HCm.out.1 hb2.out.size
              by_cases hlt2 : j < XL
              · obtain ⟨bk2, o2, hao2, hbk2, hc2⟩ := HVA.out (by intro e; have := HXL.out; rw [e] at this; simp at this; omega)
                obtain ⟨y, hy⟩ : ∃ y, xc[j]? = some y := ⟨_, List.getElem?_eq_getElem (by rw [HXL.out]; exact hlt2)⟩
                subst hao2
                have HPX : Hid (∀ w' : World, Calls Tryz.prog 42 #[.agg #[.int .i64 y.op, .int .i64 y.n, .string y.t, .bool y.b, .string y.c, .string y.m, .string y.d]] w' fun e w'' => e = .returned (.tuple #[.string ⟨(prtI y).toArray⟩, .int .i64 (ickI y)]) ∧ Below w'.heap.size w' w'') := fun w' => HPI.out y w' (List.mem_of_getElem? hy)
                have hpl := HPL.out y (List.mem_of_getElem? hy)
                have HN2 : Hid ((xc.take (j + 1)).flatMap (fun i => prtI i ++ [10]) = (xc.take j).flatMap (fun i => prtI i ++ [10]) ++ (prtI y ++ [10])) := by
                  rw [Hid, List.take_add_one, hy]; simp
                have hbl : bk2 < wo.heap.size := Nat.lt_of_lt_of_le hbk2 (Nat.le_trans HWc.out.size hb.out.size)
                have keep2 : ∀ (u : Nat) (v : Value), W.cell? ⟨bk2, u, none⟩ = some v → wr.cell? ⟨bk2, u, none⟩ = some v := fun u v h => (hb2.out.cell (p := ⟨bk2, u, none⟩) (Nat.lt_of_lt_of_le hbl HWm2.out.size)).trans ((HWm2.out.cell (p := ⟨bk2, u, none⟩) hbl).trans ((hb.out.cell (p := ⟨bk2, u, none⟩) (Nat.lt_of_lt_of_le hbk2 HWc.out.size)).trans ((HWc.out.cell (p := ⟨bk2, u, none⟩) hbk2).trans h)))
                obtain ⟨c0', c1', c2', c3', c4', c5', c6'⟩ := hc2 j y hy
                replace c0' := keep2 _ _ c0'
                replace c1' := keep2 _ _ c1'
                replace c2' := keep2 _ _ c2'
                replace c3' := keep2 _ _ c3'
                replace c4' := keep2 _ _ c4'
                replace c5' := keep2 _ _ c5'
                replace c6' := keep2 _ _ c6'
                obtain ⟨P, hP⟩ : ∃ P : ByteArray, P = ⟨(prtI y).toArray⟩ := ⟨_, rfl⟩
                rw [← hP] at HPX
                have hPs : P.size ≤ 9000 := by rw [hP]; simpa [ByteArray.size] using hpl
                have HPD : Hid (P.data.toList = prtI y) := by rw [hP]; exact rfl
                generalize ickI y = ye at *
                generalize prtI y = PL at *
                obtain ⟨yo, yn, yt, yb, yc, ym, yd⟩ := y
                simp only at c0' c1' c2' c3' c4' c5' c6' HPX
                have q1 : ¬ 9223372036854775807 < acc.size + P.size := by omega
                have q2 : ¬ 9223372036854775807 < acc.size + P.size + 1 := by omega
                have HA5 : Hid ((acc ++ P ++ ⟨#[10]⟩).data.toList = PRE ++ (ms.take k).flatMap tMt ++ tMh xn.data.toList xd.data.toList G.data.toList E1.data.toList E2.data.toList ++ (xc.take (j + 1)).flatMap fun i => prtI i ++ [10]) := by rw [Hid, HN2.out]; simp [hD2.out, HPD.out]
                have HA6 : Hid ((acc ++ P ++ ⟨#[10]⟩).size ≤ 8000 + 3000000 * k + 20000 + 9001 * (j + 1)) := by rw [Hid]; simp [ByteArray.size_append, sz10]; omega
                clear hc2 keep2 hP hy hpl HPD HN2 hD2 HVA HPI HPL
                go_wp2_with (go_at_call 42; refine (HPX.out _).mono ?_; rintro e w6 ⟨rfl, hb6⟩; have B6 : Hid (Below Wm.heap.size Wm w6) := Below.step hb2.out hb6; clear hb6)
                go_roundg (XL - (j + 1))
                case measure => omega
                case rel => exact ⟨j + 1, _, rfl, by go_num, by omega, rfl, HA6.out, HA5, B6⟩
              · have e : j = XL := by omega
                subst e
                have HA7 : Hid (acc.data.toList = PRE ++ (ms.take (k + 1)).flatMap tMt) := by
                  have e9 : xc.take j = xc := List.take_of_length_le (by rw [HXL.out]; exact Nat.le_refl _)
                  rw [Hid, HN.out, HTM.out, hD2.out, e9]; simp
                have HA8 : Hid (acc.size ≤ 8000 + 3000000 * (k + 1)) := by unfold Hid; omega
                have B7 : Hid (Below Wc.heap.size Wc wr) := Below.step HWm.out hb2.out
                clear hD2 HVA HPI HPL hac2 HTM HN
                go_wp2
                go_roundg (M - (k + 1))
                case measure => omega
                case rel => exact ⟨k + 1, acc, rfl, by go_num, by omega, rfl, HA8.out, HA7, B7⟩
        · have e : k = M := by omega
          subst e
          have HA7 : Hid ((acc ++ ⟨#[101, 110, 100, 10]⟩).data.toList = CT) := by
            rw [Hid, HTC.out, HPRE.out]; simp [hD.out, List.take_of_length_le (show ms.length ≤ k by rw [HL.out]; exact Nat.le_refl _)]
          have HA8 : Hid (acc ++ ⟨#[101, 110, 100, 10]⟩ = ⟨CT.toArray⟩) := by rw [Hid, ← HA7.out]
          have q1 : ¬ 9223372036854775807 < acc.size + 4 := by omega
          clear hD HMA HMS HTC HPRE
          go_wp2
          go_ret2
          exact ⟨by rw [← HA8.out]; rfl, Below.step HWc.out hb.out⟩
end Go.Proofs.YtfbhjfpkhofifaaGreatDoor

