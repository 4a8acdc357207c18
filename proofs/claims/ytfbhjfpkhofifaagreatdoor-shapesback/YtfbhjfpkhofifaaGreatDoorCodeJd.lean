/- What the words are for: The walk of the document's Print (arbiterref04): an instruction's text; what was there before stays. -/
import Derived.Test.YtfbhjfpkhofifaaGreatDoorSoD
import Derived.Test.YtfbhjfpkhofifaaGreatDoorRefLists
import Derived.Test.YtfbhjfpkhofifaaGreatDoorCodeL
import Derived.Test.YtfbhjfpkhofifaaGreatDoorOwnX
import Derived.Deep.RegionWith
namespace Go.Proofs.YtfbhjfpkhofifaaGreatDoor
open Go.RowKit

/-- the numbers of a method, of a class are those that a word of 64 bits holds -/
def MthFl (m : Mth) : Prop := -9223372036854775808 ≤ m.fl ∧ m.fl ≤ 9223372036854775807

/-- are a class's methods sound? -/
def mtdB (fl : Int) (ms : List Mth) : Bool := !decide (40 < (ms.length : Int)) && mthsB (hasI fl 512) ms ms 0

set_option maxRecDepth 100000 in
set_option maxHeartbeats 2000000 in
theorem soundMethods_any (c : Cls) (vi vm : Value) (w : World) (hi : IsStrs w vi c.ifs) (hm : IsMths w vm c.ms) (hmo : ∀ m ∈ c.ms, MthOK m) (hmf : ∀ m ∈ c.ms, MthFl m) :
    Calls Tryz.prog 25 #[clsV c vi vm] w fun e w' => e = .returned (.bool (mtdB c.fl c.ms)) ∧ Below w.heap.size w w' := by
  obtain ⟨nm, su, ifs, fl, ld, ms⟩ := c
  simp only at hi hm hmo hmf ⊢
  have HM : Hid (IsMths w vm ms) := hm
  have HMO : Hid _ := hmo
  have HMF : Hid _ := hmf
  have hh5 : (bits .and .i64 fl 512 != 0) = hasI fl 512 := rfl
  have HR : Hid (mtdB fl ms = (!decide (40 < (ms.length : Int)) && mthsB (hasI fl 512) ms ms 0)) := rfl
  obtain ⟨ai, capi, rfl, i1, i2, _⟩ := hi
  obtain ⟨am, capm, rfl, m1, m2, m3⟩ := hm
  have HMA : Hid _ := m3
  clear m3
  unfold maxLen at i2 m2
  unfold clsV
  simp only
  obtain ⟨K, hK⟩ : ∃ K, ifs.length = K := ⟨_, rfl⟩
  obtain ⟨M, hM⟩ : ∃ M, ms.length = M := ⟨_, rfl⟩
  rw [hK] at i1 ⊢
  rw [hM] at m1 HM HR ⊢
  have HL : Hid (ms.length = M) := hM
  clear hmo hmf hK hM
  generalize mtdB fl ms = z at *
  generalize hasI fl 512 = hh at *
  by_cases r1 : 40 < (M : Int)
  · go_enter Tryz.func25, Tryz.ntmps25
    go_wp2
    go_ret
    exact ⟨ret_bool (by rw [HR.out]; simp [r1]), (Below.refl _ _).alloc (Nat.le_refl _) _⟩
  have HR2 : Hid (z = mthsB hh ms ms 0) := by rw [Hid, HR.out]; simp [r1]
  clear HR
  have HC0 : Hid (CB (w.alloc (.cells #[.string nm, .string su, .slice ai K capi, .int .i64 fl, .int .i64 ld, .slice am M capm] 25)) w.heap.size nm su (.slice ai K capi) fl ld (.slice am M capm)) := ⟨by simp, by simp [go_sem], by simp [go_sem], by simp [go_sem], by simp [go_sem], by simp [go_sem], by simp [go_sem]⟩
  go_enter Tryz.func25, Tryz.ntmps25
  go_wp2
  go_loopw [12] (fun iv wr => ∃ k : Nat, iv = .int .i64 k ∧ k ≤ M ∧ Hid (CB wr w.heap.size nm su (.slice ai K capi) fl ld (.slice am M capm)) ∧ Hid (Below w.heap.size w wr) ∧ Hid (mthsB hh ms (ms.drop k) k = mthsB hh ms ms 0)) (fun iv _ => M - (intOf iv).toNat)
  case atStart => exact ⟨0, rfl, Nat.zero_le _, HC0, (Below.refl _ _).alloc (Nat.le_refl _) _, rfl⟩
  case round =>
    obtain ⟨k, rfl, hk, hcb, hb, hs⟩ := hrel
    obtain ⟨g0, d0, d1, d2, d3, d4, d5⟩ := hcb.out
    by_cases hlt : k < M
    · obtain ⟨bk, o, hao, hbk, hc⟩ := HMA.out (by intro e; have := HL.out; rw [e] at this; simp at this; omega)
      obtain ⟨x, hx⟩ : ∃ x, ms[k]? = some x := ⟨_, List.getElem?_eq_getElem (by rw [HL.out]; exact hlt)⟩
      subst hao
      have hst := mthsB_at hh ms k x hx
      rw [hs.out] at hst
      obtain ⟨k1, k2, k3⟩ := HMO.out x (List.mem_of_getElem? hx)
      have k4 := HMF.out x (List.mem_of_getElem? hx)
      have hcx := hc k x hx
      obtain ⟨xn, xd, xf, xl, xs, xc⟩ := x
      obtain ⟨p0, p1, p2, p3, p4, vc, p5, hI⟩ := hcx
      unfold MthFl at k4
      simp only at p0 p1 p2 p3 p4 p5 hI k1 k2 k3 k4 hst
      have HI2 : Hid (IsInss w vc xc) := hI
      obtain ⟨va, vcap, rfl, _, _, _⟩ := hI
      replace p0 := (hb.out.cell hbk).trans p0
      replace p1 := (hb.out.cell hbk).trans p1
      replace p2 := (hb.out.cell hbk).trans p2
      replace p3 := (hb.out.cell hbk).trans p3
      replace p4 := (hb.out.cell hbk).trans p4
      replace p5 := (hb.out.cell hbk).trans p5
      have HS : Hid (∀ w' : World, Below w.heap.size w w' → Calls Tryz.prog 57 #[.agg #[.string xn, .string xd, .int .i64 xf, .int .i64 xl, .int .i64 xs, .slice va xc.length vcap], .bool hh] w' fun e w'' => e = .returned (.bool (mthB ⟨xn, xd, xf, xl, xs, xc⟩ hh)) ∧ Below w'.heap.size w' w'') := fun w' h => isSound_any xn xd xf xl xs _ xc hh k1 k2 k4 w' (HI2.out.keep h) k3
      have HF : Hid (∀ w' : World, Below w.heap.size w w' → Calls Tryz.prog 10 #[.agg #[.string nm, .string su, .slice ai K capi, .int .i64 fl, .int .i64 ld, .slice (some ⟨bk, o, none⟩) M capm], .string xn, .string xd] w' fun e w'' => e = .returned (.int .i64 (findM xn xd ms 0)) ∧ Below w'.heap.size w' w'') := fun w' h => find_any nm su _ fl ld _ ms xn xd w' (HM.out.keep h)
      generalize mthB ⟨xn, xd, xf, xl, xs, xc⟩ hh = mb at *
      generalize findM xn xd ms 0 = fi at *
      clear hc k1 k2 k3 k4 hx hs HMO HMF
      cases mb with
      | false =>
        have HZ : Hid (z = false) := by rw [Hid, HR2.out, hst]; simp
        clear hst HR2
        go_wp2_with (first
          | (go_at_call 57; refine (HS.out _ (hb.out.alloc hb.out.size _)).mono ?_; rintro e w3 ⟨rfl, hb3⟩; have HC4 : Hid (CB w3 w.heap.size nm su (.slice ai K capi) fl ld (.slice (some ⟨bk, o, none⟩) M capm)) := (hcb.out.keep ((Below.refl _ _).alloc (Nat.le_refl _) _)).keep hb3; have u0 : w3.cell? ⟨wr.heap.size, 0, none⟩ = some (.string xn) := (hb3.cell (p := ⟨wr.heap.size, 0, none⟩) (by simp)).trans (by simp [go_sem]); have u1 : w3.cell? ⟨wr.heap.size, 1, none⟩ = some (.string xd) := (hb3.cell (p := ⟨wr.heap.size, 1, none⟩) (by simp)).trans (by simp [go_sem]); have B3 : Hid (Below w.heap.size w w3) := Below.step (hb.out.alloc hb.out.size _) hb3; obtain ⟨l9, l0, l1, l2, l3, l4, l5⟩ := HC4.out; clear hb3 d0 d1 d2 d3 d4 d5))
        go_ret
        exact ⟨ret_bool HZ.out.symm, B3.out⟩
      | true =>
      cases hfk : (fi == (k : Int)) with
      | false =>
        have HZ : Hid (z = false) := by rw [Hid, HR2.out, hst, hfk]; simp
        have hfn : (fi != (k : Int)) = true := by rw [bne, hfk]; rfl
        clear hst HR2 hfk
        go_wp2_with (first
          | (go_at_call 57; refine (HS.out _ (hb.out.alloc hb.out.size _)).mono ?_; rintro e w3 ⟨rfl, hb3⟩; have HC4 : Hid (CB w3 w.heap.size nm su (.slice ai K capi) fl ld (.slice (some ⟨bk, o, none⟩) M capm)) := (hcb.out.keep ((Below.refl _ _).alloc (Nat.le_refl _) _)).keep hb3; have u0 : w3.cell? ⟨wr.heap.size, 0, none⟩ = some (.string xn) := (hb3.cell (p := ⟨wr.heap.size, 0, none⟩) (by simp)).trans (by simp [go_sem]); have u1 : w3.cell? ⟨wr.heap.size, 1, none⟩ = some (.string xd) := (hb3.cell (p := ⟨wr.heap.size, 1, none⟩) (by simp)).trans (by simp [go_sem]); have B3 : Hid (Below w.heap.size w w3) := Below.step (hb.out.alloc hb.out.size _) hb3; obtain ⟨l9, l0, l1, l2, l3, l4, l5⟩ := HC4.out; clear hb3 d0 d1 d2 d3 d4 d5)
          | (go_at_call 10; refine (HF.out _ B3.out).mono ?_; rintro e w4 ⟨rfl, hb4⟩; have B4 : Hid (Below w.heap.size w w4) := Below.step B3.out hb4; have HC5 : Hid (CB w4 w.heap.size nm su (.slice ai K capi) fl ld (.slice (some ⟨bk, o, none⟩) M capm)) := HC4.out.keep hb4; clear hb4))
        go_ret
        exact ⟨ret_bool HZ.out.symm, B4.out⟩
      | true =>
        have HZ : Hid (mthsB hh ms (ms.drop (k + 1)) (k + 1) = mthsB hh ms ms 0) := by rw [Hid, hst, hfk]; simp
        have hfn : (fi != (k : Int)) = false := by rw [bne, hfk]; rfl
        clear hst hfk
        go_wp2_with (first
          | (go_at_call 57; refine (HS.out _ (hb.out.alloc hb.out.size _)).mono ?_; rintro e w3 ⟨rfl, hb3⟩; have HC4 : Hid (CB w3 w.heap.size nm su (.slice ai K capi) fl ld (.slice (some ⟨bk, o, none⟩) M capm)) := (hcb.out.keep ((Below.refl _ _).alloc (Nat.le_refl _) _)).keep hb3; have u0 : w3.cell? ⟨wr.heap.size, 0, none⟩ = some (.string xn) := (hb3.cell (p := ⟨wr.heap.size, 0, none⟩) (by simp)).trans (by simp [go_sem]); have u1 : w3.cell? ⟨wr.heap.size, 1, none⟩ = some (.string xd) := (hb3.cell (p := ⟨wr.heap.size, 1, none⟩) (by simp)).trans (by simp [go_sem]); have B3 : Hid (Below w.heap.size w w3) := Below.step (hb.out.alloc hb.out.size _) hb3; obtain ⟨l9, l0, l1, l2, l3, l4, l5⟩ := HC4.out; clear hb3 d0 d1 d2 d3 d4 d5)
          | (go_at_call 10; refine (HF.out _ B3.out).mono ?_; rintro e w4 ⟨rfl, hb4⟩; have B4 : Hid (Below w.heap.size w w4) := Below.step B3.out hb4; have HC5 : Hid (CB w4 w.heap.size nm su (.slice ai K capi) fl ld (.slice (some ⟨bk, o, none⟩) M capm)) := HC4.out.keep hb4; clear hb4))
        go_roundw
        case rel => exact ⟨k + 1, by go_num, by omega, HC5, B4, HZ⟩
        case measure => simp [intOf]; omega
    · have e : k = M := by omega
      subst e
      have HZ : Hid (z = true) := by
        rw [Hid, HR2.out, ← hs.out, List.drop_of_length_le (by rw [HL.out]; exact Nat.le_refl _)]; simp [mthsB]
      clear HR2 hs HMA
      go_wp2
      go_ret
      exact ⟨ret_bool HZ.out.symm, hb.out⟩

theorem cls_parts (c : Cls) : clsB c = (namB c.nm c.su c.ifs && (chkC c.fl == 0) && (decide (0 ≤ c.ld) && decide (c.ld ≤ 9)) && mtdB c.fl c.ms) := by
  unfold clsB namB mtdB
  have e1 : decide (0 ≤ c.ld) = !decide (c.ld < 0) := by by_cases h : c.ld < 0 <;> simp [h] <;> omega
  have e2 : decide (c.ld ≤ 9) = !decide (9 < c.ld) := by by_cases h : 9 < c.ld <;> simp [h] <;> omega
  rw [e1, e2]
  generalize validL c.nm.data.toList = x1
  generalize validL c.su.data.toList = x2
  generalize (!(c.nm.toList == c.su.toList)) = x3
  generalize (!decide (20 < (c.ifs.length : Int))) = x4
  generalize (!decide (40 < (c.ms.length : Int))) = x5
  generalize (!decide (c.ld < 0)) = x6
  generalize (!decide (9 < c.ld)) = x7
  generalize (chkC c.fl == 0) = x8
  generalize ifsB c.nm.data.toList [] c.ifs = x9
  cases x1 <;> cases x2 <;> cases x3 <;> cases x4 <;> cases x5 <;> cases x6 <;> cases x7 <;> cases x8 <;> cases x9 <;> simp

set_option maxRecDepth 100000 in
set_option maxHeartbeats 2000000 in
theorem checkC_any (c : Cls) (vi vm : Value) (w : World) (hi : IsStrs w vi c.ifs) (hm : IsMths w vm c.ms) (hn : c.nm.size ≤ maxLen) (hsu : c.su.size ≤ maxLen) (hif : ∀ p ∈ c.ifs, p.length ≤ maxLen) (hmo : ∀ m ∈ c.ms, MthOK m) (hmf : ∀ m ∈ c.ms, MthFl m) (hcf : -9223372036854775808 ≤ c.fl ∧ c.fl ≤ 9223372036854775807) :
    Calls Tryz.prog 8 #[clsV c vi vm] w fun e w' => e = .returned (.int .i64 (clsE c)) ∧ Below w.heap.size w w' := by
  have HN : Hid (∀ w' : World, Below w.heap.size w w' → Calls Tryz.prog 22 #[clsV c vi vm] w' fun e w'' => e = .returned (.bool (namB c.nm c.su c.ifs)) ∧ Below w'.heap.size w' w'') := fun w' h => soundNames_any c vi vm w' (hi.keep h) (hm.keep h) hn hsu hif
  have HT : Hid (∀ w' : World, Below w.heap.size w w' → Calls Tryz.prog 25 #[clsV c vi vm] w' fun e w'' => e = .returned (.bool (mtdB c.fl c.ms)) ∧ Below w'.heap.size w' w'') := fun w' h => soundMethods_any c vi vm w' (hi.keep h) (hm.keep h) hmo hmf
  have HCC : Hid (∀ w, _) := Fl.CheckClass_any c.fl hcf
  have HWI : Hid (∀ w, _) := within_any c.ld 0 9
  have HR : Hid (clsE c = if (namB c.nm c.su c.ifs && (chkC c.fl == 0) && (decide (0 ≤ c.ld) && decide (c.ld ≤ 9)) && mtdB c.fl c.ms) then 0 else 1) := by rw [Hid, clsE, cls_parts]
  obtain ⟨ai, capi, rfl, _, _, _⟩ := hi
  obtain ⟨am, capm, rfl, _, _, _⟩ := hm
  generalize clsE c = z at *
  generalize namB c.nm c.su c.ifs = q1 at *
  generalize mtdB c.fl c.ms = q4 at *
  generalize (decide (0 ≤ c.ld) && decide (c.ld ≤ 9)) = q3 at *
  generalize chkC c.fl = ck at *
  clear hn hsu hif hmo hmf hcf
  obtain ⟨nm, su, ifs, fl, ld, ms⟩ := c
  simp only [clsV] at *
  generalize ifs.length = K at *
  generalize ms.length = M at *
  generalize hck : (ck == 0) = q2 at *
  have hck2 : (ck != 0) = !q2 := by rw [bne, hck]
  cases q1 with
  | false =>
    go_enter Tryz.func8, Tryz.ntmps8
    go_wp2_with (first
      | (go_at_call 22; refine (HN.out _ ((Below.refl _ _).alloc (Nat.le_refl _) _)).mono ?_; rintro e w1 ⟨rfl, hb1⟩; have hs1 : w.heap.size < w1.heap.size := (by have := hb1.size; simp at this; omega); have a0 : w1.cell? ⟨w.heap.size, 0, none⟩ = some (.string nm) := (hb1.cell (p := ⟨w.heap.size, 0, none⟩) (by simp)).trans (by simp [go_sem, *]); have a1 : w1.cell? ⟨w.heap.size, 1, none⟩ = some (.string su) := (hb1.cell (p := ⟨w.heap.size, 1, none⟩) (by simp)).trans (by simp [go_sem, *]); have a2 : w1.cell? ⟨w.heap.size, 2, none⟩ = some (.slice ai K capi) := (hb1.cell (p := ⟨w.heap.size, 2, none⟩) (by simp)).trans (by simp [go_sem, *]); have a3 : w1.cell? ⟨w.heap.size, 3, none⟩ = some (.int .i64 fl) := (hb1.cell (p := ⟨w.heap.size, 3, none⟩) (by simp)).trans (by simp [go_sem, *]); have a4 : w1.cell? ⟨w.heap.size, 4, none⟩ = some (.int .i64 ld) := (hb1.cell (p := ⟨w.heap.size, 4, none⟩) (by simp)).trans (by simp [go_sem, *]); have a5 : w1.cell? ⟨w.heap.size, 5, none⟩ = some (.slice am M capm) := (hb1.cell (p := ⟨w.heap.size, 5, none⟩) (by simp)).trans (by simp [go_sem, *]); have B1 : Hid (Below w.heap.size w w1) := Below.step ((Below.refl _ _).alloc (Nat.le_refl _) _) hb1; clear hb1))
    go_ret
    exact ⟨ret_int (by rw [HR.out]; simp [*]), B1.out⟩
  | true =>
  cases q2 with
  | false =>
    go_enter Tryz.func8, Tryz.ntmps8
    go_wp2_with (first
      | (go_at_call 22; refine (HN.out _ ((Below.refl _ _).alloc (Nat.le_refl _) _)).mono ?_; rintro e w1 ⟨rfl, hb1⟩; have hs1 : w.heap.size < w1.heap.size := (by have := hb1.size; simp at this; omega); have a0 : w1.cell? ⟨w.heap.size, 0, none⟩ = some (.string nm) := (hb1.cell (p := ⟨w.heap.size, 0, none⟩) (by simp)).trans (by simp [go_sem, *]); have a1 : w1.cell? ⟨w.heap.size, 1, none⟩ = some (.string su) := (hb1.cell (p := ⟨w.heap.size, 1, none⟩) (by simp)).trans (by simp [go_sem, *]); have a2 : w1.cell? ⟨w.heap.size, 2, none⟩ = some (.slice ai K capi) := (hb1.cell (p := ⟨w.heap.size, 2, none⟩) (by simp)).trans (by simp [go_sem, *]); have a3 : w1.cell? ⟨w.heap.size, 3, none⟩ = some (.int .i64 fl) := (hb1.cell (p := ⟨w.heap.size, 3, none⟩) (by simp)).trans (by simp [go_sem, *]); have a4 : w1.cell? ⟨w.heap.size, 4, none⟩ = some (.int .i64 ld) := (hb1.cell (p := ⟨w.heap.size, 4, none⟩) (by simp)).trans (by simp [go_sem, *]); have a5 : w1.cell? ⟨w.heap.size, 5, none⟩ = some (.slice am M capm) := (hb1.cell (p := ⟨w.heap.size, 5, none⟩) (by simp)).trans (by simp [go_sem, *]); have B1 : Hid (Below w.heap.size w w1) := Below.step ((Below.refl _ _).alloc (Nat.le_refl _) _) hb1; clear hb1)
      | (go_at_call 23; refine (HCC.out _).mono ?_; rintro e w2 ⟨rfl, hw2⟩; rw [hw2]; clear hw2))
    go_ret
    exact ⟨ret_int (by rw [HR.out]; simp [*]), B1.out⟩
  | true =>
  cases q3 with
  | false =>
    go_enter Tryz.func8, Tryz.ntmps8
    go_wp2_with (first
      | (go_at_call 22; refine (HN.out _ ((Below.refl _ _).alloc (Nat.le_refl _) _)).mono ?_; rintro e w1 ⟨rfl, hb1⟩; have hs1 : w.heap.size < w1.heap.size := (by have := hb1.size; simp at this; omega); have a0 : w1.cell? ⟨w.heap.size, 0, none⟩ = some (.string nm) := (hb1.cell (p := ⟨w.heap.size, 0, none⟩) (by simp)).trans (by simp [go_sem, *]); have a1 : w1.cell? ⟨w.heap.size, 1, none⟩ = some (.string su) := (hb1.cell (p := ⟨w.heap.size, 1, none⟩) (by simp)).trans (by simp [go_sem, *]); have a2 : w1.cell? ⟨w.heap.size, 2, none⟩ = some (.slice ai K capi) := (hb1.cell (p := ⟨w.heap.size, 2, none⟩) (by simp)).trans (by simp [go_sem, *]); have a3 : w1.cell? ⟨w.heap.size, 3, none⟩ = some (.int .i64 fl) := (hb1.cell (p := ⟨w.heap.size, 3, none⟩) (by simp)).trans (by simp [go_sem, *]); have a4 : w1.cell? ⟨w.heap.size, 4, none⟩ = some (.int .i64 ld) := (hb1.cell (p := ⟨w.heap.size, 4, none⟩) (by simp)).trans (by simp [go_sem, *]); have a5 : w1.cell? ⟨w.heap.size, 5, none⟩ = some (.slice am M capm) := (hb1.cell (p := ⟨w.heap.size, 5, none⟩) (by simp)).trans (by simp [go_sem, *]); have B1 : Hid (Below w.heap.size w w1) := Below.step ((Below.refl _ _).alloc (Nat.le_refl _) _) hb1; clear hb1)
      | (go_at_call 23; refine (HCC.out _).mono ?_; rintro e w2 ⟨rfl, hw2⟩; rw [hw2]; clear hw2)
      | (go_at_call 24; refine (HWI.out _).mono ?_; rintro e w2 ⟨rfl, hw2⟩; rw [hw2]; clear hw2))
    go_ret
    exact ⟨ret_int (by rw [HR.out]; simp [*]), B1.out⟩
  | true =>
  cases q4
  all_goals
    go_enter Tryz.func8, Tryz.ntmps8
    go_wp2_with (first
      | (go_at_call 22; refine (HN.out _ ((Below.refl _ _).alloc (Nat.le_refl _) _)).mono ?_; rintro e w1 ⟨rfl, hb1⟩; have hs1 : w.heap.size < w1.heap.size := (by have := hb1.size; simp at this; omega); have a0 : w1.cell? ⟨w.heap.size, 0, none⟩ = some (.string nm) := (hb1.cell (p := ⟨w.heap.size, 0, none⟩) (by simp)).trans (by simp [go_sem, *]); have a1 : w1.cell? ⟨w.heap.size, 1, none⟩ = some (.string su) := (hb1.cell (p := ⟨w.heap.size, 1, none⟩) (by simp)).trans (by simp [go_sem, *]); have a2 : w1.cell? ⟨w.heap.size, 2, none⟩ = some (.slice ai K capi) := (hb1.cell (p := ⟨w.heap.size, 2, none⟩) (by simp)).trans (by simp [go_sem, *]); have a3 : w1.cell? ⟨w.heap.size, 3, none⟩ = some (.int .i64 fl) := (hb1.cell (p := ⟨w.heap.size, 3, none⟩) (by simp)).trans (by simp [go_sem, *]); have a4 : w1.cell? ⟨w.heap.size, 4, none⟩ = some (.int .i64 ld) := (hb1.cell (p := ⟨w.heap.size, 4, none⟩) (by simp)).trans (by simp [go_sem, *]); have a5 : w1.cell? ⟨w.heap.size, 5, none⟩ = some (.slice am M capm) := (hb1.cell (p := ⟨w.heap.size, 5, none⟩) (by simp)).trans (by simp [go_sem, *]); have B1 : Hid (Below w.heap.size w w1) := Below.step ((Below.refl _ _).alloc (Nat.le_refl _) _) hb1; clear hb1)
      | (go_at_call 23; refine (HCC.out _).mono ?_; rintro e w2 ⟨rfl, hw2⟩; rw [hw2]; clear hw2)
      | (go_at_call 24; refine (HWI.out _).mono ?_; rintro e w2 ⟨rfl, hw2⟩; rw [hw2]; clear hw2)
      | (go_at_call 25; refine (HT.out _ B1.out).mono ?_; rintro e w3 ⟨rfl, hb3⟩; have B3 : Hid (Below w.heap.size w w3) := Below.step B1.out hb3; clear hb3))
    go_ret
    exact ⟨ret_int (by rw [HR.out]; simp [*]), B3.out⟩


/-- a text, cut at each byte c -/
def cutL (c : UInt8) : List UInt8 → List (List UInt8)
  | [] => [[]]
  | x :: l => if x = c then [] :: cutL c l else match cutL c l with
    | [] => [[x]]
    | p :: r => (x :: p) :: r

theorem cutL_ne (c : UInt8) (l : List UInt8) : cutL c l ≠ [] := by
  cases l with
  | nil => simp [cutL]
  | cons x l =>
    unfold cutL
    split
    · simp
    · split <;> simp

theorem cutL_free (c : UInt8) (l : List UInt8) (h : c ∉ l) : cutL c l = [l] := by
  induction l with
  | nil => rfl
  | cons x l ih =>
    have hc : x ≠ c := fun e => h (by simp [e])
    have := ih (fun m => h (List.mem_cons_of_mem _ m))
    simp [cutL, hc, this]

theorem cutL_cut (c : UInt8) (a b : List UInt8) (h : c ∉ a) : cutL c (a ++ c :: b) = a :: cutL c b := by
  induction a with
  | nil => simp [cutL]
  | cons x l ih =>
    have hc : x ≠ c := fun e => h (by simp [e])
    have := ih (fun m => h (List.mem_cons_of_mem _ m))
    simp [cutL, hc, this]



/-- how many bytes ahead are as p says -/
def spanN (p : UInt8 → Bool) (l : List UInt8) : Nat := (l.takeWhile p).length
def notMark (c : UInt8) : Bool := !decide (c = 46) && !decide (c = 58)
def notOpen (c : UInt8) : Bool := !decide (c = 40)
def markN (l : List UInt8) : Nat := spanN notMark l
def openN (l : List UInt8) : Nat := markN l + spanN notOpen (l.drop (markN l))

/-- class, name and descriptor in a reference's text -/
def rfC (l : List UInt8) : List UInt8 := l.take (markN l)
def rfN (l : List UInt8) : List UInt8 := (l.drop (markN l + 1)).take (openN l - (markN l + 1))
def rfD (l : List UInt8) : List UInt8 := l.drop (openN l)
def rfB (l : List UInt8) : Bool := (l.drop (markN l)).head? == some 58
/-- is it a reference's text? -/
def rfOK (l : List UInt8) : Bool := decide (openN l < l.length) && rckB (rfC l) (rfN l) (rfD l)

theorem ex_take (s : ByteArray) (m : Nat) : (s.extract 0 m).data.toList = s.data.toList.take m := by rw [Lib.extract_data]; simp
theorem ex_mid (s : ByteArray) (a b : Nat) : (s.extract a b).data.toList = (s.data.toList.drop a).take (b - a) := Lib.extract_data _ _ _

/-- the answer for a text -/
def rfOut (l : List UInt8) : Value := .tuple #[.agg #[.bool (rfOK l && rfB l), .string (if rfOK l then ⟨(rfC l).toArray⟩ else ⟨#[]⟩), .string (if rfOK l then ⟨(rfN l).toArray⟩ else ⟨#[]⟩), .string (if rfOK l then ⟨(rfD l).toArray⟩ else ⟨#[]⟩)], .int .i64 (if rfOK l then 0 else 4)]

theorem rfOut_no {l : List UInt8} (h : rfOK l = false) : rfOut l = .tuple #[.agg #[.bool false, .string ⟨#[]⟩, .string ⟨#[]⟩, .string ⟨#[]⟩], .int .i64 4] := by rw [rfOut, h]; rfl

theorem rfOut_yes (s : ByteArray) (m o : Nat) (q : Bool) (hm : markN s.data.toList = m) (ho : openN s.data.toList = o) (h : rfOK s.data.toList = true) (hq : rfB s.data.toList = q) :
    rfOut s.data.toList = .tuple #[.agg #[.bool q, .string (s.extract 0 m), .string (s.extract (m + 1) o), .string (s.extract o s.size)], .int .i64 0] := by
  rw [rfOut, h, hq]
  have e1 : (⟨(rfC s.data.toList).toArray⟩ : ByteArray) = s.extract 0 m := by apply bytes_ext; rw [ex_take, rfC, hm]
  have e2 : (⟨(rfN s.data.toList).toArray⟩ : ByteArray) = s.extract (m + 1) o := by apply bytes_ext; rw [ex_mid, rfN, hm, ho]
  have e3 : (⟨(rfD s.data.toList).toArray⟩ : ByteArray) = s.extract o s.size := by apply bytes_ext; rw [Lib.extract_to_end, rfD, ho]
  rw [e1, e2, e3]; rfl



def zeroI : Ins := ⟨0, 0, ⟨#[]⟩, false, ⟨#[]⟩, ⟨#[]⟩, ⟨#[]⟩⟩
/-- the instruction that a line's words give, by the kind of its operand -/
def candI (k : Int) (o : Nat) (ps : List (List UInt8)) : Option Ins :=
  if k = -1 ∨ k = 0 then (if ps.length = 1 then some ⟨o, 0, ⟨#[]⟩, false, ⟨#[]⟩, ⟨#[]⟩, ⟨#[]⟩⟩ else none)
  else if k = 1 ∨ k = 2 ∨ k = 3 then (if ps.length = 2 ∧ (numR (ps.getD 1 [])).2 = true then some ⟨o, (numR (ps.getD 1 [])).1, ⟨#[]⟩, false, ⟨#[]⟩, ⟨#[]⟩, ⟨#[]⟩⟩ else none)
  else if k = 4 ∨ k = 5 ∨ k = 6 then (if ps.length = 2 then some ⟨o, 0, ⟨(ps.getD 1 []).toArray⟩, false, ⟨#[]⟩, ⟨#[]⟩, ⟨#[]⟩⟩ else none)
  else if k = 7 then (if ps.length = 3 ∧ (numR (ps.getD 1 [])).2 = true then some ⟨o, (numR (ps.getD 1 [])).1, ⟨(ps.getD 2 []).toArray⟩, false, ⟨#[]⟩, ⟨#[]⟩, ⟨#[]⟩⟩ else none)
  else (if ps.length = 2 ∧ rfOK (ps.getD 1 []) = true then some ⟨o, 0, ⟨#[]⟩, rfB (ps.getD 1 []), ⟨(rfC (ps.getD 1 [])).toArray⟩, ⟨(rfN (ps.getD 1 [])).toArray⟩, ⟨(rfD (ps.getD 1 [])).toArray⟩⟩ else none)
def parI (k : Int) (o : Nat) (ps : List (List UInt8)) : Option Ins := match candI k o ps with
  | some i => if ickI i = 0 then some i else none
  | none => none
def outI : Option Ins → Value
  | some i => .tuple #[insV i, .int .i64 0]
  | none => .tuple #[insV zeroI, .int .i64 4]

theorem opFrom_le (l : List UInt8) : ∀ (ws : List (List UInt8)) (i : Nat), opFrom l i ws ≤ i + ws.length := by
  intro ws
  induction ws with
  | nil => intro i; simp [opFrom]
  | cons x r ih =>
    intro i
    rw [opFrom]
    split
    · omega
    · have := ih (i + 1); rw [List.length_cons]; omega
theorem op_le (l : List UInt8) : opOf l ≤ 41 := by
  have := opFrom_le l (wordsL.drop 1) 1
  rw [List.length_drop, words_size] at this
  exact this



/-- no blank, full stop, colon or opening bracket -/
def clean (l : List UInt8) : Prop := ∀ c ∈ l, c ≠ 32 ∧ c ≠ 46 ∧ c ≠ 58 ∧ c ≠ 40

theorem word_clean {c : UInt8} (h : wordB c = true) : c ≠ 32 ∧ c ≠ 46 ∧ c ≠ 58 ∧ c ≠ 40 := by
  refine ⟨?_, ?_, ?_, ?_⟩ <;> (rintro rfl; revert h; decide)
theorem valid_clean {l : List UInt8} (h : validL l = true) : clean l := fun c hc => by
  rcases valid_bytes h c hc with rfl | e
  · decide
  · exact word_clean e
theorem clean_app {a b : List UInt8} (ha : clean a) (hb : clean b) : clean (a ++ b) := fun c hc => (List.mem_append.1 hc).elim (ha c) (hb c)
theorem clean_cons {x : UInt8} {b : List UInt8} (hx : x ≠ 32 ∧ x ≠ 46 ∧ x ≠ 58 ∧ x ≠ 40) (hb : clean b) : clean (x :: b) := fun c hc => (List.mem_cons.1 hc).elim (fun e => e ▸ hx) (hb c)
theorem clean_nil : clean [] := fun c hc => by cases hc
theorem write_clean {t : Nat × List UInt8} (h : namedT t = true) : clean (writeT t) := by
  unfold writeT
  refine clean_app (fun c hc => ?_) ?_
  · obtain rfl := List.eq_of_mem_replicate hc
    decide
  · split
    · exact clean_cons (by decide) clean_nil
    · rename_i hne
      unfold namedT at h
      simp only [Bool.or_eq_true, beq_iff_eq] at h
      rcases h with h | h
      · exact absurd h hne
      · exact clean_cons (by decide) (clean_app (valid_clean h) (clean_cons (by decide) clean_nil))
theorem par_text {l : List UInt8} (h : parE l = 0) : ∃ t, l = writeT t ∧ namedT t = true := by
  unfold parE at h
  split at h
  · simp at h
  · split at h
    · rename_i t e
      obtain ⟨h1, h2⟩ := write_read e
      exact ⟨t, by simpa using h1, h2⟩
    · simp at h
theorem par_clean {l : List UInt8} (h : parE l = 0) : clean l := by
  obtain ⟨t, rfl, ht⟩ := par_text h
  exact write_clean ht
theorem prf_clean {l : List UInt8} (h : prfE l = 0) : clean l := by
  unfold prfE at h
  split at h
  · simp at h
  · split at h
    · exact par_clean h
    · split at h
      · rename_i hv
        exact valid_clean hv
      · simp at h
theorem member_clean {l : List UInt8} (h : memberL l = true) : clean l := by
  unfold memberL at h
  simp only [Bool.or_eq_true, Bool.and_eq_true, decide_eq_true_eq, beq_iff_eq] at h
  rcases h with rfl | ⟨_, h⟩
  · intro c hc
    simp [initL] at hc
    rcases hc with rfl | rfl | rfl | rfl | rfl | rfl <;> decide
  · exact fun c hc => word_clean (part_all h c hc)
theorem args_clean {ts : List (Nat × List UInt8)} (h : ∀ t ∈ ts, namedT t = true) : clean (writeArgs ts) := by
  intro c hc
  unfold writeArgs at hc
  obtain ⟨l, hl, hcl⟩ := List.mem_flatten.1 hc
  obtain ⟨t, ht, rfl⟩ := List.mem_map.1 hl
  exact write_clean (h t ht) c hcl
theorem pd_text {l : List UInt8} (h : pdE l = 0) : ∃ r, l = 40 :: r ∧ (32 : UInt8) ∉ l := by
  unfold pdE at h
  split at h
  · simp at h
  · split at h
    · simp at h
    · rename_i d e
      obtain ⟨rfl, h1, h2⟩ := writeD_read e
      refine ⟨_, rfl, ?_⟩
      unfold writeD
      intro m
      rcases List.mem_cons.1 m with e | m
      · revert e; decide
      · rcases List.mem_append.1 m with m | m
        · exact (args_clean h1 32 m).1 rfl
        · rcases List.mem_cons.1 m with e | m
          · revert e; decide
          · cases hd : d.2 with
            | none => rw [hd] at m; revert m; decide
            | some t =>
              rw [hd] at m
              exact (write_clean (h2 t hd) 32 m).1 rfl

/-- numbers -/
theorem dec_digits (u : Nat) : (Lib.decDigits u).all isDig = true ∧ digV (Lib.decDigits u) = u := by
  induction u using Nat.strongRecOn with
  | _ u ih =>
    have hd : ∀ r : Fin 10, isDig (UInt8.ofNat (48 + r.val)) = true ∧ (UInt8.ofNat (48 + r.val)).toNat = 48 + r.val := by decide
    by_cases h : u < 10
    · rw [dec_small h]
      obtain ⟨a, b⟩ := hd ⟨u, h⟩
      simp only at a b
      refine ⟨by rw [List.all_cons, a]; rfl, ?_⟩
      simp only [digV, List.foldl_cons, List.foldl_nil, b]
      omega
    · rw [dec_big h]
      obtain ⟨i1, i2⟩ := ih (u / 10) (by omega)
      obtain ⟨a, b⟩ := hd ⟨u % 10, by omega⟩
      simp only at a b
      refine ⟨by rw [List.all_append, i1, List.all_cons, a]; rfl, ?_⟩
      rw [digV_snoc, i2, b]
      omega
theorem dec_len (k u : Nat) (h : u < 10 ^ (k + 1)) : (Lib.decDigits u).length ≤ k + 1 := by
  induction k generalizing u with
  | zero => rw [dec_small (by simpa using h)]; simp
  | succ k ih =>
    by_cases hs : u < 10
    · rw [dec_small hs]; simp
    · rw [dec_big hs]
      have := ih (u / 10) (by rw [Nat.pow_succ] at h; omega)
      simp; omega
theorem dec_ne (u : Nat) : Lib.decDigits u ≠ [] := by
  by_cases h : u < 10
  · rw [dec_small h]; simp
  · rw [dec_big h]; simp
theorem dig_clean {l : List UInt8} (h : l.all isDig = true) : clean l := fun c hc => by
  have := List.all_eq_true.1 h c hc
  refine ⟨?_, ?_, ?_, ?_⟩ <;> (rintro rfl; revert this; decide)
theorem itoa_clean (n : Int) : clean (Lib.itoa n) := by
  unfold Lib.itoa
  split
  · exact clean_cons (by decide) (dig_clean (dec_digits _).1)
  · exact dig_clean (dec_digits _).1
theorem num_itoa (n : Int) (h1 : -9999999999 ≤ n) (h2 : n ≤ 9999999999) : numR (Lib.itoa n) = (n, true) := by
  by_cases hn : n < 0
  · have e : Lib.itoa n = 45 :: Lib.decDigits n.natAbs := by rw [Lib.itoa, if_pos hn]
    obtain ⟨a, b⟩ := dec_digits n.natAbs
    have hl := dec_len 9 n.natAbs (by omega)
    have hne : 0 < (Lib.decDigits n.natAbs).length := List.length_pos_iff.2 (dec_ne _)
    have hm : minB (Lib.itoa n) = 1 := by rw [e]; rfl
    have hN : numN (Lib.itoa n) = n := by
      rw [numN, hm, if_pos rfl, e]
      show -((digV (Lib.decDigits n.natAbs) : Nat) : Int) = n
      rw [b]; omega
    have hB : numB (Lib.itoa n) = true := by
      rw [numB, hm, e]
      simp only [List.length_cons, List.drop_succ_cons, List.drop_zero, a, Bool.and_true, Bool.and_eq_true, decide_eq_true_eq]
      omega
    rw [numR, hB, if_pos rfl, hN]
    simp
  · have e : Lib.itoa n = Lib.decDigits n.toNat := by rw [Lib.itoa, if_neg hn]
    obtain ⟨a, b⟩ := dec_digits n.toNat
    have hl := dec_len 9 n.toNat (by omega)
    have hne : 0 < (Lib.decDigits n.toNat).length := List.length_pos_iff.2 (dec_ne _)
    have hm : minB (Lib.itoa n) = 0 := by
      rw [e, minB]
      cases hd : Lib.decDigits n.toNat with
      | nil => rfl
      | cons c r =>
        rw [hd] at a
        rw [if_neg]
        intro h
        simp only [List.head?_cons, Option.some.injEq] at h
        subst h
        simp at a
        exact absurd a.1 (by decide)
    have hN : numN (Lib.itoa n) = n := by
      rw [numN, hm, if_neg (by decide), e, b]
      omega
    have hB : numB (Lib.itoa n) = true := by
      rw [numB, hm, e]
      simp only [List.drop_zero, a, Bool.and_true, Bool.and_eq_true, decide_eq_true_eq]
      omega
    rw [numR, hB, if_pos rfl, hN]
    simp
theorem num_back {l : List UInt8} (h : (numR l).2 = true) : Lib.itoa (numR l).1 = l := by
  unfold numR at h ⊢
  split at h
  · rename_i hb
    rw [if_pos hb]
    simpa using h
  · simp at h

/-- words -/
theorem word_op : ∀ o : Fin 41, 1 ≤ o.val → opOf (wordsL.getD o.val []) = o.val ∧ (32 : UInt8) ∉ wordsL.getD o.val [] := by decide
theorem opFrom_word (l : List UInt8) : ∀ (ws : List (List UInt8)) (i : Nat), opFrom l i ws ≠ 0 → i ≤ opFrom l i ws ∧ ws[opFrom l i ws - i]? = some l := by
  intro ws
  induction ws with
  | nil => intro i h; simp [opFrom] at h
  | cons x r ih =>
    intro i h
    rw [opFrom] at h ⊢
    split
    · rename_i e
      simp [e]
    · rename_i e
      rw [if_neg e] at h
      obtain ⟨h1, h2⟩ := ih (i + 1) h
      refine ⟨by omega, ?_⟩
      rw [show opFrom l (i + 1) r - i = (opFrom l (i + 1) r - (i + 1)) + 1 by omega]
      simpa using h2
theorem op_word {l : List UInt8} (h : opOf l ≠ 0) : wordsL.getD (opOf l) [] = l := by
  obtain ⟨h1, h2⟩ := opFrom_word l (wordsL.drop 1) 1 h
  rw [List.getElem?_drop, show 1 + (opFrom l 1 (wordsL.drop 1) - 1) = opOf l by unfold opOf; omega] at h2
  rw [List.getD_eq_getElem?_getD, h2]; rfl

/-- a text cut at blanks, and joined -/
def gl : List (List UInt8) → List UInt8
  | [] => []
  | [a] => a
  | a :: b :: r => a ++ 32 :: gl (b :: r)
theorem gl_cut (l : List UInt8) : gl (cutL 32 l) = l := by
  induction l with
  | nil => rfl
  | cons x l ih =>
    unfold cutL
    split
    · rename_i e
      subst e
      cases h : cutL 32 l with
      | nil => exact absurd h (cutL_ne 32 l)
      | cons p r => rw [h] at ih; show [] ++ 32 :: gl (p :: r) = _; rw [ih]; rfl
    · cases h : cutL 32 l with
      | nil => exact absurd h (cutL_ne 32 l)
      | cons p r =>
        rw [h] at ih
        cases r with
        | nil => show x :: p = _; rw [← ih]; rfl
        | cons q r => show (x :: p) ++ 32 :: gl (q :: r) = _; rw [← ih]; rfl
theorem clean_blank {l : List UInt8} (h : clean l) : (32 : UInt8) ∉ l := fun m => (h 32 m).1 rfl
theorem cut2 {a b : List UInt8} (ha : (32 : UInt8) ∉ a) (hb : (32 : UInt8) ∉ b) : cutL 32 (a ++ 32 :: b) = [a, b] := by rw [cutL_cut 32 a b ha, cutL_free 32 b hb]
theorem cut3 {a b c : List UInt8} (ha : (32 : UInt8) ∉ a) (hb : (32 : UInt8) ∉ b) (hc : (32 : UInt8) ∉ c) : cutL 32 (a ++ 32 :: (b ++ 32 :: c)) = [a, b, c] := by rw [cutL_cut 32 a _ ha, cut2 hb hc]

/-- a reference's text is read as it -/
theorem span_app (p : UInt8 → Bool) (a b : List UInt8) (x : UInt8) (h : ∀ c ∈ a, p c = true) (hx : p x = false) : spanN p (a ++ x :: b) = a.length := by
  induction a with
  | nil => simp [spanN, hx]
  | cons c a ih =>
    have hc := h c (List.mem_cons_self ..)
    have := ih (fun d hd => h d (List.mem_cons_of_mem _ hd))
    simp only [spanN, List.cons_append, List.takeWhile_cons, hc, if_true, List.length_cons] at this ⊢
    omega
theorem ref_read {b : Bool} {c n d : List UInt8} (h : rckB c n d = true) : rfOK (rtxL b c n d) = true ∧ rfB (rtxL b c n d) = b ∧ rfC (rtxL b c n d) = c ∧ rfN (rtxL b c n d) = n ∧ rfD (rtxL b c n d) = d := by
  have hh := h
  unfold rckB at hh
  simp only [Bool.and_eq_true, beq_iff_eq] at hh
  obtain ⟨⟨hc, hn⟩, hd⟩ := hh
  obtain ⟨r, rfl, _⟩ := pd_text hd
  have cc := prf_clean hc
  have cn := member_clean hn
  have e : rtxL b c n (40 :: r) = c ++ (if b then 58 else 46) :: (n ++ 40 :: r) := by rw [rtxL, h]; rfl
  obtain ⟨x, hx⟩ : ∃ x : UInt8, x = (if b then 58 else 46) := ⟨_, rfl⟩
  rw [← hx] at e
  have hxm : notMark x = false := by rw [hx]; cases b <;> decide
  have hxo : notOpen x = true := by rw [hx]; cases b <;> decide
  have hm : markN (c ++ x :: (n ++ 40 :: r)) = c.length := span_app notMark c _ x (fun y hy => by
    obtain ⟨_, h2, h3, _⟩ := cc y hy
    simp [notMark, h2, h3]) hxm
  have ho : openN (c ++ x :: (n ++ 40 :: r)) = c.length + 1 + n.length := by
    rw [openN, hm, List.drop_left]
    have := span_app notOpen (x :: n) r 40 (fun y hy => by
      rcases List.mem_cons.1 hy with rfl | hy
      · exact hxo
      · obtain ⟨_, _, _, h4⟩ := cn y hy
        simp [notOpen, h4]) (by decide)
    rw [List.cons_append] at this
    rw [this]
    simp; omega
  have hC : rfC (c ++ x :: (n ++ 40 :: r)) = c := by rw [rfC, hm]; simp
  have hN : rfN (c ++ x :: (n ++ 40 :: r)) = n := by
    rw [rfN, hm, ho]
    have : (c ++ x :: (n ++ 40 :: r)).drop (c.length + 1) = n ++ 40 :: r := by
      rw [show c ++ x :: (n ++ 40 :: r) = (c ++ [x]) ++ (n ++ 40 :: r) by simp, List.drop_left' (by simp)]
    rw [this]
    simp
  have hD : rfD (c ++ x :: (n ++ 40 :: r)) = 40 :: r := by
    rw [rfD, ho, show c ++ x :: (n ++ 40 :: r) = (c ++ x :: n) ++ 40 :: r by simp, List.drop_left' (by simp; omega)]
  have hB : rfB (c ++ x :: (n ++ 40 :: r)) = b := by
    rw [rfB, hm, List.drop_left]
    simp only [List.head?_cons]
    rw [hx]
    cases b <;> decide
  rw [e]
  refine ⟨?_, hB, hC, hN, hD⟩
  rw [rfOK, ho, hC, hN, hD, h]
  simp
  omega
theorem span_stop (p : UInt8 → Bool) (l : List UInt8) (x : UInt8) (t : List UInt8) (h : l.drop (spanN p l) = x :: t) : p x = false := by
  induction l with
  | nil => simp at h
  | cons c l ih =>
    by_cases hc : p c = true
    · rw [show spanN p (c :: l) = spanN p l + 1 by simp [spanN, hc]] at h
      exact ih (by simpa using h)
    · rw [show spanN p (c :: l) = 0 by simp [spanN, hc]] at h
      simp at h
      rw [← h.1]; simpa using hc
theorem ref_write {l : List UInt8} (h : rfOK l = true) : rckB (rfC l) (rfN l) (rfD l) = true ∧ rtxL (rfB l) (rfC l) (rfN l) (rfD l) = l := by
  unfold rfOK at h
  simp only [Bool.and_eq_true, decide_eq_true_eq] at h
  obtain ⟨h1, h2⟩ := h
  refine ⟨h2, ?_⟩
  rw [rtxL, h2, if_pos rfl]
  have hml : markN l < l.length := by
    have : markN l ≤ openN l := by unfold openN; omega
    omega
  obtain ⟨x, t, ht⟩ : ∃ x t, l.drop (markN l) = x :: t := by
    cases e : l.drop (markN l) with
    | nil => have := List.drop_eq_nil_iff.1 e; omega
    | cons x t => exact ⟨x, t, rfl⟩
  have hx : notMark x = false := span_stop notMark l x t ht
  have hx2 : x = if rfB l then 58 else 46 := by
    have hb : rfB l = decide (x = 58) := by
      rw [rfB, ht]
      rw [Bool.eq_iff_iff]; simp
    have h3 : x = 46 ∨ x = 58 := by
      simp only [notMark, Bool.and_eq_false_iff, Bool.not_eq_false', decide_eq_true_eq] at hx
      exact hx
    rcases h3 with rfl | rfl
    · rw [hb]; decide
    · rw [hb]; decide
  have ho : openN l = markN l + 1 + spanN notOpen t := by
    rw [openN, ht]
    have hxo : notOpen x = true := by
      rw [hx2]; cases rfB l <;> decide
    simp only [spanN, List.takeWhile_cons, hxo, if_true, List.length_cons]
    omega
  have ht2 : l.drop (markN l + 1) = t := by
    have := congrArg (List.drop 1) ht
    rw [List.drop_drop] at this
    simpa using this
  rw [← hx2]
  have e1 : rfN l ++ rfD l = t := by
    rw [rfN, rfD, ht2, ho, show markN l + 1 + spanN notOpen t - (markN l + 1) = spanN notOpen t by omega]
    have : l.drop (markN l + 1 + spanN notOpen t) = t.drop (spanN notOpen t) := by rw [← ht2, List.drop_drop]
    rw [this, List.take_append_drop]
  rw [e1, rfC, ← ht, List.take_append_drop]


/-- the word of an instruction -/
def wordL (op : Int) : List UInt8 := wordsL.getD op.toNat []
/-- what stands behind the word -/
def restL (k n : Int) (t : List UInt8) (r : List UInt8) : List UInt8 :=
  if k = 1 ∨ k = 2 ∨ k = 3 then 32 :: Lib.itoa n else if k = 4 ∨ k = 5 ∨ k = 6 then 32 :: t else if k = 7 then 32 :: (Lib.itoa n ++ 32 :: t) else if k = 8 then 32 :: r else []
/-- an instruction's text -/
def prtL (op n : Int) (t : ByteArray) (b : Bool) (c m d : ByteArray) : List UInt8 :=
  if ickE op n t b c m d = 0 then wordL op ++ restL (opdI op) n t.data.toList (rtxL b c.data.toList m.data.toList d.data.toList) else []

theorem word_len (op : Int) : (wordL op).length ≤ 20 := by
  have h : ∀ x ∈ wordsL, x.length ≤ 20 := by decide
  unfold wordL
  rw [List.getD_eq_getElem?_getD]
  cases e : wordsL[op.toNat]? with
  | none => simp
  | some x => exact h x (List.mem_of_getElem? e)

theorem ick_type {op n : Int} {t : ByteArray} {b : Bool} {c m d : ByteArray} (h : ickE op n t b c m d = 0) : t.size ≤ 2000 := by
  have hlen : t.data.toList.length = t.size := by simp
  have he : t.toList.isEmpty = true → t.size ≤ 2000 := fun h => by
    rw [Lib.toList_data] at h
    rw [← hlen, List.isEmpty_iff.1 h]; simp
  have hv : validL t.data.toList = true → t.size ≤ 2000 := fun h => by
    unfold validL at h
    rw [Bool.and_eq_true, decide_eq_true_eq] at h
    omega
  have hp : prfE t.data.toList = 0 → t.size ≤ 2000 := fun h => by have := prf_len h; omega
  have hq : parE t.data.toList = 0 → t.size ≤ 2000 := fun h => by
    by_cases h1 : 2000 < t.data.toList.length
    · rw [parE, if_pos h1] at h; exact absurd h (by decide)
    · omega
  have h2 : insB (opdI op) n t.toList.isEmpty t.data.toList (noRefB b c m d) (rckB c.data.toList m.data.toList d.data.toList) = true := by
    unfold ickE at h
    split at h
    · assumption
    · exact absurd h (by decide)
  unfold insB at h2
  rcases opd_cases op with e | e | e | e | e | e | e | e | e | e <;> rw [e] at h2 <;> simp at h2
  · exact he (by simpa using h2.2)
  · exact he (by simpa using h2.1.1.2)
  · exact he (by simpa using h2.1.1.2)
  · exact he (by simpa using h2.1.1.2)
  · exact hv h2.2
  · exact hp h2.2
  · exact hq h2.1.2
  · exact hp h2.1.1.2
  · exact he (by simpa using h2.1.2)

theorem ick_op {op n : Int} {t : ByteArray} {b : Bool} {c m d : ByteArray} (h : ickE op n t b c m d = 0) : 1 ≤ op ∧ op ≤ 40 := by
  by_cases ho : op < 1 ∨ 40 < op
  · have : opdI op = -1 := by rw [opdI, if_pos ho]
    rw [ickE, this] at h
    simp [insB] at h
  · omega

theorem itoa_size (n : Int) (h1 : -9223372036854775808 ≤ n) (h2 : n ≤ 9223372036854775807) : (⟨(Lib.itoa n).toArray⟩ : ByteArray).size ≤ 21 := by
  rw [mk_size]
  exact Lib.itoa_length_le n h1 h2
theorem rtx_size (b : Bool) (c n d : List UInt8) : (⟨(rtxL b c n d).toArray⟩ : ByteArray).size ≤ 5000 := by
  rw [mk_size, rtxL]
  split
  · rename_i h
    obtain ⟨h1, h2, h3⟩ := rck_len h
    simp; omega
  · simp

end Go.Proofs.YtfbhjfpkhofifaaGreatDoor
