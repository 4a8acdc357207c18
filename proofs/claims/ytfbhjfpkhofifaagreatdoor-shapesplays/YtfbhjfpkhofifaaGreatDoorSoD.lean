/- Walks of package shapes: slices.Index and slices.Contains over texts, hasSoundNames; what was there before stays. -/
import Derived.Test.YtfbhjfpkhofifaaGreatDoorSoC
import Derived.Test.YtfbhjfpkhofifaaGreatDoorShpD
namespace Go.Proofs.YtfbhjfpkhofifaaGreatDoor
open Go.RowKit

theorem IsStrs.take {w : World} {ao : Option Addr} {cap : Nat} {l : List (List UInt8)} (h : IsStrs w (.slice ao l.length cap) l) (k : Nat) (hk : k ≤ l.length) : IsStrs w (.slice ao k cap) (l.take k) := by
  obtain ⟨ao', cap', he, h1, h2, h3⟩ := h
  injection he with e1 e2 e3
  subst e1 e3
  have hl : (l.take k).length = k := by simp [hk]
  refine ⟨ao, cap, by rw [hl], by rw [hl]; omega, h2, fun hne => ?_⟩
  obtain ⟨bk, o, e, hlt, hc⟩ := h3 (by intro e; rw [e] at hne; simp at hne)
  refine ⟨bk, o, e, hlt, fun j p hj => hc j p ?_⟩
  rw [List.getElem?_take] at hj
  split at hj
  · exact hj
  · cases hj

theorem has_at {l : List (List UInt8)} {p : List UInt8} (k : Nat) (x : List UInt8) (h : l[k]? = some x) : (l.drop k).contains p = ((p == x) || (l.drop (k + 1)).contains p) := by
  obtain ⟨h1, h2⟩ := List.getElem?_eq_some_iff.1 h
  rw [List.drop_eq_getElem_cons h1, h2, List.contains_cons]

set_option maxRecDepth 100000 in
set_option maxHeartbeats 1000000 in
theorem sIndex_any (v : Value) (l : List (List UInt8)) (p : List UInt8) (W : World) (h : IsStrs W v l) :
    Calls Tryz.prog 101 #[v, .string ⟨p.toArray⟩] W fun e w' => (∃ i : Int, e = .returned (.int .i64 i) ∧ decide (0 ≤ i) = l.contains p) ∧ Below W.heap.size W w' := by
  obtain ⟨ao, cap, rfl, h1, h2, h3⟩ := h
  obtain ⟨N, hN⟩ : ∃ N, l.length = N := ⟨_, rfl⟩
  unfold maxLen at h2
  rw [hN] at h1 ⊢
  have HN1 : Hid (l.length = N) := hN
  have HA : Hid _ := h3
  have HE : Hid (∀ q : List UInt8, ((⟨p.toArray⟩ : ByteArray).toList == (⟨q.toArray⟩ : ByteArray).toList) = (p == q)) := fun q => by rw [Lib.toList_data, Lib.toList_data]
  obtain ⟨P, hP⟩ : ∃ P : ByteArray, P = ⟨p.toArray⟩ := ⟨_, rfl⟩
  rw [← hP] at HE ⊢
  clear hN h3 hP
  go_enter Tryz.func101, Tryz.ntmps101
  go_wp2
  go_loopw [8] (fun iv wr => ∃ i : Nat, iv = .int .i64 i ∧ i ≤ N ∧ Hid (Below W.heap.size W wr) ∧ Hid ((l.drop i).contains p = l.contains p)) (fun iv _ => N - (intOf iv).toNat)
  case atStart => exact ⟨0, rfl, Nat.zero_le _, Below.refl _ _, rfl⟩
  case round =>
    obtain ⟨i, rfl, hi, hb, hs⟩ := hrel
    by_cases hlt : i < N
    · obtain ⟨bk, o, hao, hbk, hc⟩ := HA.out (by intro e; have := HN1.out; rw [e] at this; simp at this; omega)
      obtain ⟨x, hx⟩ : ∃ x, l[i]? = some x := ⟨_, List.getElem?_eq_getElem (by rw [HN1.out]; exact hlt)⟩
      subst hao
      have hst := has_at (p := p) i x hx
      rw [hs.out] at hst
      have p0 := (hb.out.cell hbk).trans (hc i x hx)
      have hq := HE.out x
      obtain ⟨X, hX⟩ : ∃ X : ByteArray, X = ⟨x.toArray⟩ := ⟨_, rfl⟩
      rw [← hX] at p0 hq
      clear hc hs HA hx hX HE
      generalize (p == x) = q at *
      cases q with
      | true =>
        have HZ : Hid (l.contains p = true) := by rw [Hid, hst]; rfl
        clear hst
        go_wp2
        all_goals (try go_quiet (fail))
        all_goals (try go_wp2)
        go_ret
        exact ⟨⟨i, rfl, by rw [HZ.out]; simp⟩, by first | exact hb.out | exact below_drewN hb.out _⟩
      | false =>
        have HZ : Hid ((l.drop (i + 1)).contains p = l.contains p) := by rw [Hid, hst]; rfl
        clear hst
        go_wp2
        all_goals (try go_quiet (fail))
        all_goals (try go_wp2)
        go_roundw
        case rel => exact ⟨i + 1, by go_num, by omega, by first | exact hb | exact below_drewN hb.out _, HZ⟩
        case measure => simp [intOf]; omega
    · have e : i = N := by omega
      subst e
      have HZ : Hid (l.contains p = false) := by rw [Hid, ← hs.out, List.drop_of_length_le (by rw [HN1.out]; exact Nat.le_refl _)]; rfl
      clear hs HA
      go_wp2
      go_ret
      exact ⟨⟨-1, rfl, by rw [HZ.out]; rfl⟩, hb.out⟩

set_option maxRecDepth 100000 in
set_option maxHeartbeats 400000 in
theorem sContains_any (v : Value) (l : List (List UInt8)) (p : List UInt8) (W : World) (h : IsStrs W v l) :
    Calls Tryz.prog 54 #[v, .string ⟨p.toArray⟩] W fun e w' => e = .returned (.bool (l.contains p)) ∧ Below W.heap.size W w' := by
  have HI : Hid (Calls Tryz.prog 101 #[v, .string ⟨p.toArray⟩] W fun e w' => (∃ i : Int, e = .returned (.int .i64 i) ∧ Hid (decide (0 ≤ i) = l.contains p)) ∧ Below W.heap.size W w') := sIndex_any v l p W h
  obtain ⟨ao, cap, rfl, _, _, _⟩ := h
  go_enter Tryz.func54, Tryz.ntmps54
  go_wp2_with (go_at_call 101; refine (HI.out).mono ?_; rintro e w1 ⟨⟨i, rfl, hi⟩, hb1⟩)
  go_ret
  exact ⟨ret_bool hi.out, hb1⟩

theorem IsStrs.take' {w : World} {ao : Option Addr} {cap K : Nat} {l : List (List UInt8)} (h : IsStrs w (.slice ao K cap) l) (hK : l.length = K) (k : Nat) (hk : k ≤ K) : IsStrs w (.slice ao k cap) (l.take k) := by
  subst hK
  exact h.take k hk

/-- are a class's names sound? -/
def namB (nm su : ByteArray) (ifs : List (List UInt8)) : Bool := validL nm.data.toList && validL su.data.toList && !(nm.toList == su.toList) && !decide (20 < (ifs.length : Int)) && ifsB nm.data.toList [] ifs

set_option maxRecDepth 100000 in
set_option maxHeartbeats 2000000 in
theorem soundNames_any (c : Cls) (vi vm : Value) (w : World) (hi : IsStrs w vi c.ifs) (hm : IsMths w vm c.ms) (hn : c.nm.size ≤ maxLen) (hsu : c.su.size ≤ maxLen) (hif : ∀ p ∈ c.ifs, p.length ≤ maxLen) :
    Calls Tryz.prog 22 #[clsV c vi vm] w fun e w' => e = .returned (.bool (namB c.nm c.su c.ifs)) ∧ Below w.heap.size w w' := by
  obtain ⟨nm, su, ifs, fl, ld, ms⟩ := c
  simp only at hi hm hn hsu hif ⊢
  have HV1 : Hid (∀ w, _) := valid_any nm hn
  have HV2 : Hid (∀ w, _) := valid_any su hsu
  have HI : Hid (IsStrs w vi ifs) := hi
  have HIF : Hid _ := hif
  have HR : Hid (namB nm su ifs = (validL nm.data.toList && validL su.data.toList && !(nm.toList == su.toList) && !decide (20 < (ifs.length : Int)) && ifsB nm.data.toList [] ifs)) := rfl
  obtain ⟨ai, capi, rfl, i1, i2, i3⟩ := hi
  obtain ⟨am, capm, rfl, m1, m2, _⟩ := hm
  have HIA : Hid _ := i3
  clear i3
  unfold maxLen at i2 m2
  unfold clsV
  simp only
  obtain ⟨K, hK⟩ : ∃ K, ifs.length = K := ⟨_, rfl⟩
  obtain ⟨M, hM⟩ : ∃ M, ms.length = M := ⟨_, rfl⟩
  rw [hK] at i1 HI HR ⊢
  rw [hM] at m1 ⊢
  have HK : Hid (ifs.length = K) := hK
  clear hn hsu hif hK hM
  generalize namB nm su ifs = z at *
  generalize validL nm.data.toList = q1 at *
  generalize validL su.data.toList = q2 at *
  generalize q3 : (nm.toList == su.toList) = d3 at *
  cases q1 with
  | false =>
    go_enter Tryz.func22, Tryz.ntmps22
    go_wp2_with (first
      | (go_at_call 53; refine ((HV1.out) _).mono ?_; rintro e w1 ⟨rfl, hb1⟩; have hs1 : w.heap.size < w1.heap.size := (by have := hb1.size; simp at this; omega); have a0 : w1.cell? ⟨w.heap.size, 0, none⟩ = some (.string nm) := (hb1.cell (p := ⟨w.heap.size, 0, none⟩) (by simp)).trans (by simp [go_sem, *]); have a1 : w1.cell? ⟨w.heap.size, 1, none⟩ = some (.string su) := (hb1.cell (p := ⟨w.heap.size, 1, none⟩) (by simp)).trans (by simp [go_sem, *]); have a2 : w1.cell? ⟨w.heap.size, 2, none⟩ = some (.slice ai K capi) := (hb1.cell (p := ⟨w.heap.size, 2, none⟩) (by simp)).trans (by simp [go_sem, *]); have a3 : w1.cell? ⟨w.heap.size, 3, none⟩ = some (.int .i64 fl) := (hb1.cell (p := ⟨w.heap.size, 3, none⟩) (by simp)).trans (by simp [go_sem, *]); have a4 : w1.cell? ⟨w.heap.size, 4, none⟩ = some (.int .i64 ld) := (hb1.cell (p := ⟨w.heap.size, 4, none⟩) (by simp)).trans (by simp [go_sem, *]); have a5 : w1.cell? ⟨w.heap.size, 5, none⟩ = some (.slice am M capm) := (hb1.cell (p := ⟨w.heap.size, 5, none⟩) (by simp)).trans (by simp [go_sem, *]); have B1 : Hid (Below w.heap.size w w1) := Below.step ((Below.refl _ _).alloc (Nat.le_refl _) _) hb1; clear hb1 HV1))
    go_ret
    exact ⟨ret_bool (by rw [HR.out]; simp [*]), B1.out⟩
  | true =>
  cases q2 with
  | false =>
    go_enter Tryz.func22, Tryz.ntmps22
    go_wp2_with (first
      | (go_at_call 53; refine ((HV1.out) _).mono ?_; rintro e w1 ⟨rfl, hb1⟩; have hs1 : w.heap.size < w1.heap.size := (by have := hb1.size; simp at this; omega); have a0 : w1.cell? ⟨w.heap.size, 0, none⟩ = some (.string nm) := (hb1.cell (p := ⟨w.heap.size, 0, none⟩) (by simp)).trans (by simp [go_sem, *]); have a1 : w1.cell? ⟨w.heap.size, 1, none⟩ = some (.string su) := (hb1.cell (p := ⟨w.heap.size, 1, none⟩) (by simp)).trans (by simp [go_sem, *]); have a2 : w1.cell? ⟨w.heap.size, 2, none⟩ = some (.slice ai K capi) := (hb1.cell (p := ⟨w.heap.size, 2, none⟩) (by simp)).trans (by simp [go_sem, *]); have a3 : w1.cell? ⟨w.heap.size, 3, none⟩ = some (.int .i64 fl) := (hb1.cell (p := ⟨w.heap.size, 3, none⟩) (by simp)).trans (by simp [go_sem, *]); have a4 : w1.cell? ⟨w.heap.size, 4, none⟩ = some (.int .i64 ld) := (hb1.cell (p := ⟨w.heap.size, 4, none⟩) (by simp)).trans (by simp [go_sem, *]); have a5 : w1.cell? ⟨w.heap.size, 5, none⟩ = some (.slice am M capm) := (hb1.cell (p := ⟨w.heap.size, 5, none⟩) (by simp)).trans (by simp [go_sem, *]); have B1 : Hid (Below w.heap.size w w1) := Below.step ((Below.refl _ _).alloc (Nat.le_refl _) _) hb1; clear hb1 HV1)
      | (go_at_call 53; refine ((HV2.out) _).mono ?_; rintro e w2 ⟨rfl, hb2⟩; have hs2 : w.heap.size < w2.heap.size := (by have := hb2.size; omega); have b0 : w2.cell? ⟨w.heap.size, 0, none⟩ = some (.string nm) := (hb2.cell (p := ⟨w.heap.size, 0, none⟩) hs1).trans (by simp [go_sem, *]); have b1 : w2.cell? ⟨w.heap.size, 1, none⟩ = some (.string su) := (hb2.cell (p := ⟨w.heap.size, 1, none⟩) hs1).trans (by simp [go_sem, *]); have b2 : w2.cell? ⟨w.heap.size, 2, none⟩ = some (.slice ai K capi) := (hb2.cell (p := ⟨w.heap.size, 2, none⟩) hs1).trans (by simp [go_sem, *]); have b3 : w2.cell? ⟨w.heap.size, 3, none⟩ = some (.int .i64 fl) := (hb2.cell (p := ⟨w.heap.size, 3, none⟩) hs1).trans (by simp [go_sem, *]); have b4 : w2.cell? ⟨w.heap.size, 4, none⟩ = some (.int .i64 ld) := (hb2.cell (p := ⟨w.heap.size, 4, none⟩) hs1).trans (by simp [go_sem, *]); have b5 : w2.cell? ⟨w.heap.size, 5, none⟩ = some (.slice am M capm) := (hb2.cell (p := ⟨w.heap.size, 5, none⟩) hs1).trans (by simp [go_sem, *]); clear a0 a1 a2 a3 a4 a5; have B2 : Hid (Below w.heap.size w w2) := Below.step B1.out hb2; clear hb2 HV2))
    go_ret
    exact ⟨ret_bool (by rw [HR.out]; simp [*]), B2.out⟩
  | true =>
  cases d3 with
  | true =>
    go_enter Tryz.func22, Tryz.ntmps22
    go_wp2_with (first
      | (go_at_call 53; refine ((HV1.out) _).mono ?_; rintro e w1 ⟨rfl, hb1⟩; have hs1 : w.heap.size < w1.heap.size := (by have := hb1.size; simp at this; omega); have a0 : w1.cell? ⟨w.heap.size, 0, none⟩ = some (.string nm) := (hb1.cell (p := ⟨w.heap.size, 0, none⟩) (by simp)).trans (by simp [go_sem, *]); have a1 : w1.cell? ⟨w.heap.size, 1, none⟩ = some (.string su) := (hb1.cell (p := ⟨w.heap.size, 1, none⟩) (by simp)).trans (by simp [go_sem, *]); have a2 : w1.cell? ⟨w.heap.size, 2, none⟩ = some (.slice ai K capi) := (hb1.cell (p := ⟨w.heap.size, 2, none⟩) (by simp)).trans (by simp [go_sem, *]); have a3 : w1.cell? ⟨w.heap.size, 3, none⟩ = some (.int .i64 fl) := (hb1.cell (p := ⟨w.heap.size, 3, none⟩) (by simp)).trans (by simp [go_sem, *]); have a4 : w1.cell? ⟨w.heap.size, 4, none⟩ = some (.int .i64 ld) := (hb1.cell (p := ⟨w.heap.size, 4, none⟩) (by simp)).trans (by simp [go_sem, *]); have a5 : w1.cell? ⟨w.heap.size, 5, none⟩ = some (.slice am M capm) := (hb1.cell (p := ⟨w.heap.size, 5, none⟩) (by simp)).trans (by simp [go_sem, *]); have B1 : Hid (Below w.heap.size w w1) := Below.step ((Below.refl _ _).alloc (Nat.le_refl _) _) hb1; clear hb1 HV1)
      | (go_at_call 53; refine ((HV2.out) _).mono ?_; rintro e w2 ⟨rfl, hb2⟩; have hs2 : w.heap.size < w2.heap.size := (by have := hb2.size; omega); have b0 : w2.cell? ⟨w.heap.size, 0, none⟩ = some (.string nm) := (hb2.cell (p := ⟨w.heap.size, 0, none⟩) hs1).trans (by simp [go_sem, *]); have b1 : w2.cell? ⟨w.heap.size, 1, none⟩ = some (.string su) := (hb2.cell (p := ⟨w.heap.size, 1, none⟩) hs1).trans (by simp [go_sem, *]); have b2 : w2.cell? ⟨w.heap.size, 2, none⟩ = some (.slice ai K capi) := (hb2.cell (p := ⟨w.heap.size, 2, none⟩) hs1).trans (by simp [go_sem, *]); have b3 : w2.cell? ⟨w.heap.size, 3, none⟩ = some (.int .i64 fl) := (hb2.cell (p := ⟨w.heap.size, 3, none⟩) hs1).trans (by simp [go_sem, *]); have b4 : w2.cell? ⟨w.heap.size, 4, none⟩ = some (.int .i64 ld) := (hb2.cell (p := ⟨w.heap.size, 4, none⟩) hs1).trans (by simp [go_sem, *]); have b5 : w2.cell? ⟨w.heap.size, 5, none⟩ = some (.slice am M capm) := (hb2.cell (p := ⟨w.heap.size, 5, none⟩) hs1).trans (by simp [go_sem, *]); clear a0 a1 a2 a3 a4 a5; have B2 : Hid (Below w.heap.size w w2) := Below.step B1.out hb2; clear hb2 HV2))
    go_ret
    exact ⟨ret_bool (by rw [HR.out]; simp [*]), B2.out⟩
  | false =>
  by_cases r1 : 20 < (K : Int)
  · go_enter Tryz.func22, Tryz.ntmps22
    go_wp2_with (first
      | (go_at_call 53; refine ((HV1.out) _).mono ?_; rintro e w1 ⟨rfl, hb1⟩; have hs1 : w.heap.size < w1.heap.size := (by have := hb1.size; simp at this; omega); have a0 : w1.cell? ⟨w.heap.size, 0, none⟩ = some (.string nm) := (hb1.cell (p := ⟨w.heap.size, 0, none⟩) (by simp)).trans (by simp [go_sem, *]); have a1 : w1.cell? ⟨w.heap.size, 1, none⟩ = some (.string su) := (hb1.cell (p := ⟨w.heap.size, 1, none⟩) (by simp)).trans (by simp [go_sem, *]); have a2 : w1.cell? ⟨w.heap.size, 2, none⟩ = some (.slice ai K capi) := (hb1.cell (p := ⟨w.heap.size, 2, none⟩) (by simp)).trans (by simp [go_sem, *]); have a3 : w1.cell? ⟨w.heap.size, 3, none⟩ = some (.int .i64 fl) := (hb1.cell (p := ⟨w.heap.size, 3, none⟩) (by simp)).trans (by simp [go_sem, *]); have a4 : w1.cell? ⟨w.heap.size, 4, none⟩ = some (.int .i64 ld) := (hb1.cell (p := ⟨w.heap.size, 4, none⟩) (by simp)).trans (by simp [go_sem, *]); have a5 : w1.cell? ⟨w.heap.size, 5, none⟩ = some (.slice am M capm) := (hb1.cell (p := ⟨w.heap.size, 5, none⟩) (by simp)).trans (by simp [go_sem, *]); have B1 : Hid (Below w.heap.size w w1) := Below.step ((Below.refl _ _).alloc (Nat.le_refl _) _) hb1; clear hb1 HV1)
      | (go_at_call 53; refine ((HV2.out) _).mono ?_; rintro e w2 ⟨rfl, hb2⟩; have hs2 : w.heap.size < w2.heap.size := (by have := hb2.size; omega); have b0 : w2.cell? ⟨w.heap.size, 0, none⟩ = some (.string nm) := (hb2.cell (p := ⟨w.heap.size, 0, none⟩) hs1).trans (by simp [go_sem, *]); have b1 : w2.cell? ⟨w.heap.size, 1, none⟩ = some (.string su) := (hb2.cell (p := ⟨w.heap.size, 1, none⟩) hs1).trans (by simp [go_sem, *]); have b2 : w2.cell? ⟨w.heap.size, 2, none⟩ = some (.slice ai K capi) := (hb2.cell (p := ⟨w.heap.size, 2, none⟩) hs1).trans (by simp [go_sem, *]); have b3 : w2.cell? ⟨w.heap.size, 3, none⟩ = some (.int .i64 fl) := (hb2.cell (p := ⟨w.heap.size, 3, none⟩) hs1).trans (by simp [go_sem, *]); have b4 : w2.cell? ⟨w.heap.size, 4, none⟩ = some (.int .i64 ld) := (hb2.cell (p := ⟨w.heap.size, 4, none⟩) hs1).trans (by simp [go_sem, *]); have b5 : w2.cell? ⟨w.heap.size, 5, none⟩ = some (.slice am M capm) := (hb2.cell (p := ⟨w.heap.size, 5, none⟩) hs1).trans (by simp [go_sem, *]); clear a0 a1 a2 a3 a4 a5; have B2 : Hid (Below w.heap.size w w2) := Below.step B1.out hb2; clear hb2 HV2))
    go_ret
    exact ⟨ret_bool (by rw [HR.out]; simp [*]), B2.out⟩
  have HR2 : Hid (z = ifsB nm.data.toList [] ifs) := by rw [Hid, HR.out]; simp [r1]
  clear HR
  go_enter Tryz.func22, Tryz.ntmps22
  go_wp2_with (first
    | (go_at_call 53; refine ((HV1.out) _).mono ?_; rintro e w1 ⟨rfl, hb1⟩; have hs1 : w.heap.size < w1.heap.size := (by have := hb1.size; simp at this; omega); have a0 : w1.cell? ⟨w.heap.size, 0, none⟩ = some (.string nm) := (hb1.cell (p := ⟨w.heap.size, 0, none⟩) (by simp)).trans (by simp [go_sem, *]); have a1 : w1.cell? ⟨w.heap.size, 1, none⟩ = some (.string su) := (hb1.cell (p := ⟨w.heap.size, 1, none⟩) (by simp)).trans (by simp [go_sem, *]); have a2 : w1.cell? ⟨w.heap.size, 2, none⟩ = some (.slice ai K capi) := (hb1.cell (p := ⟨w.heap.size, 2, none⟩) (by simp)).trans (by simp [go_sem, *]); have a3 : w1.cell? ⟨w.heap.size, 3, none⟩ = some (.int .i64 fl) := (hb1.cell (p := ⟨w.heap.size, 3, none⟩) (by simp)).trans (by simp [go_sem, *]); have a4 : w1.cell? ⟨w.heap.size, 4, none⟩ = some (.int .i64 ld) := (hb1.cell (p := ⟨w.heap.size, 4, none⟩) (by simp)).trans (by simp [go_sem, *]); have a5 : w1.cell? ⟨w.heap.size, 5, none⟩ = some (.slice am M capm) := (hb1.cell (p := ⟨w.heap.size, 5, none⟩) (by simp)).trans (by simp [go_sem, *]); have B1 : Hid (Below w.heap.size w w1) := Below.step ((Below.refl _ _).alloc (Nat.le_refl _) _) hb1; clear hb1 HV1)
    | (go_at_call 53; refine ((HV2.out) _).mono ?_; rintro e w2 ⟨rfl, hb2⟩; have hs2 : w.heap.size < w2.heap.size := (by have := hb2.size; omega); have b0 : w2.cell? ⟨w.heap.size, 0, none⟩ = some (.string nm) := (hb2.cell (p := ⟨w.heap.size, 0, none⟩) hs1).trans (by simp [go_sem, *]); have b1 : w2.cell? ⟨w.heap.size, 1, none⟩ = some (.string su) := (hb2.cell (p := ⟨w.heap.size, 1, none⟩) hs1).trans (by simp [go_sem, *]); have b2 : w2.cell? ⟨w.heap.size, 2, none⟩ = some (.slice ai K capi) := (hb2.cell (p := ⟨w.heap.size, 2, none⟩) hs1).trans (by simp [go_sem, *]); have b3 : w2.cell? ⟨w.heap.size, 3, none⟩ = some (.int .i64 fl) := (hb2.cell (p := ⟨w.heap.size, 3, none⟩) hs1).trans (by simp [go_sem, *]); have b4 : w2.cell? ⟨w.heap.size, 4, none⟩ = some (.int .i64 ld) := (hb2.cell (p := ⟨w.heap.size, 4, none⟩) hs1).trans (by simp [go_sem, *]); have b5 : w2.cell? ⟨w.heap.size, 5, none⟩ = some (.slice am M capm) := (hb2.cell (p := ⟨w.heap.size, 5, none⟩) hs1).trans (by simp [go_sem, *]); clear a0 a1 a2 a3 a4 a5; have B2 : Hid (Below w.heap.size w w2) := Below.step B1.out hb2; clear hb2 HV2))
  have HC3 : Hid (CB w2 w.heap.size nm su (.slice ai K capi) fl ld (.slice am M capm)) := ⟨hs2, b0, b1, b2, b3, b4, b5⟩
  clear b0 b1 b2 b3 b4 b5 hs1 hs2 B1
  go_loopw [31] (fun iv wr => ∃ i : Nat, iv = .int .i64 i ∧ i ≤ K ∧ Hid (CB wr w.heap.size nm su (.slice ai K capi) fl ld (.slice am M capm)) ∧ Hid (Below w.heap.size w wr) ∧ Hid (ifsB nm.data.toList (ifs.take i) (ifs.drop i) = ifsB nm.data.toList [] ifs)) (fun iv _ => K - (intOf iv).toNat)
  case atStart => exact ⟨0, rfl, Nat.zero_le _, HC3, B2, rfl⟩
  case round =>
    obtain ⟨i, rfl, hi, hcb, hb, hs⟩ := hrel
    clear HC3 B2
    by_cases hlt : i < K
    · obtain ⟨bk, o, hao, hbk, hc⟩ := HIA.out (by intro e; have := HK.out; rw [e] at this; simp at this; omega)
      obtain ⟨p, hp⟩ : ∃ p, ifs[i]? = some p := ⟨_, List.getElem?_eq_getElem (by rw [HK.out]; exact hlt)⟩
      subst hao
      have hst := ifsB_at nm.data.toList i p hp
      rw [hs.out] at hst
      have e1 := (hb.out.cell hbk).trans (hc i p hp)
      have hpl : p.length ≤ maxLen := HIF.out p (List.mem_of_getElem? hp)
      have hpn : ((⟨p.toArray⟩ : ByteArray).toList == nm.toList) = (p == nm.data.toList) := by rw [Lib.toList_data, Lib.toList_data]
      have HVP : Hid (∀ w' : World, Calls Tryz.prog 53 #[.string ⟨p.toArray⟩] w' fun e w'' => e = .returned (.bool (validL p)) ∧ Below w'.heap.size w' w'') := fun w' => valid_any ⟨p.toArray⟩ (by simpa [ByteArray.size] using hpl) w'
      have HCN : Hid (∀ w' : World, Below w.heap.size w w' → Calls Tryz.prog 54 #[.slice (some ⟨bk, o, none⟩) i capi, .string ⟨p.toArray⟩] w' fun e w'' => e = .returned (.bool ((ifs.take i).contains p)) ∧ Below w'.heap.size w' w'') := fun w' h => sContains_any _ _ p w' ((HI.out.keep h).take' HK.out i hi)
      obtain ⟨P, hP⟩ : ∃ P : ByteArray, P = ⟨p.toArray⟩ := ⟨_, rfl⟩
      rw [← hP] at e1 hpn HVP HCN
      obtain ⟨g0, d0, d1, d2, d3, d4, d5⟩ := hcb.out
      clear hc hs hP hp hpl HIA HIF
      generalize validL p = vp at *
      generalize (p == nm.data.toList) = pn at *
      generalize (ifs.take i).contains p = pc at *
      cases vp with
      | false =>
        have HZ : Hid (z = false) := by rw [Hid, HR2.out, hst]; simp
        clear hst HR2
        go_wp2_with (first
          | (go_at_call 53; refine ((HVP.out) _).mono ?_; rintro e w3 ⟨rfl, hb3⟩; have k0 : w3.cell? ⟨w.heap.size, 0, none⟩ = some (.string nm) := (hb3.cell g0).trans d0; have k2 : w3.cell? ⟨w.heap.size, 2, none⟩ = some (.slice (some ⟨bk, o, none⟩) K capi) := (hb3.cell g0).trans d2; have B3 : Hid (Below w.heap.size w w3) := Below.step hb.out hb3; have HC4 : Hid (CB w3 w.heap.size nm su (.slice (some ⟨bk, o, none⟩) K capi) fl ld (.slice am M capm)) := hcb.out.keep hb3; clear hb3))
        go_ret
        exact ⟨ret_bool HZ.out.symm, B3.out⟩
      | true =>
      cases pn with
      | true =>
        have HZ : Hid (z = false) := by rw [Hid, HR2.out, hst]; simp
        clear hst HR2
        go_wp2_with (first
          | (go_at_call 53; refine ((HVP.out) _).mono ?_; rintro e w3 ⟨rfl, hb3⟩; have k0 : w3.cell? ⟨w.heap.size, 0, none⟩ = some (.string nm) := (hb3.cell g0).trans d0; have k2 : w3.cell? ⟨w.heap.size, 2, none⟩ = some (.slice (some ⟨bk, o, none⟩) K capi) := (hb3.cell g0).trans d2; have B3 : Hid (Below w.heap.size w w3) := Below.step hb.out hb3; have HC4 : Hid (CB w3 w.heap.size nm su (.slice (some ⟨bk, o, none⟩) K capi) fl ld (.slice am M capm)) := hcb.out.keep hb3; clear hb3))
        go_ret
        exact ⟨ret_bool HZ.out.symm, B3.out⟩
      | false =>
      cases pc with
      | true =>
        have HZ : Hid (z = false) := by rw [Hid, HR2.out, hst]; simp
        clear hst HR2
        go_wp2_with (first
          | (go_at_call 53; refine ((HVP.out) _).mono ?_; rintro e w3 ⟨rfl, hb3⟩; have k0 : w3.cell? ⟨w.heap.size, 0, none⟩ = some (.string nm) := (hb3.cell g0).trans d0; have k2 : w3.cell? ⟨w.heap.size, 2, none⟩ = some (.slice (some ⟨bk, o, none⟩) K capi) := (hb3.cell g0).trans d2; have B3 : Hid (Below w.heap.size w w3) := Below.step hb.out hb3; have HC4 : Hid (CB w3 w.heap.size nm su (.slice (some ⟨bk, o, none⟩) K capi) fl ld (.slice am M capm)) := hcb.out.keep hb3; clear hb3)
          | (go_at_call 54; refine ((HCN.out) _ B3.out).mono ?_; rintro e w4 ⟨rfl, hb4⟩; have B4 : Hid (Below w.heap.size w w4) := Below.step B3.out hb4; have HC5 : Hid (CB w4 w.heap.size nm su (.slice (some ⟨bk, o, none⟩) K capi) fl ld (.slice am M capm)) := HC4.out.keep hb4; clear hb4))
        go_ret
        exact ⟨ret_bool HZ.out.symm, B4.out⟩
      | false =>
        have HZ : Hid (ifsB nm.data.toList (ifs.take (i + 1)) (ifs.drop (i + 1)) = ifsB nm.data.toList [] ifs) := by rw [Hid, hst]; simp
        clear hst
        go_wp2_with (first
          | (go_at_call 53; refine ((HVP.out) _).mono ?_; rintro e w3 ⟨rfl, hb3⟩; have k0 : w3.cell? ⟨w.heap.size, 0, none⟩ = some (.string nm) := (hb3.cell g0).trans d0; have k2 : w3.cell? ⟨w.heap.size, 2, none⟩ = some (.slice (some ⟨bk, o, none⟩) K capi) := (hb3.cell g0).trans d2; have B3 : Hid (Below w.heap.size w w3) := Below.step hb.out hb3; have HC4 : Hid (CB w3 w.heap.size nm su (.slice (some ⟨bk, o, none⟩) K capi) fl ld (.slice am M capm)) := hcb.out.keep hb3; clear hb3)
          | (go_at_call 54; refine ((HCN.out) _ B3.out).mono ?_; rintro e w4 ⟨rfl, hb4⟩; have B4 : Hid (Below w.heap.size w w4) := Below.step B3.out hb4; have HC5 : Hid (CB w4 w.heap.size nm su (.slice (some ⟨bk, o, none⟩) K capi) fl ld (.slice am M capm)) := HC4.out.keep hb4; clear hb4))
        go_roundw
        case rel => exact ⟨i + 1, by go_num, by omega, HC5, B4, HZ⟩
        case measure => simp [intOf]; omega
    · have e : i = K := by omega
      subst e
      have HZ : Hid (z = true) := by
        rw [Hid, HR2.out, ← hs.out, List.drop_of_length_le (by rw [HK.out]; exact Nat.le_refl _)]; rfl
      clear HR2 hs HIA HIF
      go_wp2
      go_ret
      exact ⟨ret_bool HZ.out.symm, hb.out⟩
end Go.Proofs.YtfbhjfpkhofifaaGreatDoor
