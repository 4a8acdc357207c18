/- Walks of the document's answers of layer 1 (arbiterref01) that read lists: Valid, SameTexts, Compare: each returns what the plain function says; what was there before stays. -/
import Derived.Test.YtiinjaiigofbjaaRefParts
namespace Go.Proofs.Ytiinjaiigofbjaa
open Go.RowKit

set_option maxHeartbeats 400000 in
theorem rValid_any (s : ByteArray) (hs : s.size ≤ maxLen) (w : World) :
    Calls Try.prog 10 #[.string s] w fun e w' => e = .returned (.bool (validL s.data.toList)) ∧ Below w.heap.size w w' := by
  have hlen : s.data.toList.length = s.size := by simp
  unfold maxLen at hs
  by_cases h60 : s.size ≤ 60
  · have HV : Hid (validL s.data.toList = (partsL s.data.toList).all partL) := by unfold validL; rw [hlen]; simp [Hid, h60]
    have HP : Hid (∀ w, _) := rParts_any s (by omega)
    have hne := partsL_ne s.data.toList
    have hpl := partsL_length s.data.toList
    rw [hlen] at hpl
    have hel : ∀ p ∈ partsL s.data.toList, p.length ≤ 60 := fun p hp => by have := partsL_mem s.data.toList p hp; omega
    generalize validL s.data.toList = b at *
    generalize partsL s.data.toList = ps at *
    have HN : Hid (ps ≠ []) := hne
    have HE : Hid (∀ p ∈ ps, p.length ≤ 60) := hel
    clear hne hlen hel
    go_enter Try.func10, Try.ntmps10
    go_wp2_with (go_at_call 19; refine ((HP.out) _).mono ?_; rintro e w1 ⟨v, rfl, hown, hbel⟩; obtain ⟨g, cap, rfl, hg, hgl, hcap, hcm, hcell⟩ := own_shape hown HN.out; clear hown)
    have HC : Hid (∀ k p, ps[k]? = some p → w1.cell? ⟨g, k, none⟩ = some (.string ⟨p.toArray⟩)) := hcell
    clear hcell HP HN
    go_loop [4] (fun i => ∃ k : Nat, k ≤ ps.length ∧ i = .int .i64 k ∧ Hid ((ps.take k).all partL = true)) (fun i => ps.length - (intOf i).toNat)
    case atStart => exact ⟨0, Nat.zero_le _, rfl, by simp [Hid]⟩
    case round =>
      obtain ⟨k, hk, rfl, hr⟩ := hrel
      by_cases hlt : k < ps.length
      · obtain ⟨p, hp⟩ : ∃ p, ps[k]? = some p := ⟨_, List.getElem?_eq_getElem hlt⟩
        have hc := HC.out k p hp
        have HS : Hid _ := all_step ps k p hp
        have HF : Hid _ := all_stop ps k p hp
        have hl60 := HE.out p (List.mem_of_getElem? hp)
        have HI : Hid (∀ w, _) := rPart_any ⟨p.toArray⟩ (by rw [mk_size]; unfold maxLen; omega)
        clear hp
        have e : (⟨p.toArray⟩ : ByteArray).data.toList = p := by simp
        rw [e] at HI
        clear e
        generalize partL p = d at *
        cases d
        · go_wp2_with (go_at_call 26; refine ((HI.out) _).mono ?_; rintro e w' ⟨rfl, rfl⟩)
          go_ret
          exact ⟨ret_bool (by rw [HV.out]; exact (HF.out trivial).symm), hbel⟩
        · go_wp2_with (go_at_call 26; refine ((HI.out) _).mono ?_; rintro e w' ⟨rfl, rfl⟩)
          go_round
          case rel => exact ⟨k + 1, by omega, by go_num, by rw [Hid, HS.out, hr.out]; rfl⟩
          case measure => simp [intOf]; omega
      · have hk' : k = ps.length := by omega
        go_wp2
        go_ret
        refine ⟨ret_bool ?_, hbel⟩
        rw [HV.out, ← hr.out, hk', List.take_length]
  · have HV : Hid (validL s.data.toList = false) := by unfold validL; rw [hlen]; simp [Hid, h60]
    clear hlen
    go_enter Try.func10, Try.ntmps10
    go_wp2
    go_ret
    exact ⟨ret_bool HV.out.symm, Below.refl _ _⟩

theorem same_stop (ps qs : List (List UInt8)) (k : Nat) (p q : List UInt8) (hp : ps[k]? = some p) (hq : qs[k]? = some q) (h : p ≠ q) : decide (ps = qs) = false := by
  simp only [decide_eq_false_iff_not]
  intro e
  rw [e, hq] at hp
  exact h (Option.some.inj hp).symm

theorem same_end (ps qs : List (List UInt8)) (h : ps.length = qs.length) (ht : ps.take ps.length = qs.take ps.length) : decide (ps = qs) = true := by
  rw [List.take_length, h, List.take_length] at ht
  simp [ht]

set_option maxHeartbeats 1000000 in
theorem same_some (b1 o1 c1 b2 o2 c2 : Nat) (ps qs : List (List UInt8)) (w : World) (hl1 : ps.length ≤ c1) (hm1 : c1 ≤ maxLen)
    (hc1 : ∀ k p, ps[k]? = some p → w.cell? ⟨b1, o1 + k, none⟩ = some (.string ⟨p.toArray⟩)) (hc2 : ∀ k p, qs[k]? = some p → w.cell? ⟨b2, o2 + k, none⟩ = some (.string ⟨p.toArray⟩)) :
    Calls Try.prog 17 #[.slice (some ⟨b1, o1, none⟩) ps.length c1, .slice (some ⟨b2, o2, none⟩) qs.length c2] w fun e w' => e = .returned (.bool (decide (ps = qs))) ∧ ∃ n, w' = w.drewN n := by
  unfold maxLen at hm1
  by_cases hlen : ps.length = qs.length
  · have H1 : Hid _ := hc1
    have H2 : Hid _ := hc2
    have hq : ((ps.length : Int) == (qs.length : Int)) = true := by rw [beq_iff_eq]; omega
    have hle1 : ps.length ≤ qs.length := by omega
    have hle2 : qs.length ≤ ps.length := by omega
    have HLEN : Hid _ := hlen
    clear hc1 hc2 hlen
    go_enter Try.func17, Try.ntmps17
    go_wp2
    go_loopw [5] (fun i wr => ∃ k n : Nat, k ≤ ps.length ∧ i = .int .i64 k ∧ wr = w.drewN n ∧ Hid (ps.take k = qs.take k)) (fun i _ => ps.length - (intOf i).toNat)
    case atStart => exact ⟨0, 0, Nat.zero_le _, rfl, rfl, rfl⟩
    case round =>
      obtain ⟨k, n, hk, rfl, rfl, hr⟩ := hrel
      by_cases h1 : k < ps.length
      · have h2 : k < qs.length := by omega
        obtain ⟨p, hp⟩ : ∃ p, ps[k]? = some p := ⟨_, List.getElem?_eq_getElem h1⟩
        obtain ⟨q, hqk⟩ : ∃ q, qs[k]? = some q := ⟨_, List.getElem?_eq_getElem h2⟩
        have g1 := H1.out k p hp
        have g2 := H2.out k q hqk
        have HS : Hid _ := same_stop ps qs k p q hp hqk
        have HT : Hid (p = q → ps.take (k + 1) = qs.take (k + 1)) := fun e => by
          rw [List.take_add_one, List.take_add_one, hr.out, hp, hqk, e]
        clear hp hqk H1 H2
        by_cases e : p = q
        · have HT2 : Hid _ := HT.out e
          subst e
          clear HT HS hr
          go_wp2
          go_quiet (fail)
          go_wp2
          go_roundw
          case rel => exact ⟨k + 1, _, by omega, by go_num, rfl, HT2⟩
          case measure => simp [intOf]; omega
        · have HS2 : Hid _ := HS.out e
          have hpq : (p == q) = false := by simpa using e
          clear HT HS hr e
          go_wp2
          go_quiet (fail)
          go_wp2
          go_ret
          exact ⟨ret_bool HS2.out.symm, _, World.drewN_drewN ..⟩
      · have hk' : k = ps.length := by omega
        have HS : Hid _ := same_end ps qs HLEN.out (by have := hr.out; rw [hk'] at this; exact this)
        clear hr hk' H1 H2
        go_wp2
        go_ret
        exact ⟨ret_bool HS.out.symm, _, rfl⟩
  · have hq : ((ps.length : Int) == (qs.length : Int)) = false := by rw [beq_eq_false_iff_ne]; omega
    have HS : Hid (decide (ps = qs) = false) := by simp only [Hid, decide_eq_false_iff_not]; intro e; rw [e] at hlen; exact hlen rfl
    clear hlen hc1 hc2
    go_enter Try.func17, Try.ntmps17
    go_wp2
    go_ret
    exact ⟨ret_bool HS.out.symm, 0, rfl⟩

/-- arbiterref01.SameTexts at two lists that are not both empty -/
theorem same_any (v1 v2 : Value) (ps qs : List (List UInt8)) (w : World) (h1 : IsStrs w v1 ps) (h2 : IsStrs w v2 qs) (n1 : ps ≠ []) (n2 : qs ≠ []) :
    Calls Try.prog 17 #[v1, v2] w fun e w' => e = .returned (.bool (decide (ps = qs))) ∧ ∃ n, w' = w.drewN n := by
  obtain ⟨ao, c1, rfl, k1, m1, x1⟩ := h1
  obtain ⟨bo, c2, rfl, _, _, x2⟩ := h2
  obtain ⟨b1, o1, rfl, _, y1⟩ := x1 n1
  obtain ⟨b2, o2, rfl, _, y2⟩ := x2 n2
  exact same_some b1 o1 c1 b2 o2 c2 ps qs w k1 m1 y1 y2

set_option maxHeartbeats 2000000 in
/-- arbiterref01.Compare -/
theorem rCompare_any (a b : ByteArray) (ha : a.size ≤ 1099511627776) (hb : b.size ≤ 1099511627776) (w : World) :
    Calls Try.prog 21 #[.string a, .string b] w fun e w' => e = .returned (.int .i64 (nameC a.data.toList b.data.toList)) ∧ Below w.heap.size w w' := by
  have HA : Hid (∀ w, _) := rParts_any a ha
  have HB : Hid (∀ w, _) := rParts_any b hb
  have HN : Hid (nameC a.data.toList b.data.toList = textsC (partsL a.data.toList) (partsL b.data.toList)) := rfl
  have N1 := partsL_ne a.data.toList
  have N2 := partsL_ne b.data.toList
  generalize partsL a.data.toList = ps at *
  generalize partsL b.data.toList = qs at *
  generalize nameC a.data.toList b.data.toList = r at *
  have M1 : Hid _ := N1
  have M2 : Hid _ := N2
  clear N1 N2
  go_enter Try.func21, Try.ntmps21
  go_wp2_with fail
  refine (HA.out _).mono ?_
  rintro e w1 ⟨v1, rfl, hown1, hb1⟩
  obtain ⟨g1, cap1, rfl, _, hgl1, hcap1, hcm1, hcell1⟩ := own_shape hown1 M1.out
  clear hown1
  have H1 : Hid _ := hcell1
  clear hcell1
  go_wp2_with fail
  refine (HB.out _).mono ?_
  rintro e w2 ⟨v2, rfl, hown2, hb2⟩
  obtain ⟨g2, cap2, rfl, _, hgl2, hcap2, hcm2, hcell2⟩ := own_shape hown2 M2.out
  have H2 : Hid _ := hcell2
  have H1' : Hid (∀ k p, ps[k]? = some p → w2.cell? ⟨g1, k, none⟩ = some (.string ⟨p.toArray⟩)) := fun k p hk => (hb2.cell hgl1).trans (H1.out k p hk)
  replace hb1 : Below w.heap.size w w2 := hb1.trans (hb2.mono hb1.size)
  clear hown2 hcell2 hb2 H1 HA HB M1 M2
  unfold maxLen at hcm1 hcm2
  go_wp2
  go_loopw [7] (fun i wr => ∃ k n : Nat, k ≤ ps.length ∧ k ≤ qs.length ∧ i = .int .i64 k ∧ wr = w2.drewN n ∧ Hid (textsC ps qs = textsC (ps.drop k) (qs.drop k))) (fun i _ => ps.length - (intOf i).toNat)
  case atStart => exact ⟨0, 0, Nat.zero_le _, Nat.zero_le _, rfl, rfl, by simp [Hid]⟩
  case round =>
    obtain ⟨k, n, hk1, hk2, rfl, rfl, hr⟩ := hrel
    by_cases h1 : k < ps.length
    · by_cases h2 : k < qs.length
      · obtain ⟨p, hp⟩ : ∃ p, ps[k]? = some p := ⟨_, List.getElem?_eq_getElem h1⟩
        obtain ⟨q, hq⟩ : ∃ q, qs[k]? = some q := ⟨_, List.getElem?_eq_getElem h2⟩
        have g1c := H1'.out k p hp
        have g2c := H2.out k q hq
        have HS : Hid _ := textsC_step ps qs k p q hp hq
        have e1 : Op.bytesLess p q = decide (strC p q = -1) := strC_less _ _
        have e2 : (p == q) = decide (strC p q = 0) := by
          rw [Bool.eq_iff_iff]; simp only [beq_iff_eq, decide_eq_true_eq]; exact (strC_isCmp.zero _ _).symm
        have l1 := strC_isCmp.lo p q
        have l2 := strC_isCmp.hi p q
        clear hp hq H1' H2
        generalize strC p q = c at *
        rcases (show c = -1 ∨ c = 0 ∨ c = 1 by omega) with rfl | rfl | rfl
        · have q1 : Op.bytesLess p q = true := by rw [e1]; rfl
          clear e1 e2 l1 l2
          go_wp2
          go_quiet (fail)
          go_wp2
          go_ret
          exact ⟨ret_int (by rw [HN.out, hr.out, HS.out]; rfl), below_drewN (below_drewN hb1 _) _⟩
        · have q1 : Op.bytesLess p q = false := by rw [e1]; rfl
          have q2 : (p == q) = true := by rw [e2]; rfl
          clear e1 e2 l1 l2
          go_wp2
          go_quiet (fail)
          go_wp2
          go_quiet (fail)
          go_wp2
          go_roundw
          case rel => exact ⟨k + 1, _, by omega, by omega, by go_num, rfl, by rw [Hid, hr.out, HS.out]; rfl⟩
          case measure => simp [intOf]; omega
        · have q1 : Op.bytesLess p q = false := by rw [e1]; rfl
          have q2 : (p == q) = false := by rw [e2]; rfl
          clear e1 e2 l1 l2
          go_wp2
          go_quiet (fail)
          go_wp2
          go_quiet (fail)
          go_wp2
          go_ret
          exact ⟨ret_int (by rw [HN.out, hr.out, HS.out]; rfl), below_drewN (below_drewN (below_drewN hb1 _) _) _⟩
      · have HS : Hid _ := textsC_long ps qs k h1 (by omega)
        have hlt : qs.length < ps.length := by omega
        clear H1' H2
        go_wp2
        go_ret
        exact ⟨ret_int (by rw [HN.out, hr.out, HS.out]), below_drewN hb1 _⟩
    · by_cases h2 : k < qs.length
      · have HS : Hid _ := textsC_short ps qs k (by omega) h2
        have hlt : ps.length < qs.length := by omega
        clear H1' H2
        go_wp2
        go_ret
        exact ⟨ret_int (by rw [HN.out, hr.out, HS.out]), below_drewN hb1 _⟩
      · have HS : Hid _ := textsC_end ps qs k (by omega) (by omega)
        have hlt : ¬ ps.length < qs.length := by omega
        have hgt : ¬ qs.length < ps.length := by omega
        clear H1' H2
        go_wp2
        go_ret
        exact ⟨ret_int (by rw [HN.out, hr.out, HS.out]), below_drewN hb1 _⟩

end Go.Proofs.Ytiinjaiigofbjaa
