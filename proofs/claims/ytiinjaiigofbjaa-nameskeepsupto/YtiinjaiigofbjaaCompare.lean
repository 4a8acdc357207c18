/- Walks of names.Compare, slices.Compare and cmp.Compare: they answer what the plain comparison of texts and of lists of texts says; what was there before stays. -/
import Derived.Test.YtiinjaiigofbjaaJoin
import Derived.Test.YtiinjaiigofbjaaOrder
namespace Go.Proofs.Ytiinjaiigofbjaa
open Go.RowKit

set_option maxHeartbeats 400000 in
theorem isNaN_any (s : ByteArray) (w : World) :
    Calls Try.prog 45 #[.string s] w fun e w' => e = .returned (.bool false) ∧ w' = w := by
  go_enter Try.func45, Try.ntmps45
  go_wp2
  go_ret
  exact ⟨by simp, rfl⟩

set_option maxHeartbeats 400000 in
theorem cmpText_any (a b : ByteArray) (w : World) :
    Calls Try.prog 38 #[.string a, .string b] w fun e w' => e = .returned (.int .i64 (strC a.data.toList b.data.toList)) ∧ w' = w := by
  have h1 : Op.bytesLess a.toList b.toList = decide (strC a.data.toList b.data.toList = -1) := by rw [Lib.toList_data, Lib.toList_data]; exact strC_less _ _
  have h2 : (a.toList == b.toList) = decide (strC a.data.toList b.data.toList = 0) := by
    rw [Lib.toList_data, Lib.toList_data, Bool.eq_iff_iff]; simp only [beq_iff_eq, decide_eq_true_eq]; exact (strC_isCmp.zero _ _).symm
  have l1 := strC_isCmp.lo a.data.toList b.data.toList
  have l2 := strC_isCmp.hi a.data.toList b.data.toList
  generalize strC a.data.toList b.data.toList = c at *
  rcases (show c = -1 ∨ c = 0 ∨ c = 1 by omega) with rfl | rfl | rfl
  · have g1 : Op.bytesLess a.toList b.toList = true := by rw [h1]; rfl
    clear h1 h2 l1 l2
    go_enter Try.func38, Try.ntmps38
    go_wp2_with (go_at_call 45; refine (isNaN_any _ _).mono ?_; rintro e w' ⟨rfl, rfl⟩)
    go_ret
    exact ⟨rfl, rfl⟩
  · have g1 : Op.bytesLess a.toList b.toList = false := by rw [h1]; rfl
    have g2 : (a.toList == b.toList) = true := by rw [h2]; rfl
    clear h1 h2 l1 l2
    go_enter Try.func38, Try.ntmps38
    go_wp2_with (go_at_call 45; refine (isNaN_any _ _).mono ?_; rintro e w' ⟨rfl, rfl⟩)
    go_ret
    exact ⟨rfl, rfl⟩
  · have g1 : Op.bytesLess a.toList b.toList = false := by rw [h1]; rfl
    have g2 : (a.toList == b.toList) = false := by rw [h2]; rfl
    clear h1 h2 l1 l2
    go_enter Try.func38, Try.ntmps38
    go_wp2_with (go_at_call 45; refine (isNaN_any _ _).mono ?_; rintro e w' ⟨rfl, rfl⟩)
    go_ret
    exact ⟨rfl, rfl⟩

set_option maxHeartbeats 1000000 in
theorem cmpTexts_some (b1 o1 c1 b2 o2 c2 : Nat) (ps qs : List (List UInt8)) (w : World) (hl1 : ps.length ≤ c1) (hm1 : c1 ≤ maxLen)
    (hc1 : ∀ k p, ps[k]? = some p → w.cell? ⟨b1, o1 + k, none⟩ = some (.string ⟨p.toArray⟩)) (hc2 : ∀ k p, qs[k]? = some p → w.cell? ⟨b2, o2 + k, none⟩ = some (.string ⟨p.toArray⟩)) :
    Calls Try.prog 30 #[.slice (some ⟨b1, o1, none⟩) ps.length c1, .slice (some ⟨b2, o2, none⟩) qs.length c2] w fun e w' => e = .returned (.int .i64 (textsC ps qs)) ∧ w' = w := by
  have H1 : Hid _ := hc1
  have H2 : Hid _ := hc2
  unfold maxLen at hm1
  clear hc1 hc2
  go_enter Try.func30, Try.ntmps30
  go_wp2
  go_loop [11] (fun i => ∃ k : Nat, k ≤ ps.length ∧ k ≤ qs.length ∧ i = .int .i64 k ∧ Hid (textsC ps qs = textsC (ps.drop k) (qs.drop k))) (fun i => ps.length - (intOf i).toNat)
  case atStart => exact ⟨0, Nat.zero_le _, Nat.zero_le _, rfl, by simp [Hid]⟩
  case round =>
    obtain ⟨k, hk1, hk2, rfl, hr⟩ := hrel
    by_cases h1 : k < ps.length
    · by_cases h2 : k < qs.length
      · obtain ⟨p, hp⟩ : ∃ p, ps[k]? = some p := ⟨_, List.getElem?_eq_getElem h1⟩
        obtain ⟨q, hq⟩ : ∃ q, qs[k]? = some q := ⟨_, List.getElem?_eq_getElem h2⟩
        have g1 := H1.out k p hp
        have g2 := H2.out k q hq
        have HS : Hid _ := textsC_step ps qs k p q hp hq
        have HC : Hid (∀ w, Calls Try.prog 38 #[.string ⟨p.toArray⟩, .string ⟨q.toArray⟩] w fun e w' => e = .returned (.int .i64 (strC p q)) ∧ w' = w) := fun w => cmpText_any ⟨p.toArray⟩ ⟨q.toArray⟩ w
        clear hp hq H1 H2
        generalize strC p q = c at *
        by_cases hc : c = 0
        · subst hc
          go_wp2_with (go_at_call 38; refine (HC.out _).mono ?_; rintro e w' ⟨rfl, rfl⟩)
          go_round
          case rel => exact ⟨k + 1, by omega, by omega, by go_num, by rw [Hid, hr.out, HS.out]; rfl⟩
          case measure => simp [intOf]; omega
        · have hcb : (c == 0) = false := by simpa using hc
          have HS2 : Hid (textsC ps qs = c) := by rw [Hid, hr.out, HS.out, if_neg hc]
          clear HS hr hc
          go_wp2_with (go_at_call 38; refine (HC.out _).mono ?_; rintro e w' ⟨rfl, rfl⟩)
          go_ret
          exact ⟨ret_int HS2.out.symm, rfl⟩
      · have HS : Hid _ := textsC_long ps qs k h1 (by omega)
        obtain ⟨p, hp⟩ : ∃ p, ps[k]? = some p := ⟨_, List.getElem?_eq_getElem h1⟩
        have g1 := H1.out k p hp
        clear hp H1 H2
        go_wp2
        go_ret
        exact ⟨ret_int (by rw [hr.out, HS.out]), rfl⟩
    · by_cases h2 : k < qs.length
      · have HS : Hid _ := textsC_short ps qs k (by omega) h2
        clear H1 H2
        have hlt : ps.length < qs.length := by omega
        go_wp2
        go_ret
        exact ⟨ret_int (by rw [hr.out, HS.out]), rfl⟩
      · have HS : Hid _ := textsC_end ps qs k (by omega) (by omega)
        have hlt : ¬ ps.length < qs.length := by omega
        clear H1 H2
        go_wp2
        go_ret
        exact ⟨ret_int (by rw [hr.out, HS.out]), rfl⟩

theorem cmpTexts_any (v1 v2 : Value) (ps qs : List (List UInt8)) (w : World) (h1 : IsStrs w v1 ps) (h2 : IsStrs w v2 qs) (n1 : ps ≠ []) (n2 : qs ≠ []) :
    Calls Try.prog 30 #[v1, v2] w fun e w' => e = .returned (.int .i64 (textsC ps qs)) ∧ w' = w := by
  obtain ⟨ao, c1, rfl, k1, m1, x1⟩ := h1
  obtain ⟨bo, c2, rfl, _, _, x2⟩ := h2
  obtain ⟨b1, o1, rfl, _, y1⟩ := x1 n1
  obtain ⟨b2, o2, rfl, _, y2⟩ := x2 n2
  exact cmpTexts_some b1 o1 c1 b2 o2 c2 ps qs w k1 m1 y1 y2

set_option maxHeartbeats 400000 in
/-- names.Compare -/
theorem compare_any (a b : ByteArray) (ha : a.size ≤ 1099511627776) (hb : b.size ≤ 1099511627776) (w : World) :
    Calls Try.prog 20 #[.string a, .string b] w fun e w' => e = .returned (.int .i64 (nameC a.data.toList b.data.toList)) ∧ Below w.heap.size w w' := by
  have HA : Hid (∀ w, _) := parts_any a ha
  have HB : Hid (∀ w, _) := parts_any b hb
  have HC : Hid (∀ v1 v2 w, IsStrs w v1 (partsL a.data.toList) → IsStrs w v2 (partsL b.data.toList) → Calls Try.prog 30 #[v1, v2] w fun e w' => e = .returned (.int .i64 (nameC a.data.toList b.data.toList)) ∧ w' = w) :=
    fun v1 v2 w h1 h2 => cmpTexts_any v1 v2 _ _ w h1 h2 (partsL_ne _) (partsL_ne _)
  go_enter Try.func20, Try.ntmps20
  go_wp2_with fail
  refine (HA.out _).mono ?_
  rintro e w1 ⟨v1, rfl, hown1, hb1⟩
  go_wp2_with fail
  refine (HB.out _).mono ?_
  rintro e w2 ⟨v2, rfl, hown2, hb2⟩
  go_wp2_with fail
  refine (HC.out _ _ _ ((own_strs hown1).keep hb2) (own_strs hown2)).mono ?_
  rintro e w3 ⟨rfl, rfl⟩
  go_wp2
  go_ret
  exact ⟨rfl, hb1.trans (hb2.mono hb1.size)⟩

end Go.Proofs.Ytiinjaiigofbjaa
