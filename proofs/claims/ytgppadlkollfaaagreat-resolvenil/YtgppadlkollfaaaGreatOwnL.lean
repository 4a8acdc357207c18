/- The walk of package code's CheckAll: it returns what the document's answer says; what was there before stays. -/
import Derived.Test.YtgppadlkollfaaaGreatCodeL
import Derived.Test.YtgppadlkollfaaaGreatDescA
import Derived.Deep.QuietTactic
import Derived.BigQuiet
namespace Go.Proofs.YtgppadlkollfaaaGreat
open Go.RowKit



set_option maxRecDepth 100000 in
set_option maxHeartbeats 1000000 in
theorem parseRef_any (s : ByteArray) (hs : s.size ≤ maxLen) (w : World) :
    Calls Tryz.prog 116 #[.string s] w fun e w' => e = .returned (.tuple #[.agg #[.int .i64 (prfT s.data.toList).1, .string ⟨(prfT s.data.toList).2.toArray⟩], .int .i64 (prfE s.data.toList)]) ∧ Below w.heap.size w w' := by
  have hlen : s.data.toList.length = s.size := by simp
  have HP : Hid (∀ w, _) := parse_any s hs
  have HV : Hid (∀ w, _) := valid_any s hs
  have HH : Hid (∀ w, _) := hasPrefix_any s 91
  have hE : prfE s.data.toList = if s.data.toList.head? = some 91 then parE s.data.toList else if 2000 < s.data.toList.length then 5 else if validL s.data.toList then 0 else 4 := by
    unfold prfE
    by_cases h1 : s.data.toList.head? = some 91
    · by_cases h2 : 2000 < s.data.toList.length
      · rw [if_pos h2, if_pos h1, parE, if_pos h2]
      · rw [if_neg h2, if_pos h1, if_pos h1]
    · rw [if_neg h1, if_neg h1]
  have hT : prfT s.data.toList = if s.data.toList.head? = some 91 then parT s.data.toList else if 2000 < s.data.toList.length then (0, []) else if validL s.data.toList then (0, s.data.toList) else (0, []) := by
    unfold prfT
    by_cases h1 : s.data.toList.head? = some 91
    · by_cases h2 : 2000 < s.data.toList.length
      · rw [if_pos h2, if_pos h1, parT, parE, if_pos h2]; rfl
      · rw [if_neg h2, if_pos h1, if_pos h1]
    · rw [if_neg h1, if_neg h1]
  unfold maxLen at hs
  by_cases hh : s.data.toList.head? = some 91
  · have h0 : hd s 91 = true := by simp [hd, hh]
    rw [h0] at HH
    have HE : Hid (prfE s.data.toList = parE s.data.toList) := by rw [Hid, hE, if_pos hh]
    have HT : Hid (prfT s.data.toList = parT s.data.toList) := by rw [Hid, hT, if_pos hh]
    clear hlen HV hh hE hT h0
    generalize prfE s.data.toList = x at *
    generalize prfT s.data.toList = t at *
    generalize parE s.data.toList = pe at *
    generalize parT s.data.toList = pt at *
    go_enter Tryz.func116, Tryz.ntmps116
    go_wp2_with (first
      | (go_at_call 178; refine ((HH.out) _).mono ?_; rintro e w0 ⟨rfl, rfl⟩)
      | (go_at_call 179; refine ((HP.out) _).mono ?_; rintro e w1 ⟨rfl, hb1⟩; have hr0 := hb1.cell (p := ⟨w.heap.size, 0, none⟩) (by simp); have hr1 := hb1.cell (p := ⟨w.heap.size, 1, none⟩) (by simp); have hf0 := hb1.frozen (p := ⟨w.heap.size, 0, none⟩) (by simp); have hf1 := hb1.frozen (p := ⟨w.heap.size, 1, none⟩) (by simp)))
    refine bodyPost_ret (v := .tuple #[.agg #[.int .i64 pt.1, .string ⟨pt.2.toArray⟩], .int .i64 pe]) (by simp [results, Tryz.results116, go_sem, *]) rfl ⟨?_, ?_⟩
    · rw [HT.out, HE.out]
    · have hb9 : Below w.heap.size w w1 := Below.step ((Below.refl _ _).alloc (Nat.le_refl _) _) hb1
      exact (hb9.setCell (Nat.le_refl _) _).setCell (Nat.le_refl _) _
  · have h0 : hd s 91 = false := by simp [hd, hh]
    rw [h0] at HH
    by_cases hbig : 2000 < s.size
    · have HE : Hid (prfE s.data.toList = 5) := by rw [Hid, hE, if_neg hh, if_pos (by rw [hlen]; exact hbig)]
      have HT : Hid (prfT s.data.toList = (0, [])) := by rw [Hid, hT, if_neg hh, if_pos (by rw [hlen]; exact hbig)]
      clear hlen HV hh hE hT h0 HP
      generalize prfE s.data.toList = x at *
      generalize prfT s.data.toList = t at *
      go_enter Tryz.func116, Tryz.ntmps116
      go_wp2_with (go_at_call 178; refine ((HH.out) _).mono ?_; rintro e w0 ⟨rfl, rfl⟩)
      refine bodyPost_ret (v := .tuple #[.agg #[.int .i64 0, .string ⟨#[]⟩], .int .i64 5]) (by simp [results, Tryz.results116, go_sem, *]) rfl ⟨?_, ?_⟩
      · rw [HT.out, HE.out]; rfl
      · exact (Below.refl _ _).alloc (Nat.le_refl _) _
    · have hng : ¬ 2000 < s.data.toList.length := by rw [hlen]; exact hbig
      cases hv : validL s.data.toList with
      | true =>
        have HE : Hid (prfE s.data.toList = 0) := by rw [Hid, hE, if_neg hh, if_neg hng, hv]; rfl
        have HT : Hid (prfT s.data.toList = (0, s.data.toList)) := by rw [Hid, hT, if_neg hh, if_neg hng, hv]; rfl
        rw [hv] at HV
        clear hlen HP hh hng hv hE hT h0
        generalize prfE s.data.toList = x at *
        generalize prfT s.data.toList = t at *
        go_enter Tryz.func116, Tryz.ntmps116
        go_wp2_with (first
          | (go_at_call 178; refine ((HH.out) _).mono ?_; rintro e w0 ⟨rfl, rfl⟩)
          | (go_at_call 147; refine ((HV.out) _).mono ?_; rintro e w1 ⟨rfl, hb1⟩; have hr0 := hb1.cell (p := ⟨w.heap.size, 0, none⟩) (by simp); have hr1 := hb1.cell (p := ⟨w.heap.size, 1, none⟩) (by simp); have hf0 := hb1.frozen (p := ⟨w.heap.size, 0, none⟩) (by simp); have hf1 := hb1.frozen (p := ⟨w.heap.size, 1, none⟩) (by simp)))
        refine bodyPost_ret (v := .tuple #[.agg #[.int .i64 0, .string s], .int .i64 0]) (by simp [results, Tryz.results116, go_sem, *]) rfl ⟨?_, ?_⟩
        · rw [HT.out, HE.out]; rfl
        · have hb9 : Below w.heap.size w w1 := Below.step ((Below.refl _ _).alloc (Nat.le_refl _) _) hb1
          exact (hb9.setCell (Nat.le_refl _) _).setCell (Nat.le_refl _) _
      | false =>
        have HE : Hid (prfE s.data.toList = 4) := by rw [Hid, hE, if_neg hh, if_neg hng, hv]; rfl
        have HT : Hid (prfT s.data.toList = (0, [])) := by rw [Hid, hT, if_neg hh, if_neg hng, hv]; rfl
        rw [hv] at HV
        clear hlen HP hh hng hv hE hT h0
        generalize prfE s.data.toList = x at *
        generalize prfT s.data.toList = t at *
        go_enter Tryz.func116, Tryz.ntmps116
        go_wp2_with (first
          | (go_at_call 178; refine ((HH.out) _).mono ?_; rintro e w0 ⟨rfl, rfl⟩)
          | (go_at_call 147; refine ((HV.out) _).mono ?_; rintro e w1 ⟨rfl, hb1⟩; have hr0 := hb1.cell (p := ⟨w.heap.size, 0, none⟩) (by simp); have hr1 := hb1.cell (p := ⟨w.heap.size, 1, none⟩) (by simp); have hf0 := hb1.frozen (p := ⟨w.heap.size, 0, none⟩) (by simp); have hf1 := hb1.frozen (p := ⟨w.heap.size, 1, none⟩) (by simp)))
        refine bodyPost_ret (v := .tuple #[.agg #[.int .i64 0, .string ⟨#[]⟩], .int .i64 4]) (by simp [results, Tryz.results116, go_sem, *]) rfl ⟨?_, ?_⟩
        · rw [HT.out, HE.out]; rfl
        · have hb9 : Below w.heap.size w w1 := Below.step ((Below.refl _ _).alloc (Nat.le_refl _) _) hb1
          exact (hb9.setCell (Nat.le_refl _) _).setCell (Nat.le_refl _) _



set_option maxRecDepth 100000 in
set_option maxHeartbeats 2000000 in
theorem refCheck_any (b : Bool) (c n d : ByteArray) (hc : c.size ≤ maxLen) (hn : n.size ≤ maxLen) (hd : d.size ≤ maxLen) (w : World) : Calls Tryz.prog 111 #[.agg #[.bool b, .string c, .string n, .string d]] w fun e w' => e = .returned (.int .i64 (rckE c.data.toList n.data.toList d.data.toList)) ∧ Below w.heap.size w w' := by
  have HP : Hid (∀ w, _) := parseRef_any c hc
  have HM : Hid (∀ w, _) := member_any n hn
  have HD : Hid (∀ w, _) := parseDesc_any d hd
  have HR : Hid (rckE c.data.toList n.data.toList d.data.toList = if ((prfE c.data.toList == 0) && memberL n.data.toList && (pdE d.data.toList == 0)) then 0 else 1) := rfl
  clear hc hn hd
  unfold DOut at HD
  generalize rckE c.data.toList n.data.toList d.data.toList = z at *
  generalize prfE c.data.toList = pc at *
  generalize prfT c.data.toList = pt at *
  generalize memberL n.data.toList = mm at *
  generalize pdE d.data.toList = pd at *
  generalize pdD d.data.toList = dd at *
  obtain ⟨qc, hqc⟩ : ∃ q, (pc == 0) = q := ⟨_, rfl⟩
  obtain ⟨qd, hqd⟩ : ∃ q, (pd == 0) = q := ⟨_, rfl⟩
  have hqc2 : (pc != 0) = !qc := by rw [bne, hqc]
  have hqd2 : (pd != 0) = !qd := by rw [bne, hqd]
  rw [hqc, hqd] at HR
  cases qc <;> cases mm <;> cases qd
  all_goals go_enter Tryz.func111, Tryz.ntmps111
  all_goals go_wp2_with (first
    | (go_at_call 116; refine ((HP.out) _).mono ?_; rintro e w1 ⟨rfl, hb1⟩; have hs1 : w.heap.size < w1.heap.size := (by have := hb1.size; simp at this; omega); have hB1 : Hid (Below w.heap.size w w1) := Below.step ((Below.refl _ _).alloc (Nat.le_refl _) _) hb1; have hc12 : w1.cell? ⟨w.heap.size, 2, none⟩ = some (.string n) := (hb1.cell (p := ⟨w.heap.size, 2, none⟩) (by first | (simp [*]; done) | (simp; omega))).trans (by simp [go_sem, *]); have hc13 : w1.cell? ⟨w.heap.size, 3, none⟩ = some (.string d) := (hb1.cell (p := ⟨w.heap.size, 3, none⟩) (by first | (simp [*]; done) | (simp; omega))).trans (by simp [go_sem, *]); clear hb1 HP)
    | (go_at_call 174; refine ((HD.out) _).mono ?_; rintro e w2 ⟨v, rfl, ho2, hb2⟩; obtain ⟨v1, v2, rfl⟩ := own_slice ho2; clear ho2 HD; have hs2 : w.heap.size < w2.heap.size := (by have := hb2.size; simp at this; omega); have hB2 : Hid (Below w.heap.size w w2) := Below.step (hB1.out.alloc hB1.out.size _) hb2; have hc22 : w2.cell? ⟨w.heap.size, 2, none⟩ = some (.string n) := (hb2.cell (p := ⟨w.heap.size, 2, none⟩) (by first | (simp [*]; done) | (simp; omega))).trans (by simp [go_sem, *]); clear hb2)
    | (go_at_call 175; refine ((HM.out) _).mono ?_; rintro e w3 ⟨rfl, hw3⟩; rw [hw3]; clear hw3 HM))
  all_goals
    go_ret
    exact ⟨ret_int (by rw [HR.out]; rfl), hB2.out.alloc hB2.out.size _⟩







end Go.Proofs.YtgppadlkollfaaaGreat
