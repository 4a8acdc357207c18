/- Walks of package types' ParseRef and RefText: each returns what the plain functions say; what was there before stays. -/
import Derived.Test.YtaljppicmookeaaOwnParse
namespace Go.Proofs.Ytaljppicmookeaa
open Go.RowKit

set_option maxHeartbeats 1000000 in
theorem parseRef_any (s : ByteArray) (hs : s.size ≤ maxLen) (w : World) :
    Calls Try.prog 12 #[.string s] w fun e w' => e = .returned (.tuple #[.agg #[.int .i64 (prfT s.data.toList).1, .string ⟨(prfT s.data.toList).2.toArray⟩], .int .i64 (prfE s.data.toList)]) ∧ Below w.heap.size w w' := by
  have hlen : s.data.toList.length = s.size := by simp
  have HP : Hid (∀ w, _) := parse_any s hs
  have HV : Hid (∀ w, _) := valid_any s hs
  have HH : Hid (∀ w, _) := hasPrefix_any s 91
  have hE : prfE s.data.toList = if s.data.toList.head? = some 91 then parE s.data.toList else if 2000 < s.data.toList.length then 5 else if validL s.data.toList then 0 else 4 := by
    unfold prfE
    by_cases h1 : s.data.toList.head? = some 91
    · by_cases h2 : 2000 < s.data.toList.length
      · rw [if_pos h2, if_pos h1, parE, if_pos h2]
      · rw [if_neg h2, if_pos h1, if_pos h1]
    · rw [if_neg h1, if_neg h1]
  have hT : prfT s.data.toList = if s.data.toList.head? = some 91 then parT s.data.toList else if 2000 < s.data.toList.length then (0, []) else if validL s.data.toList then (0, s.data.toList) else (0, []) := by
    unfold prfT
    by_cases h1 : s.data.toList.head? = some 91
    · by_cases h2 : 2000 < s.data.toList.length
      · rw [if_pos h2, if_pos h1, parT, parE, if_pos h2]; rfl
      · rw [if_neg h2, if_pos h1, if_pos h1]
    · rw [if_neg h1, if_neg h1]
  unfold maxLen at hs
  by_cases hh : s.data.toList.head? = some 91
  · have h0 : hd s 91 = true := by simp [hd, hh]
    rw [h0] at HH
    have HE : Hid (prfE s.data.toList = parE s.data.toList) := by rw [Hid, hE, if_pos hh]
    have HT : Hid (prfT s.data.toList = parT s.data.toList) := by rw [Hid, hT, if_pos hh]
    clear hlen HV hh hE hT h0
    generalize prfE s.data.toList = x at *
    generalize prfT s.data.toList = t at *
    generalize parE s.data.toList = pe at *
    generalize parT s.data.toList = pt at *
    go_enter Try.func12, Try.ntmps12
    go_wp2_with (first
      | (go_at_call 39; refine ((HH.out) _).mono ?_; rintro e w0 ⟨rfl, rfl⟩)
      | (go_at_call 9; refine ((HP.out) _).mono ?_; rintro e w1 ⟨rfl, hb1⟩; have hr0 := hb1.cell (p := ⟨w.heap.size, 0, none⟩) (by simp); have hr1 := hb1.cell (p := ⟨w.heap.size, 1, none⟩) (by simp); have hf0 := hb1.frozen (p := ⟨w.heap.size, 0, none⟩) (by simp); have hf1 := hb1.frozen (p := ⟨w.heap.size, 1, none⟩) (by simp)))
    refine bodyPost_ret (v := .tuple #[.agg #[.int .i64 pt.1, .string ⟨pt.2.toArray⟩], .int .i64 pe]) (by simp [results, Try.results12, go_sem, *]) rfl ⟨?_, ?_⟩
    · rw [HT.out, HE.out]
    · have hb9 : Below w.heap.size w w1 := Below.step ((Below.refl _ _).alloc (Nat.le_refl _) _) hb1
      exact (hb9.setCell (Nat.le_refl _) _).setCell (Nat.le_refl _) _
  · have h0 : hd s 91 = false := by simp [hd, hh]
    rw [h0] at HH
    by_cases hbig : 2000 < s.size
    · have HE : Hid (prfE s.data.toList = 5) := by rw [Hid, hE, if_neg hh, if_pos (by rw [hlen]; exact hbig)]
      have HT : Hid (prfT s.data.toList = (0, [])) := by rw [Hid, hT, if_neg hh, if_pos (by rw [hlen]; exact hbig)]
      clear hlen HV hh hE hT h0 HP
      generalize prfE s.data.toList = x at *
      generalize prfT s.data.toList = t at *
      go_enter Try.func12, Try.ntmps12
      go_wp2_with (go_at_call 39; refine ((HH.out) _).mono ?_; rintro e w0 ⟨rfl, rfl⟩)
      refine bodyPost_ret (v := .tuple #[.agg #[.int .i64 0, .string ⟨#[]⟩], .int .i64 5]) (by simp [results, Try.results12, go_sem, *]) rfl ⟨?_, ?_⟩
      · rw [HT.out, HE.out]; rfl
      · exact (Below.refl _ _).alloc (Nat.le_refl _) _
    · have hng : ¬ 2000 < s.data.toList.length := by rw [hlen]; exact hbig
      cases hv : validL s.data.toList with
      | true =>
        have HE : Hid (prfE s.data.toList = 0) := by rw [Hid, hE, if_neg hh, if_neg hng, hv]; rfl
        have HT : Hid (prfT s.data.toList = (0, s.data.toList)) := by rw [Hid, hT, if_neg hh, if_neg hng, hv]; rfl
        rw [hv] at HV
        clear hlen HP hh hng hv hE hT h0
        generalize prfE s.data.toList = x at *
        generalize prfT s.data.toList = t at *
        go_enter Try.func12, Try.ntmps12
        go_wp2_with (first
          | (go_at_call 39; refine ((HH.out) _).mono ?_; rintro e w0 ⟨rfl, rfl⟩)
          | (go_at_call 40; refine ((HV.out) _).mono ?_; rintro e w1 ⟨rfl, hb1⟩; have hr0 := hb1.cell (p := ⟨w.heap.size, 0, none⟩) (by simp); have hr1 := hb1.cell (p := ⟨w.heap.size, 1, none⟩) (by simp); have hf0 := hb1.frozen (p := ⟨w.heap.size, 0, none⟩) (by simp); have hf1 := hb1.frozen (p := ⟨w.heap.size, 1, none⟩) (by simp)))
        refine bodyPost_ret (v := .tuple #[.agg #[.int .i64 0, .string s], .int .i64 0]) (by simp [results, Try.results12, go_sem, *]) rfl ⟨?_, ?_⟩
        · rw [HT.out, HE.out]; rfl
        · have hb9 : Below w.heap.size w w1 := Below.step ((Below.refl _ _).alloc (Nat.le_refl _) _) hb1
          exact (hb9.setCell (Nat.le_refl _) _).setCell (Nat.le_refl _) _
      | false =>
        have HE : Hid (prfE s.data.toList = 4) := by rw [Hid, hE, if_neg hh, if_neg hng, hv]; rfl
        have HT : Hid (prfT s.data.toList = (0, [])) := by rw [Hid, hT, if_neg hh, if_neg hng, hv]; rfl
        rw [hv] at HV
        clear hlen HP hh hng hv hE hT h0
        generalize prfE s.data.toList = x at *
        generalize prfT s.data.toList = t at *
        go_enter Try.func12, Try.ntmps12
        go_wp2_with (first
          | (go_at_call 39; refine ((HH.out) _).mono ?_; rintro e w0 ⟨rfl, rfl⟩)
          | (go_at_call 40; refine ((HV.out) _).mono ?_; rintro e w1 ⟨rfl, hb1⟩; have hr0 := hb1.cell (p := ⟨w.heap.size, 0, none⟩) (by simp); have hr1 := hb1.cell (p := ⟨w.heap.size, 1, none⟩) (by simp); have hf0 := hb1.frozen (p := ⟨w.heap.size, 0, none⟩) (by simp); have hf1 := hb1.frozen (p := ⟨w.heap.size, 1, none⟩) (by simp)))
        refine bodyPost_ret (v := .tuple #[.agg #[.int .i64 0, .string ⟨#[]⟩], .int .i64 4]) (by simp [results, Try.results12, go_sem, *]) rfl ⟨?_, ?_⟩
        · rw [HT.out, HE.out]; rfl
        · have hb9 : Below w.heap.size w w1 := Below.step ((Below.refl _ _).alloc (Nat.le_refl _) _) hb1
          exact (hb9.setCell (Nat.le_refl _) _).setCell (Nat.le_refl _) _

set_option maxHeartbeats 1000000 in
theorem refText_any (d : Int) (s : ByteArray) (hs : s.size ≤ maxLen) (w : World) :
    Calls Try.prog 23 #[.agg #[.int .i64 d, .string s]] w fun e w' => e = .returned (.tuple #[.string ⟨(refS d s.data.toList).toArray⟩, .int .i64 (refE d s.data.toList)]) ∧ Below w.heap.size w w' := by
  have HC : Hid (∀ w, _) := check_any d s hs
  cases hv : sndB d s.data.toList with
  | false =>
    rw [hv] at HC
    have h1 : chkI false = 1 := rfl
    rw [h1] at HC
    have HE : Hid (refE d s.data.toList = 1) := by rw [Hid, refE, hv]; rfl
    have HT : Hid (refS d s.data.toList = []) := by rw [Hid, refS, HE.out]; rfl
    clear hv h1
    generalize refE d s.data.toList = x at *
    generalize refS d s.data.toList = t at *
    go_enter Try.func23, Try.ntmps23
    go_wp2_with (first
      | (go_at_call 21; refine ((HC.out) _).mono ?_; rintro e w1 ⟨rfl, hb1⟩; have hc0 := hb1.cell (p := ⟨w.heap.size, 0, none⟩) (by simp); have hc1 := hb1.cell (p := ⟨w.heap.size, 1, none⟩) (by simp)))
    go_ret2
    exact ⟨by rw [HT.out, HE.out]; rfl, Below.step ((Below.refl _ _).alloc (Nat.le_refl _) _) hb1⟩
  | true =>
    obtain ⟨k, rfl, hk⟩ := snd_nat hv
    have hl := snd_len hv
    have hz : s.data.toList.length = s.size := by simp
    have HW : Hid (∀ w, _) := write_any k hk s (by omega)
    rw [hv] at HC
    have h1 : chkI true = 0 := rfl
    rw [h1] at HC
    clear h1 hl hz
    by_cases h2 : k = 0
    · subst h2
      cases he : s.toList.isEmpty with
      | true =>
        have hnil : s.data.toList = [] := by rw [← Lib.toList_data]; exact List.isEmpty_iff.1 he
        have HE : Hid (refE ((0 : Nat) : Int) s.data.toList = 2) := by rw [Hid, refE, hv, if_pos rfl, if_pos ⟨rfl, hnil⟩]
        have HT : Hid (refS ((0 : Nat) : Int) s.data.toList = []) := by rw [Hid, refS, HE.out]; rfl
        clear hv hnil HW
        generalize refE ((0 : Nat) : Int) s.data.toList = x at *
        generalize refS ((0 : Nat) : Int) s.data.toList = t at *
        go_enter Try.func23, Try.ntmps23
        go_wp2_with (first
          | (go_at_call 21; refine ((HC.out) _).mono ?_; rintro e w1 ⟨rfl, hb1⟩; have hc0 := hb1.cell (p := ⟨w.heap.size, 0, none⟩) (by simp); have hc1 := hb1.cell (p := ⟨w.heap.size, 1, none⟩) (by simp)))
        go_ret2
        exact ⟨by rw [HT.out, HE.out]; rfl, Below.step ((Below.refl _ _).alloc (Nat.le_refl _) _) hb1⟩
      | false =>
        have hnil : s.data.toList ≠ [] := by rw [← Lib.toList_data]; exact fun z => by rw [z] at he; simp at he
        have HE : Hid (refE ((0 : Nat) : Int) s.data.toList = 0) := by rw [Hid, refE, hv, if_pos rfl, if_neg (fun z => hnil z.2)]
        have HT : Hid (refS ((0 : Nat) : Int) s.data.toList = s.data.toList) := by rw [Hid, refS, HE.out]; rfl
        clear hv hnil HW
        generalize refE ((0 : Nat) : Int) s.data.toList = x at *
        generalize refS ((0 : Nat) : Int) s.data.toList = t at *
        go_enter Try.func23, Try.ntmps23
        go_wp2_with (first
          | (go_at_call 21; refine ((HC.out) _).mono ?_; rintro e w1 ⟨rfl, hb1⟩; have hc0 := hb1.cell (p := ⟨w.heap.size, 0, none⟩) (by simp); have hc1 := hb1.cell (p := ⟨w.heap.size, 1, none⟩) (by simp)))
        go_ret2
        exact ⟨by rw [HT.out, HE.out]; rfl, Below.step ((Below.refl _ _).alloc (Nat.le_refl _) _) hb1⟩
    · have hk0 : (k : Int) ≠ 0 := by omega
      have hkp : 0 < (k : Int) := by omega
      have HE : Hid (refE k s.data.toList = 0) := by rw [Hid, refE, hv, if_pos rfl, if_neg (fun z => hk0 z.1)]
      have HT : Hid (refS k s.data.toList = writeT (k, s.data.toList)) := by rw [Hid, refS, HE.out, if_pos rfl, if_neg hk0]; rfl
      clear hv
      generalize refE k s.data.toList = x at *
      generalize refS k s.data.toList = t at *
      go_enter Try.func23, Try.ntmps23
      go_wp2_with (first
        | (go_at_call 21; refine ((HC.out) _).mono ?_; rintro e w1 ⟨rfl, hb1⟩; have hc0 := hb1.cell (p := ⟨w.heap.size, 0, none⟩) (by simp); have hc1 := hb1.cell (p := ⟨w.heap.size, 1, none⟩) (by simp))
        | (go_at_call 44; refine ((HW.out) _).mono ?_; rintro e w2 ⟨rfl, hb2⟩))
      go_ret2
      have hb9 : Below w.heap.size w w1 := Below.step ((Below.refl _ _).alloc (Nat.le_refl _) _) hb1
      exact ⟨by rw [HT.out, HE.out]; rfl, Below.step hb9 (by assumption)⟩

end Go.Proofs.Ytaljppicmookeaa
