/- Walks of arbiterref02's Parse and ParseRef: the type that a text writes, or the error; what was there before stays. -/
import Derived.Test.YtfbhjfpkhofifaaGreatDoorOwn
namespace Go.Proofs.YtfbhjfpkhofifaaGreatDoor
open Go.RowKit

/-- the error of Parse, and the type beside it -/
def parE (l : List UInt8) : Int := if 2000 < l.length then 5 else match readT l with
  | some (t, []) => if 255 < t.1 then 5 else 0
  | _ => 4
def parT (l : List UInt8) : Nat × List UInt8 := if parE l = 0 then (match readT l with
  | some (t, _) => t
  | none => (0, [])) else (0, [])

set_option maxRecDepth 100000 in
set_option maxHeartbeats 1000000 in
theorem rParse_any (s : ByteArray) (hs : s.size ≤ maxLen) (w : World) :
    Calls Tryz.prog 121 #[.string s] w fun e w' => e = .returned (.tuple #[.agg #[.int .i64 (parT s.data.toList).1, .string ⟨(parT s.data.toList).2.toArray⟩], .int .i64 (parE s.data.toList)]) ∧ Below w.heap.size w w' := by
  have hlen : s.data.toList.length = s.size := by simp
  unfold maxLen at hs
  by_cases hbig : 2000 < s.size
  · have HE : Hid (parE s.data.toList = 5) := by rw [Hid, parE, if_pos (by rw [hlen]; exact hbig)]
    have HT : Hid (parT s.data.toList = (0, [])) := by rw [Hid, parT, HE.out]; rfl
    clear hlen
    generalize parE s.data.toList = x at *
    generalize parT s.data.toList = t at *
    go_enter Tryz.func121, Tryz.ntmps121
    go_wp2
    refine bodyPost_ret (v := .tuple #[.agg #[.int .i64 0, .string ⟨#[]⟩], .int .i64 5]) (by simp [results, Tryz.results121, go_sem, *]) rfl ⟨?_, ?_⟩
    · rw [HT.out, HE.out]; rfl
    · exact (Below.refl _ _).alloc (Nat.le_refl _) _
  · have HR := read_any s (by omega) 0 (Nat.zero_le _)
    have hE : parE s.data.toList = match readT s.data.toList with
      | some (t, []) => if 255 < t.1 then 5 else 0
      | _ => 4 := by rw [parE, if_neg (by rw [hlen]; exact hbig)]
    unfold ReadPost at HR
    rw [List.drop_zero] at HR
    cases hr : readT s.data.toList with
    | none =>
      rw [hr] at hE HR
      have HE : Hid (parE s.data.toList = 4) := hE
      have HT : Hid (parT s.data.toList = (0, [])) := by rw [Hid, parT, HE.out]; rfl
      have HQ : Hid (∀ w, Calls Tryz.prog 107 #[.string s, .int .i64 0] w fun e w' => (∃ x y, e = .returned (.tuple #[.agg #[.int .i64 x, .string y], .int .i64 (-1)])) ∧ Below w.heap.size w w') := HR
      clear hE HR hr hlen
      generalize parE s.data.toList = x at *
      generalize parT s.data.toList = t at *
      have hne : ((-1 : Int) != (s.size : Int)) = true := by rw [bne_iff_ne]; omega
      go_enter Tryz.func121, Tryz.ntmps121
      go_wp2_with (go_at_call 107; refine ((HQ.out) _).mono ?_; rintro e w1 ⟨⟨x1, y1, rfl⟩, hb1⟩; have hr0 := hb1.cell (p := ⟨w.heap.size, 0, none⟩) (by simp); have hr1 := hb1.cell (p := ⟨w.heap.size, 1, none⟩) (by simp); have hf0 := hb1.frozen (p := ⟨w.heap.size, 0, none⟩) (by simp); have hf1 := hb1.frozen (p := ⟨w.heap.size, 1, none⟩) (by simp); have hz : w.heap.size < w1.heap.size := by have := hb1.size; simp at this; omega)
      refine bodyPost_ret (v := .tuple #[.agg #[.int .i64 0, .string ⟨#[]⟩], .int .i64 4]) (by simp [results, Tryz.results121, go_sem, *]) rfl ⟨?_, ?_⟩
      · rw [HT.out, HE.out]; rfl
      · have hb9 : Below w.heap.size w w1 := Below.step ((Below.refl _ _).alloc (Nat.le_refl _) _) hb1
        exact (((hb9.setCell (Nat.le_refl _) _).setCell (Nat.le_refl _) _).alloc (by simp; omega) _)
    | some p =>
      obtain ⟨⟨k, nm⟩, r⟩ := p
      rw [hr] at hE HR
      have HQ : Hid (∀ w, Calls Tryz.prog 107 #[.string s, .int .i64 0] w fun e w' => e = .returned (.tuple #[.agg #[.int .i64 k, .string ⟨nm.toArray⟩], .int .i64 ((s.size : Int) - r.length)]) ∧ Below w.heap.size w w') := HR
      have hrl := readT_less hr
      rw [hlen] at hrl
      cases r with
      | cons c q =>
        have HE : Hid (parE s.data.toList = 4) := hE
        have HT : Hid (parT s.data.toList = (0, [])) := by rw [Hid, parT, HE.out]; rfl
        simp only [List.length_cons] at hrl HQ
        clear hE HR hr hlen
        generalize parE s.data.toList = x at *
        generalize parT s.data.toList = t at *
        obtain ⟨m, hm⟩ : ∃ m : Nat, (s.size : Int) - ((q.length + 1 : Nat) : Int) = m := ⟨s.size - (q.length + 1), by omega⟩
        rw [hm] at HQ
        have hne : ((m : Int) != (s.size : Int)) = true := by rw [bne_iff_ne]; omega
        clear hm hrl
        go_enter Tryz.func121, Tryz.ntmps121
        go_wp2_with (go_at_call 107; refine ((HQ.out) _).mono ?_; rintro e w1 ⟨rfl, hb1⟩; have hr0 := hb1.cell (p := ⟨w.heap.size, 0, none⟩) (by simp); have hr1 := hb1.cell (p := ⟨w.heap.size, 1, none⟩) (by simp); have hf0 := hb1.frozen (p := ⟨w.heap.size, 0, none⟩) (by simp); have hf1 := hb1.frozen (p := ⟨w.heap.size, 1, none⟩) (by simp); have hz : w.heap.size < w1.heap.size := by have := hb1.size; simp at this; omega)
        refine bodyPost_ret (v := .tuple #[.agg #[.int .i64 0, .string ⟨#[]⟩], .int .i64 4]) (by simp [results, Tryz.results121, go_sem, *]) rfl ⟨?_, ?_⟩
        · rw [HT.out, HE.out]; rfl
        · have hb9 : Below w.heap.size w w1 := Below.step ((Below.refl _ _).alloc (Nat.le_refl _) _) hb1
          exact (((hb9.setCell (Nat.le_refl _) _).setCell (Nat.le_refl _) _).alloc (by simp; omega) _)
      | nil =>
        simp only [List.length_nil] at HQ
        have h0 : (s.size : Int) - ((0 : Nat) : Int) = (s.size : Int) := by omega
        rw [h0] at HQ
        by_cases hk : 255 < k
        · have HE : Hid (parE s.data.toList = 5) := by rw [Hid, hE]; simp [hk]
          have HT : Hid (parT s.data.toList = (0, [])) := by rw [Hid, parT, HE.out]; rfl
          clear hE HR hr hlen hrl h0
          generalize parE s.data.toList = x at *
          generalize parT s.data.toList = t at *
          have hki : (255 : Int) < (k : Int) := by omega
          go_enter Tryz.func121, Tryz.ntmps121
          go_wp2_with (go_at_call 107; refine ((HQ.out) _).mono ?_; rintro e w1 ⟨rfl, hb1⟩; have hr0 := hb1.cell (p := ⟨w.heap.size, 0, none⟩) (by simp); have hr1 := hb1.cell (p := ⟨w.heap.size, 1, none⟩) (by simp); have hf0 := hb1.frozen (p := ⟨w.heap.size, 0, none⟩) (by simp); have hf1 := hb1.frozen (p := ⟨w.heap.size, 1, none⟩) (by simp); have hz : w.heap.size < w1.heap.size := by have := hb1.size; simp at this; omega)
          refine bodyPost_ret (v := .tuple #[.agg #[.int .i64 0, .string ⟨#[]⟩], .int .i64 5]) (by simp [results, Tryz.results121, go_sem, *]) rfl ⟨?_, ?_⟩
          · rw [HT.out, HE.out]; rfl
          · have hb9 : Below w.heap.size w w1 := Below.step ((Below.refl _ _).alloc (Nat.le_refl _) _) hb1
            exact (((hb9.setCell (Nat.le_refl _) _).setCell (Nat.le_refl _) _).alloc (by simp; omega) _)
        · have HE : Hid (parE s.data.toList = 0) := by rw [Hid, hE]; simp [hk]
          have HT : Hid (parT s.data.toList = (k, nm)) := by rw [Hid, parT, HE.out, hr]; rfl
          clear hE HR hr hlen hrl h0
          generalize parE s.data.toList = x at *
          generalize parT s.data.toList = t at *
          have hki : ¬ (255 : Int) < (k : Int) := by omega
          go_enter Tryz.func121, Tryz.ntmps121
          go_wp2_with (go_at_call 107; refine ((HQ.out) _).mono ?_; rintro e w1 ⟨rfl, hb1⟩; have hr0 := hb1.cell (p := ⟨w.heap.size, 0, none⟩) (by simp); have hr1 := hb1.cell (p := ⟨w.heap.size, 1, none⟩) (by simp); have hf0 := hb1.frozen (p := ⟨w.heap.size, 0, none⟩) (by simp); have hf1 := hb1.frozen (p := ⟨w.heap.size, 1, none⟩) (by simp); have hz : w.heap.size < w1.heap.size := by have := hb1.size; simp at this; omega)
          refine bodyPost_ret (v := .tuple #[.agg #[.int .i64 k, .string ⟨nm.toArray⟩], .int .i64 0]) (by simp [results, Tryz.results121, go_sem, *]) rfl ⟨?_, ?_⟩
          · rw [HT.out, HE.out]
          · have hb9 : Below w.heap.size w w1 := Below.step ((Below.refl _ _).alloc (Nat.le_refl _) _) hb1
            exact (((hb9.setCell (Nat.le_refl _) _).setCell (Nat.le_refl _) _).alloc (by simp; omega) _)

/-- the error of ParseRef, and the type beside it -/
def prfE (l : List UInt8) : Int := if 2000 < l.length then 5 else if l.head? = some 91 then parE l else if validL l then 0 else 4
def prfT (l : List UInt8) : Nat × List UInt8 := if 2000 < l.length then (0, []) else if l.head? = some 91 then parT l else if validL l then (0, l) else (0, [])

theorem head_at (s : ByteArray) (h : 0 < s.size) : s.data.toList.head? = some s[0] := by
  have := drop_cons s 0 h
  rw [List.drop_zero] at this
  rw [this]; rfl

set_option maxRecDepth 100000 in
set_option maxHeartbeats 1000000 in
theorem rParseRef_any (s : ByteArray) (hs : s.size ≤ maxLen) (w : World) :
    Calls Tryz.prog 120 #[.string s] w fun e w' => e = .returned (.tuple #[.agg #[.int .i64 (prfT s.data.toList).1, .string ⟨(prfT s.data.toList).2.toArray⟩], .int .i64 (prfE s.data.toList)]) ∧ Below w.heap.size w w' := by
  have hlen : s.data.toList.length = s.size := by simp
  have HP : Hid (∀ w, _) := rParse_any s hs
  have HV : Hid (∀ w, _) := rValid_any s hs
  unfold maxLen at hs
  by_cases hbig : 2000 < s.size
  · have HE : Hid (prfE s.data.toList = 5) := by rw [Hid, prfE, if_pos (by rw [hlen]; exact hbig)]
    have HT : Hid (prfT s.data.toList = (0, [])) := by rw [Hid, prfT, if_pos (by rw [hlen]; exact hbig)]
    clear hlen HP HV
    generalize prfE s.data.toList = x at *
    generalize prfT s.data.toList = t at *
    go_enter Tryz.func120, Tryz.ntmps120
    go_wp2
    refine bodyPost_ret (v := .tuple #[.agg #[.int .i64 0, .string ⟨#[]⟩], .int .i64 5]) (by simp [results, Tryz.results120, go_sem, *]) rfl ⟨?_, ?_⟩
    · rw [HT.out, HE.out]; rfl
    · exact (Below.refl _ _).alloc (Nat.le_refl _) _
  · have hng : ¬ 2000 < s.data.toList.length := by rw [hlen]; exact hbig
    by_cases hh : s.data.toList.head? = some 91
    · have hpos : 0 < s.size := by
        cases e : s.data.toList with
        | nil => rw [e] at hh; simp at hh
        | cons c q => rw [← hlen, e]; simp
      have h91 : s[0] = 91 := by rw [head_at s hpos] at hh; exact Option.some.inj hh
      have q91 : (((s[0]).toNat : Int) == 91) = true := by rw [h91]; rfl
      have HE : Hid (prfE s.data.toList = parE s.data.toList) := by rw [Hid, prfE, if_neg hng, if_pos hh]
      have HT : Hid (prfT s.data.toList = parT s.data.toList) := by rw [Hid, prfT, if_neg hng, if_pos hh]
      clear hlen HV hh h91 hng
      generalize prfE s.data.toList = x at *
      generalize prfT s.data.toList = t at *
      generalize parE s.data.toList = pe at *
      generalize parT s.data.toList = pt at *
      go_enter Tryz.func120, Tryz.ntmps120
      go_wp2_with (go_at_call 121; refine ((HP.out) _).mono ?_; rintro e w1 ⟨rfl, hb1⟩; have hr0 := hb1.cell (p := ⟨w.heap.size, 0, none⟩) (by simp); have hr1 := hb1.cell (p := ⟨w.heap.size, 1, none⟩) (by simp); have hf0 := hb1.frozen (p := ⟨w.heap.size, 0, none⟩) (by simp); have hf1 := hb1.frozen (p := ⟨w.heap.size, 1, none⟩) (by simp))
      refine bodyPost_ret (v := .tuple #[.agg #[.int .i64 pt.1, .string ⟨pt.2.toArray⟩], .int .i64 pe]) (by simp [results, Tryz.results120, go_sem, *]) rfl ⟨?_, ?_⟩
      · rw [HT.out, HE.out]
      · have hb9 : Below w.heap.size w w1 := Below.step ((Below.refl _ _).alloc (Nat.le_refl _) _) hb1
        exact (hb9.setCell (Nat.le_refl _) _).setCell (Nat.le_refl _) _
    · cases hv : validL s.data.toList with
      | true =>
        have HE : Hid (prfE s.data.toList = 0) := by rw [Hid, prfE, if_neg hng, if_neg hh, hv]; rfl
        have HT : Hid (prfT s.data.toList = (0, s.data.toList)) := by rw [Hid, prfT, if_neg hng, if_neg hh, hv]; rfl
        have hpos : 0 < s.size := by have := valid_ne hv; omega
        have h91 : s[0] ≠ 91 := fun e => hh (by rw [head_at s hpos, e])
        have q91 : (((s[0]).toNat : Int) == 91) = false := by have := byte_eq s 0 hpos 91; simp only [h91, decide_false] at this; exact this
        rw [hv] at HV
        clear hlen HP hh h91 hng hv
        generalize prfE s.data.toList = x at *
        generalize prfT s.data.toList = t at *
        go_enter Tryz.func120, Tryz.ntmps120
        go_wp2_with (go_at_call 26; refine ((HV.out) _).mono ?_; rintro e w1 ⟨rfl, hb1⟩; have hr0 := hb1.cell (p := ⟨w.heap.size, 0, none⟩) (by simp); have hr1 := hb1.cell (p := ⟨w.heap.size, 1, none⟩) (by simp); have hf0 := hb1.frozen (p := ⟨w.heap.size, 0, none⟩) (by simp); have hf1 := hb1.frozen (p := ⟨w.heap.size, 1, none⟩) (by simp))
        refine bodyPost_ret (v := .tuple #[.agg #[.int .i64 0, .string s], .int .i64 0]) (by simp [results, Tryz.results120, go_sem, *]) rfl ⟨?_, ?_⟩
        · rw [HT.out, HE.out]; rfl
        · have hb9 : Below w.heap.size w w1 := Below.step ((Below.refl _ _).alloc (Nat.le_refl _) _) hb1
          exact (hb9.setCell (Nat.le_refl _) _).setCell (Nat.le_refl _) _
      | false =>
        have HE : Hid (prfE s.data.toList = 4) := by rw [Hid, prfE, if_neg hng, if_neg hh, hv]; rfl
        have HT : Hid (prfT s.data.toList = (0, [])) := by rw [Hid, prfT, if_neg hng, if_neg hh, hv]; rfl
        rw [hv] at HV
        by_cases hpos : 0 < s.size
        · have h91 : s[0] ≠ 91 := fun e => hh (by rw [head_at s hpos, e])
          have q91 : (((s[0]).toNat : Int) == 91) = false := by have := byte_eq s 0 hpos 91; simp only [h91, decide_false] at this; exact this
          clear hlen HP hh h91 hng hv
          generalize prfE s.data.toList = x at *
          generalize prfT s.data.toList = t at *
          go_enter Tryz.func120, Tryz.ntmps120
          go_wp2_with (go_at_call 26; refine ((HV.out) _).mono ?_; rintro e w1 ⟨rfl, hb1⟩; have hr0 := hb1.cell (p := ⟨w.heap.size, 0, none⟩) (by simp); have hr1 := hb1.cell (p := ⟨w.heap.size, 1, none⟩) (by simp); have hf0 := hb1.frozen (p := ⟨w.heap.size, 0, none⟩) (by simp); have hf1 := hb1.frozen (p := ⟨w.heap.size, 1, none⟩) (by simp))
          refine bodyPost_ret (v := .tuple #[.agg #[.int .i64 0, .string ⟨#[]⟩], .int .i64 4]) (by simp [results, Tryz.results120, go_sem, *]) rfl ⟨?_, ?_⟩
          · rw [HT.out, HE.out]; rfl
          · have hb9 : Below w.heap.size w w1 := Below.step ((Below.refl _ _).alloc (Nat.le_refl _) _) hb1
            exact (hb9.setCell (Nat.le_refl _) _).setCell (Nat.le_refl _) _
        · clear hlen HP hh hng hv
          generalize prfE s.data.toList = x at *
          generalize prfT s.data.toList = t at *
          go_enter Tryz.func120, Tryz.ntmps120
          go_wp2_with (go_at_call 26; refine ((HV.out) _).mono ?_; rintro e w1 ⟨rfl, hb1⟩; have hr0 := hb1.cell (p := ⟨w.heap.size, 0, none⟩) (by simp); have hr1 := hb1.cell (p := ⟨w.heap.size, 1, none⟩) (by simp); have hf0 := hb1.frozen (p := ⟨w.heap.size, 0, none⟩) (by simp); have hf1 := hb1.frozen (p := ⟨w.heap.size, 1, none⟩) (by simp))
          refine bodyPost_ret (v := .tuple #[.agg #[.int .i64 0, .string ⟨#[]⟩], .int .i64 4]) (by simp [results, Tryz.results120, go_sem, *]) rfl ⟨?_, ?_⟩
          · rw [HT.out, HE.out]; rfl
          · have hb9 : Below w.heap.size w w1 := Below.step ((Below.refl _ _).alloc (Nat.le_refl _) _) hb1
            exact (hb9.setCell (Nat.le_refl _) _).setCell (Nat.le_refl _) _


end Go.Proofs.YtfbhjfpkhofifaaGreatDoor
