/- Walks of the document's answers of layer 2 (arbiterref02) that take a type: Check, Same, written, Text, RefText, ArrayOf, Component, Element: each returns what the plain functions say; what was there before stays. -/
import Derived.Test.YtaljppicmookeaaRefLists
import Derived.Test.YtaljppicmookeaaTypesPure
import Derived.Laws.IdiomStrings
namespace Go.Proofs.Ytaljppicmookeaa
open Go.RowKit

/-- a sound type, as numbers and bytes -/
def sndB (d : Int) (l : List UInt8) : Bool := decide (0 ≤ d) && decide (d ≤ 255) && (l.isEmpty || validL l)

/-- OK or ErrForm -/
def chkI (b : Bool) : Int := if b then 0 else 1

theorem Below.step {w w1 w2 : World} (h1 : Below w.heap.size w w1) (h2 : Below w1.heap.size w1 w2) : Below w.heap.size w w2 := h1.trans (h2.mono h1.size)

set_option maxHeartbeats 400000 in
theorem rCheck_any (d : Int) (s : ByteArray) (hs : s.size ≤ maxLen) (w : World) :
    Calls Try.prog 22 #[.agg #[.int .i64 d, .string s]] w fun e w' => e = .returned (.int .i64 (chkI (sndB d s.data.toList))) ∧ Below w.heap.size w w' := by
  have HV : Hid (∀ w, _) := rValid_any s hs
  have HB : Hid (sndB d s.data.toList = (decide (0 ≤ d) && decide (d ≤ 255) && (s.toList.isEmpty || validL s.data.toList))) := by rw [Hid, Lib.toList_data]; rfl
  generalize validL s.data.toList = b at *
  generalize sndB d s.data.toList = r at *
  by_cases h1 : 0 ≤ d
  · by_cases h2 : d ≤ 255
    · cases he : s.toList.isEmpty with
      | true =>
        have HR : Hid (r = true) := by rw [Hid, HB.out, he]; simp [h1, h2]
        go_enter Try.func22, Try.ntmps22
        go_wp2
        go_ret
        exact ⟨ret_int (by rw [HR.out]; rfl), (Below.refl _ _).alloc (Nat.le_refl _) _⟩
      | false =>
        have HR : Hid (r = b) := by rw [Hid, HB.out, he]; simp [h1, h2]
        cases b
        all_goals
          go_enter Try.func22, Try.ntmps22
          go_wp2_with (go_at_call 41; refine ((HV.out) _).mono ?_; rintro e w1 ⟨rfl, hb1⟩)
          go_ret
          exact ⟨ret_int (by rw [HR.out]; rfl), Below.step ((Below.refl _ _).alloc (Nat.le_refl _) _) (by assumption)⟩
    · have HR : Hid (r = false) := by rw [Hid, HB.out]; simp [h2]
      go_enter Try.func22, Try.ntmps22
      go_wp2
      go_ret
      exact ⟨ret_int (by rw [HR.out]; rfl), (Below.refl _ _).alloc (Nat.le_refl _) _⟩
  · have HR : Hid (r = false) := by rw [Hid, HB.out]; simp [h1]
    have h1' : d < 0 := by omega
    go_enter Try.func22, Try.ntmps22
    go_wp2
    go_ret
    exact ⟨ret_int (by rw [HR.out]; rfl), (Below.refl _ _).alloc (Nat.le_refl _) _⟩

set_option maxHeartbeats 400000 in
theorem rSame_any (d1 d2 : Int) (s1 s2 : ByteArray) (w : World) :
    Calls Try.prog 11 #[.agg #[.int .i64 d1, .string s1], .agg #[.int .i64 d2, .string s2]] w fun e w' => e = .returned (.bool (decide (d1 = d2) && decide (s1 = s2))) ∧ Below w.heap.size w w' := by
  have hb : (s1.toList == s2.toList) = decide (s1 = s2) := by
    rw [Bool.eq_iff_iff]
    simp only [beq_iff_eq, decide_eq_true_eq]
    exact ⟨fun h => bytes_ext (by rw [← Lib.toList_data, ← Lib.toList_data, h]), fun h => by rw [h]⟩
  have hd : (d1 == d2) = decide (d1 = d2) := by rw [Bool.eq_iff_iff]; simp
  have HB : Hid _ := hb
  have HD : Hid _ := hd
  clear hb hd
  cases he : (d1 == d2) with
  | false =>
    go_enter Try.func11, Try.ntmps11
    go_wp2
    go_ret
    exact ⟨ret_bool (by rw [← HD.out, he]; simp), ((Below.refl _ _).alloc (Nat.le_refl _) _).alloc (by simp) _⟩
  | true =>
    have he' : d1 = d2 := by simpa using he
    subst he'
    clear he
    go_enter Try.func11, Try.ntmps11
    go_wp2
    go_ret
    exact ⟨ret_bool (by rw [← HB.out]), ((Below.refl _ _).alloc (Nat.le_refl _) _).alloc (by simp) _⟩

theorem Try.info5 : (Try.prog.info? 5).map (fun i => (i.zero, i.size, i.bytes)) = some (some (.int .u8 0), 1, 1) := by kernel_rfl

/-- while the brackets are laid: the row of bytes, the type's own block, what was there before -/
structure Brk (G k j : Nat) (s : ByteArray) (w wr : World) : Prop where
  own : ∃ Y, wr.ownsRow (w.heap.size + 1) 5 1 (.slice (some ⟨G, 0, none⟩) k k) k Y ∧ Y.take j = List.replicate j (.int .u8 91)
  c0 : wr.cell? ⟨w.heap.size, 0, none⟩ = some (.int .i64 k)
  c1 : wr.cell? ⟨w.heap.size, 1, none⟩ = some (.string s)
  bel : Below w.heap.size w wr

theorem Brk.put {G k j : Nat} {s : ByteArray} {w wr : World} (h : Brk G k j s w wr) (hj : j < k) : Brk G k (j + 1) s w (wr.setCell ⟨G, j, none⟩ (.int .u8 91)) := by
  obtain ⟨⟨Y, ho, ht⟩, c0, c1, hb⟩ := h
  have hs := ho.stored j (.int .u8 91)
  have hG := (ho.lt G rfl).1
  have hl : Y.length = k := by have := ho.1; omega
  refine ⟨⟨_, hs.1, ?_⟩, hs.2.cell c0 (by simp; omega), hs.2.cell c1 (by simp; omega), hb.setCell (by show w.heap.size ≤ G; omega) _⟩
  rw [List.take_set, List.take_succ_eq_append_getElem (by omega), ht, List.set_append_right _ _ (by simp)]
  simp [List.replicate_succ']

theorem Brk.text {G k : Nat} {s : ByteArray} {w wr : World} (h : Brk G k k s w wr) : (convert 70 9 (.slice (some ⟨G, 0, none⟩) k k)).run Try.prog wr = .ok (.string ⟨(List.replicate k (91 : UInt8)).toArray⟩) wr := by
  obtain ⟨⟨Y, ho, ht⟩, _, _, _⟩ := h
  have hl : Y.length = k := by have := ho.1; omega
  have hY : Y = List.replicate k (.int .u8 91) := by rw [← hl, List.take_length, hl] at ht; exact ht
  have := run_convert_bytes_back (P := Try.prog) wr 70 9 5 ⟨G, 0, none⟩ k (List.replicate k (91 : UInt8)) Try.underlying70 Try.underlying5 Try.underlying9 (fun j hj => by
    rw [Addr.add_lit, Nat.zero_add, ho.cellAt j (by simp at hj; omega), hY, List.getElem?_replicate, if_pos (by simpa using hj)]
    simp)
  rw [List.length_replicate] at this
  exact this

set_option maxHeartbeats 1000000 in
theorem written_any (k : Nat) (hk : k ≤ 255) (s : ByteArray) (hs : s.size ≤ 1000000) (w : World) :
    Calls Try.prog 45 #[.agg #[.int .i64 k, .string s]] w fun e w' => e = .returned (.string ⟨(writeT (k, s.data.toList)).toArray⟩) ∧ Below w.heap.size w w' := by
  obtain ⟨i5, hi5, hz0, hz1, hz2⟩ := info_parts Try.info5
  have HW : Hid (writeT (k, s.data.toList) = List.replicate k 91 ++ (if s.toList.isEmpty then [73] else 76 :: (s.data.toList ++ [59]))) := by
    rw [Hid, writeT, Lib.toList_data]
    cases s.data.toList <;> simp
  go_enter Try.func45, Try.ntmps45
  go_wp2_with (at_make; refine wpList_make_full _ rfl _ _ 70 rfl (w.heap.size + 1) 5 i5 (.int .u8 0) 1 Try.underlying70 hi5 hz0 hz1 _ _ _ _ k rfl rfl rfl rfl ?m1 ?m2 ?m3 ?_)
  case m1 => rw [hz2]; omega
  case m2 => unfold maxLen; omega
  case m3 => simp
  intro w1 hown hgb
  have hb0 : Below (w.heap.size + 1) (w.alloc (.cells #[.int .i64 k, .string s] 24)) w1 := ⟨hgb.os, hgb.tape, hgb.output, hgb.size, fun q hq => hgb.block q (by simpa using hq) (by simp)⟩
  have H1 : Hid (Brk (w.heap.size + 1) k 0 s w w1) := by
    refine ⟨⟨_, by simpa using hown, by simp⟩, ?_, ?_, ((Below.refl _ _).alloc (Nat.le_refl _) _).trans (hb0.mono (by omega))⟩
    · rw [hb0.cell (p := ⟨w.heap.size, 0, none⟩) (by simp), cell_of_row _ w.heap.size 0 _ 24 (0, 0) (heap_alloc_new w _)]; rfl
    · rw [hb0.cell (p := ⟨w.heap.size, 1, none⟩) (by simp), cell_of_row _ w.heap.size 1 _ 24 (0, 0) (heap_alloc_new w _)]; rfl
  clear hown hgb hb0 hi5 hz0 hz1 hz2
  go_wp2
  go_loopw [4] (fun iv wr => ∃ j : Nat, iv = .int .i64 j ∧ j ≤ k ∧ Hid (Brk (w.heap.size + 1) k j s w wr)) (fun iv _ => k - (intOf iv).toNat)
  case atStart => exact ⟨0, rfl, Nat.zero_le _, H1⟩
  case round =>
    clear H1
    obtain ⟨j, rfl, hjk, hj⟩ := hrel
    have c0 := hj.out.c0
    have c1 := hj.out.c1
    by_cases hjl : j < k
    · obtain ⟨Y, ho, _⟩ := hj.out.own
      have hl : Y.length = k := by have := ho.1; omega
      have hc := ho.cellAt j (by omega)
      rw [List.getElem?_eq_getElem (by omega)] at hc
      have hf := ho.frozenAt j
      have R : Hid (Brk (w.heap.size + 1) k (j + 1) s w (wr.setCell ⟨w.heap.size + 1, j, none⟩ (.int .u8 91))) := hj.out.put hjl
      clear ho hj
      go_wp2
      go_roundw
      case rel => exact ⟨j + 1, by go_num, by omega, R⟩
      case measure => simp [intOf]; omega
    · have hjk' : j = k := by omega
      subst hjk'
      have ht := hj.out.text
      have hbl := hj.out.bel
      have hm : (⟨(List.replicate j (91 : UInt8)).toArray⟩ : ByteArray).size = j := by rw [mk_size]; simp
      clear hj
      generalize hrep : (List.replicate j (91 : UInt8)).toArray = ra at *
      have HREP : Hid _ := hrep
      clear hrep
      cases he : s.toList.isEmpty with
      | true =>
        go_wp2
        go_ret
        refine ⟨ret_str ?_, hbl⟩
        rw [HW.out, he]
        apply bytes_ext
        simp [ByteArray.data_append, ← HREP.out]
      | false =>
        go_wp2
        go_ret
        refine ⟨ret_str ?_, hbl⟩
        rw [HW.out, he]
        apply bytes_ext
        simp [ByteArray.data_append, ← HREP.out]

end Go.Proofs.Ytaljppicmookeaa
