/- strings.SplitSeq at a blank: the words of the text in their order are handed to the loop's body, until it leaves. -/
import Derived.Test.YtdkjapfnilbomaaDoorRangeC
namespace Go.Proofs.YtdkjapfnilbomaaDoor
open Go.RowKit Go.Shelf
attribute [local go_sem] Oper.semAt_some

theorem indexByte_miss : ∀ (l : List UInt8), Lib.indexByte l 32 = -1 → (32 : UInt8) ∉ l
  | [], _ => by simp
  | b :: l, h => by
    unfold Lib.indexByte at h
    split at h
    · simp at h
    · rename_i hb
      split at h
      · rename_i hc
        have := indexByte_miss l (by simpa using hc)
        simp at hb
        simp [this]
        exact fun e => hb e.symm
      · rename_i hc
        exfalso
        have : -1 ≤ Lib.indexByte l 32 := indexByte_low l
        simp at hc
        omega
where
  indexByte_low : ∀ l : List UInt8, -1 ≤ Lib.indexByte l 32
    | [] => by simp [Lib.indexByte]
    | b :: l => by
      have := indexByte_low l
      unfold Lib.indexByte
      split
      · omega
      · split <;> omega

theorem indexByte_hit : ∀ (l : List UInt8), Lib.indexByte l 32 ≠ -1 → ∃ a b, l = a ++ 32 :: b ∧ (32 : UInt8) ∉ a ∧ Lib.indexByte l 32 = (a.length : Int)
  | [], h => by simp [Lib.indexByte] at h
  | c :: l, h => by
    by_cases hc : c = 32
    · subst hc
      exact ⟨[], l, rfl, by simp, by simp [Lib.indexByte]⟩
    · have hcb : (c == 32) = false := by simpa using hc
      have e : Lib.indexByte (c :: l) 32 = if Lib.indexByte l 32 == -1 then -1 else Lib.indexByte l 32 + 1 := by rw [Lib.indexByte, hcb]; rfl
      rw [e] at h ⊢
      by_cases hl : Lib.indexByte l 32 = -1
      · rw [hl] at h; simp at h
      · obtain ⟨a, b, rfl, ha, hx⟩ := indexByte_hit l hl
        refine ⟨c :: a, b, rfl, by simp [ha]; exact fun e => hc e.symm, ?_⟩
        have : (Lib.indexByte (a ++ 32 :: b) 32 == -1) = false := by simpa using hl
        rw [this, hx]
        simp

/-- the iterator's three variables -/
def Boxes (bp b bv : Nat) (w : World) (rest : ByteArray) : Prop :=
  w.heap[bp]? = some (.cells #[.string ⟨#[32]⟩] 9 (0, 0)) ∧ w.heap[b]? = some (.cells #[.string rest] 9 (0, 0)) ∧ w.heap[bv]? = some (.cells #[.int .i64 0] 3 (0, 0))

def strAt (b : Nat) (w : World) : Nat := match w.cell? ⟨b, 0, none⟩ with
  | some (.string s) => s.size
  | _ => 0

theorem box_cell {w : World} {b : Nat} {v : Value} {t : TypeId} (h : w.heap[b]? = some (.cells #[v] t (0, 0))) : w.cell? ⟨b, 0, none⟩ = some v := by
  rw [cell_of_row w b 0 _ t (0, 0) h]; rfl
theorem box_free {w : World} {b : Nat} {v : Value} {t : TypeId} (h : w.heap[b]? = some (.cells #[v] t (0, 0))) : w.frozen? ⟨b, 0, none⟩ = false := by
  simp [World.frozen?, h]
theorem box_set {w : World} {b : Nat} {v u : Value} {t : TypeId} (h : w.heap[b]? = some (.cells #[v] t (0, 0))) : (w.setCell ⟨b, 0, none⟩ u).heap[b]? = some (.cells #[u] t (0, 0)) := by
  simp only [World.setCell, Array.getElem?_modify, h, if_true]
  rfl

theorem cut_first (s : ByteArray) (k : Nat) : s.extract 0 k = ⟨(s.data.toList.take k).toArray⟩ := by
  apply bytes_ext
  simp [ByteArray.data_extract]
theorem cut_rest (s : ByteArray) (k : Nat) : s.extract k s.size = ⟨(s.data.toList.drop k).toArray⟩ := by
  apply bytes_ext
  simp [ByteArray.data_extract]
  exact List.take_of_length_le (by simp)

set_option maxRecDepth 100000 in
set_option maxHeartbeats 1000000 in
theorem split_in (n : Nat) (s : ByteArray) (hs : s.size ≤ 9223372036854775800) (w : World) (bp b bv : Nat) (hbp : bp ≠ b) (hbv : bv ≠ b) (hlp : bp < w.heap.size) (hl : b < w.heap.size) (hlv : bv < w.heap.size) (hbox : Boxes bp b bv w s) :
    SeqCell n 50 #[.pointer (some ⟨bp, 0, none⟩), .pointer (some ⟨b, 0, none⟩), .pointer (some ⟨bv, 0, none⟩)] (fun x => #[txtV x]) b [bp, b, bv] (fun xs => xs = toks s.data.toList) (fun pre => pre <+: toks s.data.toList) w := by
  intro l J Jx W hW hJ hY h0
  have hB0 : Boxes bp b bv W s := ⟨(hW.block _ hlp).trans hbox.1, (hW.block _ hl).trans hbox.2.1, (hW.block _ hlv).trans hbox.2.2⟩
  have HX : Hid (∀ (s : ByteArray) (w : World), _) := index_any
  have hc1 := box_cell hB0.1
  have hc2 := box_cell hB0.2.1
  have hc3 := box_cell hB0.2.2
  refine callsIn_of_wp Tryd.func50 rfl trivial ?_ rfl
  simp only [Tryd.ntmps50, List.size_toArray, List.length_cons, List.length_nil, Nat.reduceAdd, Nat.reduceSub, Array.replicate_succ, Array.replicate_zero, List.push_toArray, List.append_toArray, List.nil_append, List.cons_append]
  gi_wp2
  gi_loopw [7] (fun _ wr => ∃ (pre : List (List UInt8)) (rest : ByteArray), Hid (toks s.data.toList = pre ++ toks rest.data.toList) ∧ rest.size ≤ s.size ∧ Boxes bp b bv wr rest ∧ J pre wr) (fun _ wr => strAt b wr)
  case atStart => exact ⟨[], s, rfl, Nat.le_refl _, hB0, h0⟩
  case round =>
    obtain ⟨pre, rest, hT, hrs, hbx, hj⟩ := hrel
    clear hc1 hc2 hc3 hB0 h0
    have hc1 := box_cell hbx.1
    have hc2 := box_cell hbx.2.1
    have hc3 := box_cell hbx.2.2
    have hf2 := box_free hbx.2.1
    have HI : Hid (∀ w : World, _) := HX.out rest
    by_cases hx : Lib.indexByte rest.data.toList 32 = -1
    · have ht : toks rest.data.toList = [rest.data.toList] := toks_one _ (indexByte_miss _ hx)
      rw [hx] at HI
      obtain ⟨fn, tmps, assign, body, hy, hR⟩ := hY pre rest.data.toList wr hj
      rw [show txtV rest.data.toList = .string rest from rfl] at hy
      have hall : toks s.data.toList = pre ++ [rest.data.toList] := by rw [hT.out, ht]
      clear hT HX ht hx hY hJ
      gi_wp2
      refine ⟨trivial, (fun h => by cases h), ?_⟩
      refine (callsIn_wide.2 (HI.out _)).mono ?_
      rintro e w' ⟨rfl, he⟩
      subst w'
      gi_wp2
      refine ⟨(fun h => by cases h), hR.mono ?_⟩
      rintro e W3 (⟨rfl, hJ3, _⟩ | ⟨rfl, hJx3⟩)
      · gi_wp2
        go_end0
        exact ⟨⟨_, rfl⟩, .inl ⟨_, rfl, by rw [hall]; exact hJ3⟩⟩
      · gi_wp2
        go_end0
        exact ⟨⟨_, rfl⟩, .inr ⟨_, by rw [hall]; exact List.prefix_refl _, hJx3⟩⟩
    · obtain ⟨a, c, hac, ha, hix⟩ := indexByte_hit _ hx
      rw [hix] at HI
      have hsz : rest.size = a.length + 1 + c.length := by
        have : rest.data.toList.length = rest.size := by simp
        rw [← this, hac]; simp; omega
      have e1 : rest.extract 0 a.length = ⟨a.toArray⟩ := by rw [cut_first, hac]; simp
      have e2 : rest.extract (a.length + 1) rest.size = ⟨c.toArray⟩ := by
        rw [cut_rest, hac, show a ++ 32 :: c = (a ++ [32]) ++ c by simp, List.drop_left' (by simp)]
      rw [hsz] at e2
      have ht : toks rest.data.toList = a :: toks c := by rw [hac]; exact toks_app a c ha
      have hal : a.length + 1 ≤ rest.size := by omega
      obtain ⟨fn, tmps, assign, body, hy, hR⟩ := hY pre a wr hj
      rw [show txtV a = .string ⟨a.toArray⟩ from rfl] at hy
      have hall : toks s.data.toList = (pre ++ [a]) ++ toks c := by rw [hT.out, ht]; simp
      clear hT HX ht hx hY hac ha hix
      gi_wp2
      refine ⟨trivial, (fun h => by cases h), ?_⟩
      refine (callsIn_wide.2 (HI.out _)).mono ?_
      rintro e w' ⟨rfl, he⟩
      subst w'
      gi_wp2
      refine ⟨(fun h => by cases h), hR.mono ?_⟩
      rintro e W3 (⟨rfl, hJ3, hk3⟩ | ⟨rfl, hJx3⟩)
      · have hb3 : Boxes bp b bv W3 rest := ⟨(hk3 bp (by simp)).trans hbx.1, (hk3 b (by simp)).trans hbx.2.1, (hk3 bv (by simp)).trans hbx.2.2⟩
        have hd1 := box_cell hb3.1
        have hd2 := box_cell hb3.2.1
        have hd3 := box_cell hb3.2.2
        have hg2 := box_free hb3.2.1
        gi_wp2
        have hst : strAt b wr = rest.size := by simp [strAt, hc2]
        go_roundw
        case rel =>
          refine ⟨pre ++ [a], ⟨c.toArray⟩, hall, by rw [mk_size]; omega, ⟨?_, ?_, ?_⟩, hJ _ _ _ hJ3 (off_set _ _ _)⟩
          · exact (Below.heap_setCell _ _ _ _ hbp).trans hb3.1
          · exact box_set hb3.2.1
          · exact (Below.heap_setCell _ _ _ _ hbv).trans hb3.2.2
        case measure =>
          rw [hst]
          have : strAt b (W3.setCell ⟨b, 0, none⟩ (.string ⟨c.toArray⟩)) = c.length := by simp [strAt, box_cell (box_set hb3.2.1 (u := .string ⟨c.toArray⟩)), mk_size]
          rw [this]; omega
      · gi_wp2
        refine bodyPost_ret (results_none rfl _ _ _) rfl ?_
        exact ⟨⟨_, rfl⟩, .inr ⟨_, by rw [hall]; exact List.prefix_append _ _, hJx3⟩⟩
end Go.Proofs.YtdkjapfnilbomaaDoor
