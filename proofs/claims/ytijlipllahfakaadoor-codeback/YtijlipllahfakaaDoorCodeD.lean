/- Walks of the document's answers of layer 4 (arbiterref04): RefText; what was there before stays. -/
import Derived.Test.YtijlipllahfakaaDoorCodeC
namespace Go.Proofs.YtijlipllahfakaaDoor
open Go.RowKit

theorem prf_len {l : List UInt8} (h : prfE l = 0) : l.length ≤ 2000 := by
  by_cases h1 : 2000 < l.length
  · rw [prfE, if_pos h1] at h; exact absurd h (by decide)
  · omega
theorem pd_len {l : List UInt8} (h : pdE l = 0) : l.length ≤ 2000 := by
  by_cases h1 : 2000 < l.length
  · rw [pdE, if_pos h1] at h; exact absurd h (by decide)
  · omega
theorem member_len {l : List UInt8} (h : memberL l = true) : l.length ≤ 60 := by
  unfold memberL at h
  simp only [Bool.or_eq_true, Bool.and_eq_true, decide_eq_true_eq, beq_iff_eq] at h
  rcases h with h | h
  · rw [h]; decide
  · exact h.1

theorem rck_len {c n d : List UInt8} (h : rckB c n d = true) : c.length ≤ 2000 ∧ n.length ≤ 60 ∧ d.length ≤ 2000 := by
  unfold rckB at h
  simp only [Bool.and_eq_true, beq_iff_eq] at h
  exact ⟨prf_len h.1.1, member_len h.1.2, pd_len h.2⟩

/-- a reference's text -/
def rtxL (b : Bool) (c n d : List UInt8) : List UInt8 := if rckB c n d then c ++ (if b then 58 else 46) :: (n ++ d) else []

set_option maxRecDepth 100000 in
set_option maxHeartbeats 1000000 in
theorem rRefText_any (b : Bool) (c n d : ByteArray) (hc : c.size ≤ maxLen) (hn : n.size ≤ maxLen) (hd : d.size ≤ maxLen) (w : World) : Calls Tryd.prog 18 #[.agg #[.bool b, .string c, .string n, .string d]] w fun e w' => e = .returned (.tuple #[.string ⟨(rtxL b c.data.toList n.data.toList d.data.toList).toArray⟩, .int .i64 (rckE c.data.toList n.data.toList d.data.toList)]) ∧ Below w.heap.size w w' := by
  have HC : Hid (∀ w, _) := rRefCheck_any b c n d hc hn hd
  clear hc hn hd
  cases h : rckB c.data.toList n.data.toList d.data.toList with
  | true =>
    obtain ⟨h1, h2, h3⟩ := rck_len h
    have h1 : c.size ≤ 2000 := by simpa using h1
    have h2 : n.size ≤ 60 := by simpa using h2
    have h3 : d.size ≤ 2000 := by simpa using h3
    have HE : Hid (rckE c.data.toList n.data.toList d.data.toList = 0) := by rw [Hid, rckE, h]; rfl
    have HT : Hid (∀ x, rtxL x c.data.toList n.data.toList d.data.toList = c.data.toList ++ (if x then 58 else 46) :: (n.data.toList ++ d.data.toList)) := by intro x; rw [rtxL, h]; rfl
    clear h
    rw [HE.out] at HC ⊢
    cases b with
    | true =>
      go_enter Tryd.func18, Tryd.ntmps18
      go_wp2_with (go_at_call 20; refine ((HC.out) _).mono ?_; rintro e w1 ⟨rfl, hb1⟩; have hc0 : w1.cell? ⟨w.heap.size, 0, none⟩ = some (.bool true) := (hb1.cell (p := ⟨w.heap.size, 0, none⟩) (by simp)).trans (by simp [go_sem, *]); have hc1 : w1.cell? ⟨w.heap.size, 1, none⟩ = some (.string c) := (hb1.cell (p := ⟨w.heap.size, 1, none⟩) (by simp)).trans (by simp [go_sem, *]); have hc2 : w1.cell? ⟨w.heap.size, 2, none⟩ = some (.string n) := (hb1.cell (p := ⟨w.heap.size, 2, none⟩) (by simp)).trans (by simp [go_sem, *]); have hc3 : w1.cell? ⟨w.heap.size, 3, none⟩ = some (.string d) := (hb1.cell (p := ⟨w.heap.size, 3, none⟩) (by simp)).trans (by simp [go_sem, *]))
      refine bodyPost_ret (v := .tuple #[.string (c ++ ⟨#[58]⟩ ++ n ++ d), .int .i64 0]) (by simp [results, Tryd.results18, go_sem, *]) rfl ⟨?_, Below.step ((Below.refl _ _).alloc (Nat.le_refl _) _) hb1⟩
      rw [HT.out]
      congr 5
      apply bytes_ext
      simp [ByteArray.data_append]
    | false =>
      go_enter Tryd.func18, Tryd.ntmps18
      go_wp2_with (go_at_call 20; refine ((HC.out) _).mono ?_; rintro e w1 ⟨rfl, hb1⟩; have hc0 : w1.cell? ⟨w.heap.size, 0, none⟩ = some (.bool false) := (hb1.cell (p := ⟨w.heap.size, 0, none⟩) (by simp)).trans (by simp [go_sem, *]); have hc1 : w1.cell? ⟨w.heap.size, 1, none⟩ = some (.string c) := (hb1.cell (p := ⟨w.heap.size, 1, none⟩) (by simp)).trans (by simp [go_sem, *]); have hc2 : w1.cell? ⟨w.heap.size, 2, none⟩ = some (.string n) := (hb1.cell (p := ⟨w.heap.size, 2, none⟩) (by simp)).trans (by simp [go_sem, *]); have hc3 : w1.cell? ⟨w.heap.size, 3, none⟩ = some (.string d) := (hb1.cell (p := ⟨w.heap.size, 3, none⟩) (by simp)).trans (by simp [go_sem, *]))
      refine bodyPost_ret (v := .tuple #[.string (c ++ ⟨#[46]⟩ ++ n ++ d), .int .i64 0]) (by simp [results, Tryd.results18, go_sem, *]) rfl ⟨?_, Below.step ((Below.refl _ _).alloc (Nat.le_refl _) _) hb1⟩
      rw [HT.out]
      congr 5
      apply bytes_ext
      simp [ByteArray.data_append]
  | false =>
    have HE : Hid (rckE c.data.toList n.data.toList d.data.toList = 1) := by rw [Hid, rckE, h]; rfl
    have HT : Hid (rtxL b c.data.toList n.data.toList d.data.toList = []) := by rw [Hid, rtxL, h]; rfl
    rw [HE.out] at HC ⊢
    rw [HT.out]
    clear h HT HE
    go_enter Tryd.func18, Tryd.ntmps18
    go_wp2_with (go_at_call 20; refine ((HC.out) _).mono ?_; rintro e w1 ⟨rfl, hb1⟩)
    exact bodyPost_ret (v := .tuple #[.string ⟨#[]⟩, .int .i64 1]) (by simp [results, Tryd.results18, go_sem, *]) rfl ⟨rfl, Below.step ((Below.refl _ _).alloc (Nat.le_refl _) _) hb1⟩

end Go.Proofs.YtijlipllahfakaaDoor
