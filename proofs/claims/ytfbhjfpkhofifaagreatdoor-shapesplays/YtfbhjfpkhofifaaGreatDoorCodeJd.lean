/- What the words are for: The walk of the document's Print (arbiterref04): an instruction's text; what was there before stays. -/
import Derived.Test.YtfbhjfpkhofifaaGreatDoorCodeL
import Derived.Test.YtfbhjfpkhofifaaGreatDoorCodeF
import Derived.Deep.RegionWith
namespace Go.Proofs.YtfbhjfpkhofifaaGreatDoor
open Go.RowKit

/-- the word of an instruction -/
def wordL (op : Int) : List UInt8 := wordsL.getD op.toNat []
/-- what stands behind the word -/
def restL (k n : Int) (t : List UInt8) (r : List UInt8) : List UInt8 :=
  if k = 1 ∨ k = 2 ∨ k = 3 then 32 :: Lib.itoa n else if k = 4 ∨ k = 5 ∨ k = 6 then 32 :: t else if k = 7 then 32 :: (Lib.itoa n ++ 32 :: t) else if k = 8 then 32 :: r else []
/-- an instruction's text -/
def prtL (op n : Int) (t : ByteArray) (b : Bool) (c m d : ByteArray) : List UInt8 :=
  if ickE op n t b c m d = 0 then wordL op ++ restL (opdI op) n t.data.toList (rtxL b c.data.toList m.data.toList d.data.toList) else []

theorem word_len (op : Int) : (wordL op).length ≤ 20 := by
  have h : ∀ x ∈ wordsL, x.length ≤ 20 := by decide
  unfold wordL
  rw [List.getD_eq_getElem?_getD]
  cases e : wordsL[op.toNat]? with
  | none => simp
  | some x => exact h x (List.mem_of_getElem? e)

theorem ick_type {op n : Int} {t : ByteArray} {b : Bool} {c m d : ByteArray} (h : ickE op n t b c m d = 0) : t.size ≤ 2000 := by
  have hlen : t.data.toList.length = t.size := by simp
  have he : t.toList.isEmpty = true → t.size ≤ 2000 := fun h => by
    rw [Lib.toList_data] at h
    rw [← hlen, List.isEmpty_iff.1 h]; simp
  have hv : validL t.data.toList = true → t.size ≤ 2000 := fun h => by
    unfold validL at h
    rw [Bool.and_eq_true, decide_eq_true_eq] at h
    omega
  have hp : prfE t.data.toList = 0 → t.size ≤ 2000 := fun h => by have := prf_len h; omega
  have hq : parE t.data.toList = 0 → t.size ≤ 2000 := fun h => by
    by_cases h1 : 2000 < t.data.toList.length
    · rw [parE, if_pos h1] at h; exact absurd h (by decide)
    · omega
  have h2 : insB (opdI op) n t.toList.isEmpty t.data.toList (noRefB b c m d) (rckB c.data.toList m.data.toList d.data.toList) = true := by
    unfold ickE at h
    split at h
    · assumption
    · exact absurd h (by decide)
  unfold insB at h2
  rcases opd_cases op with e | e | e | e | e | e | e | e | e | e <;> rw [e] at h2 <;> simp at h2
  · exact he (by simpa using h2.2)
  · exact he (by simpa using h2.1.1.2)
  · exact he (by simpa using h2.1.1.2)
  · exact he (by simpa using h2.1.1.2)
  · exact hv h2.2
  · exact hp h2.2
  · exact hq h2.1.2
  · exact hp h2.1.1.2
  · exact he (by simpa using h2.1.2)

theorem ick_op {op n : Int} {t : ByteArray} {b : Bool} {c m d : ByteArray} (h : ickE op n t b c m d = 0) : 1 ≤ op ∧ op ≤ 40 := by
  by_cases ho : op < 1 ∨ 40 < op
  · have : opdI op = -1 := by rw [opdI, if_pos ho]
    rw [ickE, this] at h
    simp [insB] at h
  · omega

theorem itoa_size (n : Int) (h1 : -9223372036854775808 ≤ n) (h2 : n ≤ 9223372036854775807) : (⟨(Lib.itoa n).toArray⟩ : ByteArray).size ≤ 21 := by
  rw [mk_size]
  exact Lib.itoa_length_le n h1 h2
theorem rtx_size (b : Bool) (c n d : List UInt8) : (⟨(rtxL b c n d).toArray⟩ : ByteArray).size ≤ 5000 := by
  rw [mk_size, rtxL]
  split
  · rename_i h
    obtain ⟨h1, h2, h3⟩ := rck_len h
    simp; omega
  · simp

end Go.Proofs.YtfbhjfpkhofifaaGreatDoor
