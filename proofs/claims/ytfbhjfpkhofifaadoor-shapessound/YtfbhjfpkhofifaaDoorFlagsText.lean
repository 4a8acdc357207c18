/- Walks of the document's answers of layer 3 (arbiterref03) that write and read words: text, parse, ClassText, MethodText, ParseClass, ParseMethod: each returns what the plain functions say; what was there before stays. -/
import Derived.Test.YtfbhjfpkhofifaaDoorFlagsRef
namespace Go.Proofs.YtfbhjfpkhofifaaDoor
open Go.RowKit

theorem chosen_append (f : Int) (a b : List (Int × List UInt8)) : chosenW f (a ++ b) = chosenW f a ++ chosenW f b := by
  induction a with
  | nil => simp [chosenW]
  | cons p a ih =>
    simp only [List.cons_append, chosenW, ih]
    split <;> simp

theorem chosen_step (f : Int) (ps : List (Int × List UInt8)) (i : Nat) (p : Int × List UInt8) (h : ps[i]? = some p) : chosenW f (ps.take (i + 1)) = chosenW f (ps.take i) ++ (if hasI f p.1 then [p.2] else []) := by
  have hlt : i < ps.length := (List.getElem?_eq_some_iff.1 h).1
  rw [List.take_succ_eq_append_getElem hlt, chosen_append]
  rw [List.getElem?_eq_getElem hlt] at h
  rw [Option.some.inj h]
  simp [chosenW]

theorem chosen_mem {f : Int} {ps : List (Int × List UInt8)} {w : List UInt8} (h : w ∈ chosenW f ps) : ∃ p ∈ ps, p.2 = w := by
  induction ps with
  | nil => simp [chosenW] at h
  | cons p ps ih =>
    unfold chosenW at h
    split at h
    · rcases List.mem_cons.1 h with rfl | h
      · exact ⟨p, List.mem_cons_self .., rfl⟩
      · obtain ⟨q, hq, e⟩ := ih h; exact ⟨q, List.mem_cons_of_mem _ hq, e⟩
    · obtain ⟨q, hq, e⟩ := ih h; exact ⟨q, List.mem_cons_of_mem _ hq, e⟩

theorem fjoin_snoc (l : List (List UInt8)) (w : List UInt8) (h : l ≠ []) : Lib.join (l ++ [w]) [32] = Lib.join l [32] ++ 32 :: w := by
  induction l with
  | nil => exact absurd rfl h
  | cons a l ih =>
    cases l with
    | nil => simp [Lib.join]
    | cons b l =>
      have := ih (by simp)
      rw [List.cons_append, List.cons_append, join_cons2, ← List.cons_append, this, join_cons2]
      simp

theorem join_empty (l : List (List UInt8)) (h : ∀ w ∈ l, w ≠ []) : Lib.join l [32] = [] ↔ l = [] := by
  cases l with
  | nil => simp [Lib.join]
  | cons a l =>
    have ha := h a (List.mem_cons_self ..)
    cases l with
    | nil => rw [join_one]; simp [ha]
    | cons b l => rw [join_cons2]; simp

theorem join_small (f : Int) (ps : List (Int × List UInt8)) (h : ∀ p ∈ ps, p.2.length ≤ 20) : (Lib.join (chosenW f ps) [32]).length ≤ 21 * ps.length := by
  induction ps with
  | nil => simp [chosenW, Lib.join]
  | cons p ps ih =>
    have h1 := h p (List.mem_cons_self ..)
    have h2 := ih (fun q hq => h q (List.mem_cons_of_mem _ hq))
    unfold chosenW
    split
    · cases e : chosenW f ps with
      | nil => rw [join_one, List.length_cons]; omega
      | cons a l =>
        rw [e] at h2
        rw [join_cons2, List.length_append, List.length_cons, List.length_cons]
        omega
    · rw [List.length_cons]; omega

theorem size_len (b : ByteArray) : b.size = b.data.toList.length := by simp

theorem empty_bytes (a : ByteArray) : a.toList.isEmpty = decide (a.data.toList = []) := by
  rw [Lib.toList_data]
  cases a.data.toList <;> simp

end Go.Proofs.YtfbhjfpkhofifaaDoor
