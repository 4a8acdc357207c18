/- The walk of the document's Cut (arbiterref04): a text at each byte c; what was there before stays. -/
import Derived.Test.YtfbhjfpkhofifaaDoorRefLists
namespace Go.Proofs.YtfbhjfpkhofifaaDoor
open Go.RowKit

/-- a text, cut at each byte c -/
def cutL (c : UInt8) : List UInt8 → List (List UInt8)
  | [] => [[]]
  | x :: l => if x = c then [] :: cutL c l else match cutL c l with
    | [] => [[x]]
    | p :: r => (x :: p) :: r

theorem cutL_ne (c : UInt8) (l : List UInt8) : cutL c l ≠ [] := by
  cases l with
  | nil => simp [cutL]
  | cons x l =>
    unfold cutL
    split
    · simp
    · split <;> simp

theorem cutL_free (c : UInt8) (l : List UInt8) (h : c ∉ l) : cutL c l = [l] := by
  induction l with
  | nil => rfl
  | cons x l ih =>
    have hc : x ≠ c := fun e => h (by simp [e])
    have := ih (fun m => h (List.mem_cons_of_mem _ m))
    simp [cutL, hc, this]

theorem cutL_cut (c : UInt8) (a b : List UInt8) (h : c ∉ a) : cutL c (a ++ c :: b) = a :: cutL c b := by
  induction a with
  | nil => simp [cutL]
  | cons x l ih =>
    have hc : x ≠ c := fun e => h (by simp [e])
    have := ih (fun m => h (List.mem_cons_of_mem _ m))
    simp [cutL, hc, this]

theorem cutL_length (c : UInt8) (l : List UInt8) : (cutL c l).length ≤ l.length + 1 := by
  induction l with
  | nil => simp [cutL]
  | cons x l ih =>
    have hn := cutL_ne c l
    unfold cutL
    split
    · simp; omega
    · split
      · contradiction
      · rename_i p ps e
        rw [e] at ih
        simp at ih ⊢
        omega

theorem cfree_succ (c : UInt8) (s : ByteArray) (f k : Nat) (hf : f ≤ k) (hlt : k < s.size) (h : c ∉ (s.data.toList.drop f).take (k - f)) (e : (((s[k]).toNat : Int) == (c.toNat : Int)) = false) :
    c ∉ (s.data.toList.drop f).take (k + 1 - f) := by
  have hl : k - f < (s.data.toList.drop f).length := by rw [List.length_drop]; simp; omega
  rw [show k + 1 - f = (k - f) + 1 by omega, List.take_succ_eq_append_getElem hl]
  intro m
  rcases List.mem_append.1 m with m | m
  · exact h m
  · have m2 := List.mem_singleton.1 m
    rw [List.getElem_drop] at m2
    have e3 : s.data.toList[f + (k - f)]? = some s[k] := by rw [show f + (k - f) = k by omega]; exact Lib.Pa.at_eq s k hlt
    rw [List.getElem?_eq_getElem (by simp; omega)] at e3
    have e4 : s[k] = c := by rw [m2]; exact (Option.some.inj e3).symm
    rw [e4] at e; simp at e

theorem ccut_here (c : UInt8) (s : ByteArray) (f k : Nat) (hf : f ≤ k) (hlt : k < s.size) (e : (((s[k]).toNat : Int) == (c.toNat : Int)) = true) :
    s.data.toList.drop f = (s.data.toList.drop f).take (k - f) ++ c :: s.data.toList.drop (k + 1) := by
  have h1 : s.data.toList.drop f = (s.data.toList.drop f).take (k - f) ++ (s.data.toList.drop f).drop (k - f) := (List.take_append_drop _ _).symm
  have h2 : (s.data.toList.drop f).drop (k - f) = s.data.toList.drop k := by rw [List.drop_drop]; congr 1; omega
  have h3 : s.data.toList.drop k = c :: s.data.toList.drop (k + 1) := by
    rw [List.drop_eq_getElem_cons (by simpa using hlt)]
    congr 1
    have e3 := Lib.Pa.at_eq s k hlt
    rw [List.getElem?_eq_getElem (by simpa using hlt)] at e3
    rw [Option.some.inj e3]
    apply UInt8.toNat_inj.1; have := beq_iff_eq.1 e; exact (by omega : (s[k]).toNat = c.toNat)
  rw [h2, h3] at h1
  exact h1

end Go.Proofs.YtfbhjfpkhofifaaDoor
