/- The walk of the document's parse (arbiterref03): the flags that words write, or the error; the world stays. -/
import Derived.Test.YtfbhjfpkhofifaaDoorFlagsText
import Derived.Lib.PathFns
namespace Go.Proofs.YtfbhjfpkhofifaaDoor
open Go.RowKit

theorem run_step (s : List UInt8) (ps : List (Int × List UInt8)) (i : Nat) (p : Int × List UInt8) (h : ps[i]? = some p) (st : Int × Nat) : parRun s (ps.take (i + 1)) st = parStep s (parRun s (ps.take i) st) p := by
  have hlt : i < ps.length := (List.getElem?_eq_some_iff.1 h).1
  rw [List.take_succ_eq_append_getElem hlt]
  rw [List.getElem?_eq_getElem hlt] at h
  rw [Option.some.inj h]
  simp [parRun]

/-- the word that is looked for at a place -/
def wordAt (a : Nat) (wd : List UInt8) : List UInt8 := if 0 < a then 32 :: wd else wd

theorem step_yes {s : List UInt8} {n : Int} {a : Nat} {p : Int × List UInt8} (h1 : a + (wordAt a p.2).length ≤ s.length) (h2 : (s.drop a).take (wordAt a p.2).length = wordAt a p.2)
    (h3 : a + (wordAt a p.2).length = s.length ∨ s[a + (wordAt a p.2).length]? = some 32) : parStep s (n, a) p = (n + p.1, a + (wordAt a p.2).length) := by
  unfold wordAt at *
  unfold parStep
  exact if_pos ⟨h1, h2, h3⟩
theorem step_no {s : List UInt8} {n : Int} {a : Nat} {p : Int × List UInt8} (h : ¬ (a + (wordAt a p.2).length ≤ s.length ∧ (s.drop a).take (wordAt a p.2).length = wordAt a p.2 ∧
    (a + (wordAt a p.2).length = s.length ∨ s[a + (wordAt a p.2).length]? = some 32))) : parStep s (n, a) p = (n, a) := by
  unfold wordAt at h
  unfold parStep
  exact if_neg h

theorem cut_eq (s tw : ByteArray) (a e : Nat) (h : e = a + tw.size) : ((s.extract a e).toList == tw.toList) = decide ((s.data.toList.drop a).take tw.data.toList.length = tw.data.toList) := by
  rw [Lib.toList_data, Lib.toList_data, Lib.extract_data, Bool.eq_iff_iff]
  have e1 : e - a = tw.data.toList.length := by simp; omega
  rw [e1]
  simp

theorem at_byte (s : ByteArray) (e : Nat) (h : e < s.size) : (((s[e]).toNat : Int) == 32) = decide (s.data.toList[e]? = some 32) := by
  rw [Bool.eq_iff_iff]
  have h2 : s.data.toList[e]? = some s[e] := Lib.Pa.at_eq s e h
  rw [h2]
  simp only [beq_iff_eq, decide_eq_true_eq, Option.some.injEq]
  constructor
  · intro q
    have : (s[e]).toNat = (32 : UInt8).toNat := by have := Int.ofNat_inj.1 q; exact this
    exact UInt8.toNat_inj.1 this
  · intro q; rw [q]; rfl

theorem good_cls : ∀ p ∈ clsP, p.2 ≠ [] ∧ p.2.length ≤ 20 ∧ (32 : UInt8) ∉ p.2 := by decide
theorem good_mth : ∀ p ∈ mthP, p.2 ≠ [] ∧ p.2.length ≤ 20 ∧ (32 : UInt8) ∉ p.2 := by decide

end Go.Proofs.YtfbhjfpkhofifaaDoor
