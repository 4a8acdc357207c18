/- Walks of the document's answers of layer 1 (arbiterref01) that read lists: Valid, SameTexts, Compare: each returns what the plain function says; what was there before stays. -/
import Derived.Test.YtfbhjfpkhofifaaGreatDoorJoin
import Derived.Test.YtfbhjfpkhofifaaGreatDoorOrder
import Derived.Deep.QuietTactic
import Derived.BigQuiet
namespace Go.Proofs.YtfbhjfpkhofifaaGreatDoor
open Go.RowKit







theorem same_stop (ps qs : List (List UInt8)) (k : Nat) (p q : List UInt8) (hp : ps[k]? = some p) (hq : qs[k]? = some q) (h : p ≠ q) : decide (ps = qs) = false := by
  simp only [decide_eq_false_iff_not]
  intro e
  rw [e, hq] at hp
  exact h (Option.some.inj hp).symm

theorem same_end (ps qs : List (List UInt8)) (h : ps.length = qs.length) (ht : ps.take ps.length = qs.take ps.length) : decide (ps = qs) = true := by
  rw [List.take_length, h, List.take_length] at ht
  simp [ht]

end Go.Proofs.YtfbhjfpkhofifaaGreatDoor
