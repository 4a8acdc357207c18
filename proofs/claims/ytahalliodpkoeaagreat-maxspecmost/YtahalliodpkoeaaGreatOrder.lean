/- Plain facts: lists held against each other element by element are in an order if the elements are; no Go text is named here. -/
import Derived.Test.YtahalliodpkoeaaGreatShelf
import Derived.Lib.Join
import GoSem.Op.String
namespace Go.Proofs.YtahalliodpkoeaaGreat



/-- a comparison that is an order -/
structure IsCmp {α : Type} (c : α → α → Int) : Prop where
  anti : ∀ a b, c a b = - c b a
  zero : ∀ a b, c a b = 0 ↔ a = b
  trans : ∀ a b d, c a b ≤ 0 → c b d ≤ 0 → c a d ≤ 0
  lo : ∀ a b, -1 ≤ c a b
  hi : ∀ a b, c a b ≤ 1

end Go.Proofs.YtahalliodpkoeaaGreat
