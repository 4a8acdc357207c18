/- Walks of slices.IndexFunc and ContainsFunc at isDeep over a list of types; of package types' ParseDesc and Args; what was there before stays. -/
import Derived.Test.YtfoldbhlmmmpeaaGreatRefLists
import Derived.Test.YtfoldbhlmmmpeaaGreatTypesPure
import Derived.Laws.IdiomStrings
import Derived.ArgAppend
import Derived.Deep.RegionWith
import Derived.Deep.QuietTactic
import Derived.BigQuiet
import Derived.Deep.LoopGhost
import Derived.WalkMore
namespace Go.Proofs.YtfoldbhlmmmpeaaGreat
open Go.RowKit

theorem Below.step {w w1 w2 : World} (h1 : Below w.heap.size w w1) (h2 : Below w1.heap.size w1 w2) : Below w.heap.size w w2 := h1.trans (h2.mono h1.size)











/-- a region that draws its order, walked once in the text's order, over worlds of one kind that all its operations keep -/
theorem wp_region_class {P : Program} {C : World → Prop} {id : Nat} {Q : Exit → Act → World → Prop} {a : Act} {w : World} {l : List Oper} (hm : P.follows .mixedOrders = true) (hB : Region.lexB .any l.toArray = true) (hC : C { w with drawn := w.drawn + 1 })
    (h : wpQuiet P l.toArray C (fun a' => ∀ w', C w' → Q .normal a' w') l a) : (Code.region id l.toArray true).wp P Q a w :=
  wp_region_quiet (C := C) hm hB hC (by simpa using h)

















end Go.Proofs.YtfoldbhlmmmpeaaGreat
