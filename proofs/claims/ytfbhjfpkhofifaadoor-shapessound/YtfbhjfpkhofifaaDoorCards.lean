/-
  DERIVED. GIVEN WITH THE SEED: THE CARDS: each row of YtfbhjfpkhofifaaDoorRows.lean that lists a variable, with what it lists TIED to the program's text (the seventh form; the later family's looks); each row that meets fmt, with fmt's text TOLD by the authors' own Lean function (tested against real Go, not proved from fmt's source: count such statements apart). THE CARD IS WHAT COUNTS. Prove the row's statement (the work); the ties are given (YtfbhjfpkhofifaaDoorTie.lean); close each card by the builder's one call (the guide's Derived/Test/ToyasCard.lean, 'card_holds'). Laid BY PROGRAM, IN A SANDBOX (cutbox-door.mjs). By AI agents, Wed Nov 11 2026. No macro, syntax, notation, axiom, sorry.
-/
import Derived.Test.YtfbhjfpkhofifaaDoorRows
import GoSem.ClaimSeven
namespace Go.Proofs.YtfbhjfpkhofifaaDoor
namespace Rows

/-- THE TIED CARD OF 'arbiterlaw05.ShapesSound'. -/
def shapesSoundCard : Claim7 := { stood := { row := shapesSoundRow, standIns := [], harness := (true, "5cf852fffa798de41516bec743357864b829f0c321a1dddc3c0167e0744b06d3"), looks := false }, kinds := [], alts := [], laidByText := true, laidKinds := [.data, .data, .data, .data, .data], laidTests := true, laidLooks := .later }
def ShapesSoundCardSaid : Prop := Claim7.holds Tryd.pinned (.plain (OpenSpec.ofChange shapesSoundSpec)) shapesSoundCard

/-- THE SECOND FORM's CARD OF 'arbiterlaw05.ShapesSound'. -/
def shapesSoundUptoCard : Claim7 := { stood := { row := shapesSoundUptoRow, standIns := [], harness := (true, "5cf852fffa798de41516bec743357864b829f0c321a1dddc3c0167e0744b06d3"), looks := false }, kinds := [], alts := [], laidByText := true, laidKinds := [.data, .data, .data, .data, .data], laidTests := true, laidLooks := .later }
def ShapesSoundUptoCardSaid : Prop := Claim7.holds Tryd.pinned (.plain (OpenSpec.upto shapesSoundSpec)) shapesSoundUptoCard
end Rows
end Go.Proofs.YtfbhjfpkhofifaaDoor
