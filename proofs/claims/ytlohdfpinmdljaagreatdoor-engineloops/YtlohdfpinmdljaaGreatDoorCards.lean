/-
  DERIVED. GIVEN WITH THE SEED: THE CARDS: each row of YtlohdfpinmdljaaGreatDoorRows.lean that lists a variable, with what it lists TIED to the program's text (the seventh form; the later family's looks); each row that meets fmt, with fmt's text TOLD by the authors' own Lean function (tested against real Go, not proved from fmt's source: count such statements apart). THE CARD IS WHAT COUNTS. Prove the row's statement (the work); the ties are given (YtlohdfpinmdljaaGreatDoorTie.lean); close each card by the builder's one call (the guide's Derived/Test/ToyasCard.lean, 'card_holds'). Laid BY PROGRAM, IN A SANDBOX (cutbox-door.mjs). By AI agents, Wed Nov 11 2026. No macro, syntax, notation, axiom, sorry.
-/
import Derived.Test.YtlohdfpinmdljaaGreatDoorRows
import GoSem.ClaimSeven
namespace Go.Proofs.YtlohdfpinmdljaaGreatDoor
namespace Rows

/-- THE TIED CARD OF 'arbiterlaw22.EngineLoops'. -/
def engineLoopsCard : Claim7 := { stood := { row := engineLoopsRow, standIns := [], harness := (true, "9133d754de3f25c70baa7f2feafc6efd1d6e66cbb808fdfe16f2c3b781fad6a2"), looks := true }, kinds := [], alts := [], laidByText := true, laidKinds := [.data, .data, .data], laidTests := true, laidLooks := .later }
def EngineLoopsCardSaid : Prop := Claim7.holds Tryz.pinned (.plain (OpenSpec.ofChange engineLoopsSpec)) engineLoopsCard

/-- THE SECOND FORM's CARD OF 'arbiterlaw22.EngineLoops'. -/
def engineLoopsUptoCard : Claim7 := { stood := { row := engineLoopsUptoRow, standIns := [], harness := (true, "9133d754de3f25c70baa7f2feafc6efd1d6e66cbb808fdfe16f2c3b781fad6a2"), looks := true }, kinds := [], alts := [], laidByText := true, laidKinds := [.data, .data, .data], laidTests := true, laidLooks := .later }
def EngineLoopsUptoCardSaid : Prop := Claim7.holds Tryz.pinned (.plain (OpenSpec.upto engineLoopsSpec)) engineLoopsUptoCard
end Rows
end Go.Proofs.YtlohdfpinmdljaaGreatDoor
