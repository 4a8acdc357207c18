/-
  DERIVED. GIVEN WITH THE SEED: THE CARDS: each row of YtgoncofcmchnjaaGreatDoorRows.lean that lists a variable, with what it lists TIED to the program's text (the seventh form; the later family's looks); each row that meets fmt, with fmt's text TOLD by the authors' own Lean function (tested against real Go, not proved from fmt's source: count such statements apart). THE CARD IS WHAT COUNTS. Prove the row's statement (the work); the ties are given (YtgoncofcmchnjaaGreatDoorTie.lean); close each card by the builder's one call (the guide's Derived/Test/ToyasCard.lean, 'card_holds'). Laid BY PROGRAM, IN A SANDBOX (cutbox-door.mjs). By AI agents, Wed Nov 11 2026. No macro, syntax, notation, axiom, sorry.
-/
import Derived.Test.YtgoncofcmchnjaaGreatDoorRows
import GoSem.ClaimSeven
namespace Go.Proofs.YtgoncofcmchnjaaGreatDoor
namespace Rows

/-- THE TIED CARD OF 'arbiterlaw22.EngineReckons'. -/
def engineReckonsCard : Claim7 := { stood := { row := engineReckonsRow, standIns := [], harness := (true, "d6660324c262f8f1e82ba4baf61d7a7acdc0e706eec43793ee751ac9b1d8bd06"), looks := true }, kinds := [], alts := [], laidByText := true, laidKinds := [.data, .data, .data], laidTests := true, laidLooks := .later }
def EngineReckonsCardSaid : Prop := Claim7.holds Tryz.pinned (.plain (OpenSpec.ofChange engineReckonsSpec)) engineReckonsCard

/-- THE SECOND FORM's CARD OF 'arbiterlaw22.EngineReckons'. -/
def engineReckonsUptoCard : Claim7 := { stood := { row := engineReckonsUptoRow, standIns := [], harness := (true, "d6660324c262f8f1e82ba4baf61d7a7acdc0e706eec43793ee751ac9b1d8bd06"), looks := true }, kinds := [], alts := [], laidByText := true, laidKinds := [.data, .data, .data], laidTests := true, laidLooks := .later }
def EngineReckonsUptoCardSaid : Prop := Claim7.holds Tryz.pinned (.plain (OpenSpec.upto engineReckonsSpec)) engineReckonsUptoCard
end Rows
end Go.Proofs.YtgoncofcmchnjaaGreatDoor
