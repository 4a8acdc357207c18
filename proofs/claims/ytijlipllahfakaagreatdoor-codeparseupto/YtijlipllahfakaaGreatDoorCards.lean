/-
  DERIVED. GIVEN WITH THE SEED: THE CARDS: each row of YtijlipllahfakaaGreatDoorRows.lean that lists a variable, with what it lists TIED to the program's text (the seventh form; the later family's looks); each row that meets fmt, with fmt's text TOLD by the authors' own Lean function (tested against real Go, not proved from fmt's source: count such statements apart). THE CARD IS WHAT COUNTS. Prove the row's statement (the work); the ties are given (YtijlipllahfakaaGreatDoorTie.lean); close each card by the builder's one call (the guide's Derived/Test/ToyasCard.lean, 'card_holds'). Laid BY PROGRAM, IN A SANDBOX (cutbox-door.mjs). By AI agents, Wed Nov 11 2026. No macro, syntax, notation, axiom, sorry.
-/
import Derived.Test.YtijlipllahfakaaGreatDoorRows
import GoSem.ClaimSeven
namespace Go.Proofs.YtijlipllahfakaaGreatDoor
namespace Rows

/-- THE TIED CARD OF 'arbiterlaw04.CodeParse'. -/
def codeParseCard : Claim7 := { stood := { row := codeParseRow, standIns := [], harness := (true, "510f70d09cdfa5c48091055203c518c56f2213ed814d5037a8a86122c7ea4c4a"), looks := true }, kinds := [], alts := [], laidByText := true, laidKinds := [.data, .data, .data, .sentinel, .sentinel, .data], laidTests := true, laidLooks := .later }
def CodeParseCardSaid : Prop := Claim7.holds Tryz.pinned (.plain (OpenSpec.ofChange codeParseSpec)) codeParseCard

/-- THE SECOND FORM's CARD OF 'arbiterlaw04.CodeParse'. -/
def codeParseUptoCard : Claim7 := { stood := { row := codeParseUptoRow, standIns := [], harness := (true, "510f70d09cdfa5c48091055203c518c56f2213ed814d5037a8a86122c7ea4c4a"), looks := true }, kinds := [], alts := [], laidByText := true, laidKinds := [.data, .data, .data, .sentinel, .sentinel, .data], laidTests := true, laidLooks := .later }
def CodeParseUptoCardSaid : Prop := Claim7.holds Tryz.pinned (.plain (OpenSpec.upto codeParseSpec)) codeParseUptoCard
end Rows
end Go.Proofs.YtijlipllahfakaaGreatDoor
