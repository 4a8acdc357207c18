/-
  DERIVED. GIVEN WITH THE SEED: THE CARDS: each row of YtdkjapfnilbomaaDoorRows.lean that lists a variable, with what it lists TIED to the program's text (the seventh form; the later family's looks); each row that meets fmt, with fmt's text TOLD by the authors' own Lean function (tested against real Go, not proved from fmt's source: count such statements apart). THE CARD IS WHAT COUNTS. Prove the row's statement (the work); the ties are given (YtdkjapfnilbomaaDoorTie.lean); close each card by the builder's one call (the guide's Derived/Test/ToyasCard.lean, 'card_holds'). Laid BY PROGRAM, IN A SANDBOX (cutbox-door.mjs). By AI agents, Wed Nov 11 2026. No macro, syntax, notation, axiom, sorry.
-/
import Derived.Test.YtdkjapfnilbomaaDoorRows
import GoSem.ClaimSeven
namespace Go.Proofs.YtdkjapfnilbomaaDoor
namespace Rows

/-- THE TIED CARD OF 'arbiterlaw03.FlagsPlays'. -/
def flagsPlaysCard : Claim7 := { stood := { row := flagsPlaysRow, standIns := [], harness := (true, "92655decc1d57e7319509c5613816b229f7c37f9a9a69bf6bc956eab41f7045e"), looks := false }, kinds := [], alts := [], laidByText := true, laidKinds := [.data], laidTests := true, laidLooks := .later }
def FlagsPlaysCardSaid : Prop := Claim7.holds Tryd.pinned (.plain (OpenSpec.ofChange flagsPlaysSpec)) flagsPlaysCard

/-- THE TIED CARD OF 'arbiterlaw03.FlagsParse'. -/
def flagsParseCard : Claim7 := { stood := { row := flagsParseRow, standIns := [], harness := (true, "92655decc1d57e7319509c5613816b229f7c37f9a9a69bf6bc956eab41f7045e"), looks := false }, kinds := [], alts := [], laidByText := true, laidKinds := [.data, .data, .pinned], laidTests := true, laidLooks := .later }
def FlagsParseCardSaid : Prop := Claim7.holds Tryd.pinned (.plain (OpenSpec.ofChange flagsParseSpec)) flagsParseCard

/-- THE TIED CARD OF 'arbiterlaw03.FlagsBack'. -/
def flagsBackCard : Claim7 := { stood := { row := flagsBackRow, standIns := [], harness := (true, "92655decc1d57e7319509c5613816b229f7c37f9a9a69bf6bc956eab41f7045e"), looks := false }, kinds := [], alts := [], laidByText := true, laidKinds := [.data, .data, .pinned], laidTests := true, laidLooks := .later }
def FlagsBackCardSaid : Prop := Claim7.holds Tryd.pinned (.plain (OpenSpec.ofChange flagsBackSpec)) flagsBackCard

/-- THE TIED CARD OF 'arbiterlaw03.FlagsSound'. -/
def flagsSoundCard : Claim7 := { stood := { row := flagsSoundRow, standIns := [], harness := (true, "92655decc1d57e7319509c5613816b229f7c37f9a9a69bf6bc956eab41f7045e"), looks := false }, kinds := [], alts := [], laidByText := true, laidKinds := [.data], laidTests := true, laidLooks := .later }
def FlagsSoundCardSaid : Prop := Claim7.holds Tryd.pinned (.plain (OpenSpec.ofChange flagsSoundSpec)) flagsSoundCard

/-- THE SECOND FORM's CARD OF 'arbiterlaw03.FlagsPlays'. -/
def flagsPlaysUptoCard : Claim7 := { stood := { row := flagsPlaysUptoRow, standIns := [], harness := (true, "92655decc1d57e7319509c5613816b229f7c37f9a9a69bf6bc956eab41f7045e"), looks := false }, kinds := [], alts := [], laidByText := true, laidKinds := [.data], laidTests := true, laidLooks := .later }
def FlagsPlaysUptoCardSaid : Prop := Claim7.holds Tryd.pinned (.plain (OpenSpec.upto flagsPlaysSpec)) flagsPlaysUptoCard

/-- THE SECOND FORM's CARD OF 'arbiterlaw03.FlagsParse'. -/
def flagsParseUptoCard : Claim7 := { stood := { row := flagsParseUptoRow, standIns := [], harness := (true, "92655decc1d57e7319509c5613816b229f7c37f9a9a69bf6bc956eab41f7045e"), looks := false }, kinds := [], alts := [], laidByText := true, laidKinds := [.data, .data, .pinned], laidTests := true, laidLooks := .later }
def FlagsParseUptoCardSaid : Prop := Claim7.holds Tryd.pinned (.plain (OpenSpec.upto flagsParseSpec)) flagsParseUptoCard

/-- THE SECOND FORM's CARD OF 'arbiterlaw03.FlagsBack'. -/
def flagsBackUptoCard : Claim7 := { stood := { row := flagsBackUptoRow, standIns := [], harness := (true, "92655decc1d57e7319509c5613816b229f7c37f9a9a69bf6bc956eab41f7045e"), looks := false }, kinds := [], alts := [], laidByText := true, laidKinds := [.data, .data, .pinned], laidTests := true, laidLooks := .later }
def FlagsBackUptoCardSaid : Prop := Claim7.holds Tryd.pinned (.plain (OpenSpec.upto flagsBackSpec)) flagsBackUptoCard

/-- THE SECOND FORM's CARD OF 'arbiterlaw03.FlagsSound'. -/
def flagsSoundUptoCard : Claim7 := { stood := { row := flagsSoundUptoRow, standIns := [], harness := (true, "92655decc1d57e7319509c5613816b229f7c37f9a9a69bf6bc956eab41f7045e"), looks := false }, kinds := [], alts := [], laidByText := true, laidKinds := [.data], laidTests := true, laidLooks := .later }
def FlagsSoundUptoCardSaid : Prop := Claim7.holds Tryd.pinned (.plain (OpenSpec.upto flagsSoundSpec)) flagsSoundUptoCard
end Rows
end Go.Proofs.YtdkjapfnilbomaaDoor
