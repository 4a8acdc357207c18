/-
  NARROWER THAN 'FOR EVERY INPUT', by the rows' own cells (each row's printed sentence says how): FlagsPlays: laid · FlagsParse: laid · FlagsBack: laid · FlagsSound: laid.
  DERIVED. THE GIVEN ROWS OF THIS SEAT. 4 by the template 'for every input the law returns true; each argument reads behind the call as it read before'; 0 by the template 'total and deterministic' (their statements: YtdkjapfnilbomaaDoorTotals.lean).
  GIVEN WITH THE SEED: the statements are not yours to turn. If you find one false, say at which input.
  Laid BY PROGRAM, IN A SANDBOX (cutbox-rows.mjs): the forced cells as the released guide's own fill.sh prints them over the translation 29a4ce46b791578b… (all of the seat's roots in one cut). By AI agents, Wed Nov 11 2026. No macro, syntax, notation, axiom, sorry.
-/
import Derived.Test.YtdkjapfnilbomaaDoorChecked
import GoSem.PinnedTables
import GoSem.Claim
import GoSem.ClaimJoined
import GoSem.ClaimMapViews
import Derived.JoinedTies
import Derived.KernelRfl
namespace Go.Proofs.YtdkjapfnilbomaaDoor
/- THE CELL 'sum', in the pinned program and in every row, IS THE sha256 OF THE DUMP (.gsa) THAT YtdkjapfnilbomaaDoorProg.lean LOADS. Nothing in Lean hashes anything: it is a label: what it is worth is what the hold of that sum in a sandbox is worth. -/
noncomputable def Tryd.pinned : Pinned := { name := "ytdkjapfnilbomaadoor", sum := "29a4ce46b791578be3dcbc68bcdf3830041ca73c56529578727092a81b8e9b13", checked := Tryd.checked }
namespace Rows
def none {H : Type} : Left H := { results := [], args := [] }

/- WHAT THE LISTED PACKAGE-LEVEL VARIABLES READ AS WHEN THE CALL BEGINS. Each datum BY PROGRAM (the guide's laid-datum.mjs) off the statement by which the dump's own 'gosem.cut.vars' lays the variable. In a bare row this is a premise. The card (YtdkjapfnilbomaaDoorCards.lean) ties it to the program's text. -/
def laid_arbiter_flags_words {H : Type} : DataW H := .agg [.lit (.string [112, 117, 98, 108, 105, 99]), .lit (.string [112, 114, 105, 118, 97, 116, 101]), .lit (.string [112, 114, 111, 116, 101, 99, 116, 101, 100]), .lit (.string [115, 116, 97, 116, 105, 99]), .lit (.string [102, 105, 110, 97, 108]), .lit (.string [115, 117, 112, 101, 114]), .lit (.string []), .lit (.string []), .lit (.string []), .lit (.string [105, 110, 116, 101, 114, 102, 97, 99, 101]), .lit (.string [97, 98, 115, 116, 114, 97, 99, 116])]
def laid_unicode_utf8_acceptRanges {H : Type} : DataW H := .agg [.agg [.lit (.int .u8 128), .lit (.int .u8 191)], .agg [.lit (.int .u8 160), .lit (.int .u8 191)], .agg [.lit (.int .u8 128), .lit (.int .u8 159)], .agg [.lit (.int .u8 144), .lit (.int .u8 191)], .agg [.lit (.int .u8 128), .lit (.int .u8 143)], .agg [.lit (.int .u8 0), .lit (.int .u8 0)], .agg [.lit (.int .u8 0), .lit (.int .u8 0)], .agg [.lit (.int .u8 0), .lit (.int .u8 0)], .agg [.lit (.int .u8 0), .lit (.int .u8 0)], .agg [.lit (.int .u8 0), .lit (.int .u8 0)], .agg [.lit (.int .u8 0), .lit (.int .u8 0)], .agg [.lit (.int .u8 0), .lit (.int .u8 0)], .agg [.lit (.int .u8 0), .lit (.int .u8 0)], .agg [.lit (.int .u8 0), .lit (.int .u8 0)], .agg [.lit (.int .u8 0), .lit (.int .u8 0)], .agg [.lit (.int .u8 0), .lit (.int .u8 0)]]
/-- One of Go's own tables, pinned by name: the form's constant. -/
def laid_unicode_utf8_first : DataW Unit := Go.Pinned.utf8First

/-- 'arbiterlaw03.FlagsPlays': WHATEVER THE INPUT: true; the input reads as it did. -/
def flagsPlaysSpec : ChangeSpec := { name := "flagsPlays", fn := fun _ => fun
  | [d1, d2, d3] => { results := [.lit (.bool true)], args := [d1, d2, d3] }
  | _ => none }
def flagsPlaysRow : OpenClaim := { program := "ytdkjapfnilbomaadoor", sum := "29a4ce46b791578be3dcbc68bcdf3830041ca73c56529578727092a81b8e9b13", func := "arbiter/arbiterlaw03.FlagsPlays", spec := "flagsPlays", inPlace := ["internal/abi.NoEscape", "internal/bytealg.MakeNoZero"], named := ["arbiter/flags.words"], apart := false, laid := [("arbiter/flags.words", laid_arbiter_flags_words)] }
def FlagsPlaysSaid : Prop := flagsPlaysRow.holds Tryd.pinned (OpenSpec.ofChange flagsPlaysSpec)

/-- ITS FALSE NEIGHBOUR: 'it returns false'. Refute it at one input. -/
def flagsPlaysWrong : ChangeSpec := { name := "flagsPlays", fn := fun _ => fun
  | [d1, d2, d3] => { results := [.lit (.bool false)], args := [d1, d2, d3] }
  | _ => none }
def FlagsPlaysWrongFalsely : Prop := flagsPlaysRow.holds Tryd.pinned (OpenSpec.ofChange flagsPlaysWrong)

/-- 'arbiterlaw03.FlagsParse': WHATEVER THE INPUT: true; the input reads as it did. -/
def flagsParseSpec : ChangeSpec := { name := "flagsParse", fn := fun _ => fun
  | [d] => { results := [.lit (.bool true)], args := [d] }
  | _ => none }
def flagsParseRow : OpenClaim := { program := "ytdkjapfnilbomaadoor", sum := "29a4ce46b791578be3dcbc68bcdf3830041ca73c56529578727092a81b8e9b13", func := "arbiter/arbiterlaw03.FlagsParse", spec := "flagsParse", inPlace := ["internal/abi.NoEscape", "internal/bytealg.MakeNoZero", "internal/bytealg.IndexByteString", "internal/bytealg.IndexString"], unfollowed := true, recurses := true, named := ["arbiter/flags.words", "unicode/utf8.first", "unicode/utf8.acceptRanges", "internal/bytealg.MaxLen"], apart := false, laid := [("unicode/utf8.acceptRanges", laid_unicode_utf8_acceptRanges), ("arbiter/flags.words", laid_arbiter_flags_words), ("unicode/utf8.first", laid_unicode_utf8_first)] }
def FlagsParseSaid : Prop := flagsParseRow.holds Tryd.pinned (OpenSpec.ofChange flagsParseSpec)

/-- ITS FALSE NEIGHBOUR: 'it returns false'. Refute it at one input. -/
def flagsParseWrong : ChangeSpec := { name := "flagsParse", fn := fun _ => fun
  | [d] => { results := [.lit (.bool false)], args := [d] }
  | _ => none }
def FlagsParseWrongFalsely : Prop := flagsParseRow.holds Tryd.pinned (OpenSpec.ofChange flagsParseWrong)

/-- 'arbiterlaw03.FlagsBack': WHATEVER THE INPUT: true; the input reads as it did. -/
def flagsBackSpec : ChangeSpec := { name := "flagsBack", fn := fun _ => fun
  | [d1, d2, d3, d4] => { results := [.lit (.bool true)], args := [d1, d2, d3, d4] }
  | _ => none }
def flagsBackRow : OpenClaim := { program := "ytdkjapfnilbomaadoor", sum := "29a4ce46b791578be3dcbc68bcdf3830041ca73c56529578727092a81b8e9b13", func := "arbiter/arbiterlaw03.FlagsBack", spec := "flagsBack", inPlace := ["internal/abi.NoEscape", "internal/bytealg.MakeNoZero", "internal/bytealg.IndexByteString", "internal/bytealg.IndexString"], unfollowed := true, recurses := true, named := ["arbiter/flags.words", "unicode/utf8.first", "unicode/utf8.acceptRanges", "internal/bytealg.MaxLen"], apart := false, laid := [("unicode/utf8.acceptRanges", laid_unicode_utf8_acceptRanges), ("arbiter/flags.words", laid_arbiter_flags_words), ("unicode/utf8.first", laid_unicode_utf8_first)] }
def FlagsBackSaid : Prop := flagsBackRow.holds Tryd.pinned (OpenSpec.ofChange flagsBackSpec)

/-- ITS FALSE NEIGHBOUR: 'it returns false'. Refute it at one input. -/
def flagsBackWrong : ChangeSpec := { name := "flagsBack", fn := fun _ => fun
  | [d1, d2, d3, d4] => { results := [.lit (.bool false)], args := [d1, d2, d3, d4] }
  | _ => none }
def FlagsBackWrongFalsely : Prop := flagsBackRow.holds Tryd.pinned (OpenSpec.ofChange flagsBackWrong)

/-- 'arbiterlaw03.FlagsSound': WHATEVER THE INPUT: true; the input reads as it did. -/
def flagsSoundSpec : ChangeSpec := { name := "flagsSound", fn := fun _ => fun
  | [d1, d2] => { results := [.lit (.bool true)], args := [d1, d2] }
  | _ => none }
def flagsSoundRow : OpenClaim := { program := "ytdkjapfnilbomaadoor", sum := "29a4ce46b791578be3dcbc68bcdf3830041ca73c56529578727092a81b8e9b13", func := "arbiter/arbiterlaw03.FlagsSound", spec := "flagsSound", inPlace := ["internal/abi.NoEscape", "internal/bytealg.MakeNoZero"], named := ["arbiter/flags.words"], apart := false, laid := [("arbiter/flags.words", laid_arbiter_flags_words)] }
def FlagsSoundSaid : Prop := flagsSoundRow.holds Tryd.pinned (OpenSpec.ofChange flagsSoundSpec)

/-- ITS FALSE NEIGHBOUR: 'it returns false'. Refute it at one input. -/
def flagsSoundWrong : ChangeSpec := { name := "flagsSound", fn := fun _ => fun
  | [d1, d2] => { results := [.lit (.bool false)], args := [d1, d2] }
  | _ => none }
def FlagsSoundWrongFalsely : Prop := flagsSoundRow.holds Tryd.pinned (OpenSpec.ofChange flagsSoundWrong)

/- THE SECOND FORM. 'bulk': how many values and letters a reading holds, each counted each time it is reached (what is shared counts as often as it is met; a slice's spare places count too). A statement '..UptoSaid' is the law's where the arguments, and the package variables that the reading takes, are together of bulk at most 1048576: NARROWER than '..Said'. Prove '..Said' where nothing that the law and all that it calls make is longer than what came in: it says more and counts as full. Else prove '..UptoSaid'. A law counts once. -/
mutual
def uptoBulk {H : Type} : DataW H → Nat
  | .lit (.string bytes) => bytes.length + 1
  | .lit _ => 1
  | .nil => 1
  | .ptr d => uptoBulk d + 1
  | .slice elems spare => uptoBulkAll elems + uptoBulkAll spare + 1
  | .agg parts => uptoBulkAll parts + 1
  | .iface _ d => uptoBulk d + 1
  | .map entries => uptoBulkEntries entries + 1
  | .held _ => 1
def uptoBulkAll {H : Type} : List (DataW H) → Nat
  | [] => 0
  | d :: r => uptoBulk d + uptoBulkAll r
def uptoBulkEntries {H : Type} : List (Lit × DataW H) → Nat
  | [] => 0
  | x :: r => uptoBulkEntry x + uptoBulkEntries r
def uptoBulkEntry {H : Type} : Lit × DataW H → Nat
  | (.string bytes, d) => bytes.length + uptoBulk d + 1
  | (_, d) => uptoBulk d + 1
 end
def uptoSmall : (H : Type) → List (DataW H) → Bool := fun _ ds => decide (uptoBulkAll ds ≤ 1048576)
def OpenSpec.upto (s : _root_.Go.ChangeSpec) : _root_.Go.OpenSpec := { _root_.Go.OpenSpec.ofChange s with cond := some uptoSmall }

/-- 'arbiterlaw03.FlagsPlays', WHERE WHAT IT READS IS OF BULK AT MOST 1048576: true; the input reads as it did. -/
def flagsPlaysUptoRow : OpenClaim := { program := "ytdkjapfnilbomaadoor", sum := "29a4ce46b791578be3dcbc68bcdf3830041ca73c56529578727092a81b8e9b13", func := "arbiter/arbiterlaw03.FlagsPlays", spec := "flagsPlays", inPlace := ["internal/abi.NoEscape", "internal/bytealg.MakeNoZero"], named := ["arbiter/flags.words"], apart := false, laid := [("arbiter/flags.words", laid_arbiter_flags_words)], narrowed := true }
def FlagsPlaysUptoSaid : Prop := flagsPlaysUptoRow.holds Tryd.pinned (OpenSpec.upto flagsPlaysSpec)

/-- 'arbiterlaw03.FlagsParse', WHERE WHAT IT READS IS OF BULK AT MOST 1048576: true; the input reads as it did. -/
def flagsParseUptoRow : OpenClaim := { program := "ytdkjapfnilbomaadoor", sum := "29a4ce46b791578be3dcbc68bcdf3830041ca73c56529578727092a81b8e9b13", func := "arbiter/arbiterlaw03.FlagsParse", spec := "flagsParse", inPlace := ["internal/abi.NoEscape", "internal/bytealg.MakeNoZero", "internal/bytealg.IndexByteString", "internal/bytealg.IndexString"], unfollowed := true, recurses := true, named := ["arbiter/flags.words", "unicode/utf8.first", "unicode/utf8.acceptRanges", "internal/bytealg.MaxLen"], apart := false, laid := [("unicode/utf8.acceptRanges", laid_unicode_utf8_acceptRanges), ("arbiter/flags.words", laid_arbiter_flags_words), ("unicode/utf8.first", laid_unicode_utf8_first)], narrowed := true }
def FlagsParseUptoSaid : Prop := flagsParseUptoRow.holds Tryd.pinned (OpenSpec.upto flagsParseSpec)

/-- 'arbiterlaw03.FlagsBack', WHERE WHAT IT READS IS OF BULK AT MOST 1048576: true; the input reads as it did. -/
def flagsBackUptoRow : OpenClaim := { program := "ytdkjapfnilbomaadoor", sum := "29a4ce46b791578be3dcbc68bcdf3830041ca73c56529578727092a81b8e9b13", func := "arbiter/arbiterlaw03.FlagsBack", spec := "flagsBack", inPlace := ["internal/abi.NoEscape", "internal/bytealg.MakeNoZero", "internal/bytealg.IndexByteString", "internal/bytealg.IndexString"], unfollowed := true, recurses := true, named := ["arbiter/flags.words", "unicode/utf8.first", "unicode/utf8.acceptRanges", "internal/bytealg.MaxLen"], apart := false, laid := [("unicode/utf8.acceptRanges", laid_unicode_utf8_acceptRanges), ("arbiter/flags.words", laid_arbiter_flags_words), ("unicode/utf8.first", laid_unicode_utf8_first)], narrowed := true }
def FlagsBackUptoSaid : Prop := flagsBackUptoRow.holds Tryd.pinned (OpenSpec.upto flagsBackSpec)

/-- 'arbiterlaw03.FlagsSound', WHERE WHAT IT READS IS OF BULK AT MOST 1048576: true; the input reads as it did. -/
def flagsSoundUptoRow : OpenClaim := { program := "ytdkjapfnilbomaadoor", sum := "29a4ce46b791578be3dcbc68bcdf3830041ca73c56529578727092a81b8e9b13", func := "arbiter/arbiterlaw03.FlagsSound", spec := "flagsSound", inPlace := ["internal/abi.NoEscape", "internal/bytealg.MakeNoZero"], named := ["arbiter/flags.words"], apart := false, laid := [("arbiter/flags.words", laid_arbiter_flags_words)], narrowed := true }
def FlagsSoundUptoSaid : Prop := flagsSoundUptoRow.holds Tryd.pinned (OpenSpec.upto flagsSoundSpec)

end Rows
end Go.Proofs.YtdkjapfnilbomaaDoor
