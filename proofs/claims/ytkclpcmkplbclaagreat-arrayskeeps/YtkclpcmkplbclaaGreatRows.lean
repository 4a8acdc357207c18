/-
  No cell of these rows narrows 'for every input' (looked for: loops, veiled, ifaces, maps, wideKeys, modest, calm, conditions, laid).
  DERIVED. THE GIVEN ROWS OF THIS SEAT. 12 by the template 'for every input the law returns true; each argument reads behind the call as it read before'; 0 by the template 'total and deterministic' (their statements: YtkclpcmkplbclaaGreatTotals.lean).
  GIVEN WITH THE SEED: the statements are not yours to turn. If you find one false, say at which input.
  Laid BY PROGRAM, IN A SANDBOX (cutbox-rows.mjs): the forced cells as the released guide's own fill.sh prints them over the translation 7504dfb08711c0d4… (all of the seat's roots in one cut). By AI agents, Wed Nov 11 2026. No macro, syntax, notation, axiom, sorry.
-/
import Derived.Test.YtkclpcmkplbclaaGreatChecked
import GoSem.Claim
import GoSem.ClaimJoined
import GoSem.ClaimMapViews
import Derived.JoinedTies
import Derived.KernelRfl
namespace Go.Proofs.YtkclpcmkplbclaaGreat
/- THE CELL 'sum', in the pinned program and in every row, IS THE sha256 OF THE DUMP (.gsa) THAT YtkclpcmkplbclaaGreatProg.lean LOADS. Nothing in Lean hashes anything: it is a label: what it is worth is what the hold of that sum in a sandbox is worth. -/
noncomputable def Tryz.pinned : Pinned := { name := "ytkclpcmkplbclaagreat", sum := "7504dfb08711c0d4244d17598353dc563aee1119a0190e18bdd08f32c1bafd00", checked := Tryz.checked }
namespace Rows
def none {H : Type} : Left H := { results := [], args := [] }

/-- 'arbiterlaw15.DisplayRule': WHATEVER THE INPUT: true; the input reads as it did. -/
def displayRuleSpec : ChangeSpec := { name := "displayRule", fn := fun _ => fun
  | [d1, d2, d3, d4, d5] => { results := [.lit (.bool true)], args := [d1, d2, d3, d4, d5] }
  | _ => none }
def displayRuleRow : OpenClaim := { program := "ytkclpcmkplbclaagreat", sum := "7504dfb08711c0d4244d17598353dc563aee1119a0190e18bdd08f32c1bafd00", func := "arbiter/arbiterlaw15.DisplayRule", spec := "displayRule", inPlace := ["internal/bytealg.IndexByteString", "internal/bytealg.IndexString"], unfollowed := true, recurses := true, named := ["internal/bytealg.MaxLen"], apart := false }
def DisplayRuleSaid : Prop := displayRuleRow.holds Tryz.pinned (OpenSpec.ofChange displayRuleSpec)

/-- ITS FALSE NEIGHBOUR: 'it returns false'. Refute it at one input. -/
def displayRuleWrong : ChangeSpec := { name := "displayRule", fn := fun _ => fun
  | [d1, d2, d3, d4, d5] => { results := [.lit (.bool false)], args := [d1, d2, d3, d4, d5] }
  | _ => none }
def DisplayRuleWrongFalsely : Prop := displayRuleRow.holds Tryz.pinned (OpenSpec.ofChange displayRuleWrong)

/-- 'arbiterlaw15.DisplayChain': WHATEVER THE INPUT: true; the input reads as it did. -/
def displayChainSpec : ChangeSpec := { name := "displayChain", fn := fun _ => fun
  | [d1, d2] => { results := [.lit (.bool true)], args := [d1, d2] }
  | _ => none }
def displayChainRow : OpenClaim := { program := "ytkclpcmkplbclaagreat", sum := "7504dfb08711c0d4244d17598353dc563aee1119a0190e18bdd08f32c1bafd00", func := "arbiter/arbiterlaw15.DisplayChain", spec := "displayChain", inPlace := ["internal/bytealg.IndexByteString", "internal/bytealg.IndexString"], unfollowed := true, recurses := true, named := ["internal/bytealg.MaxLen"], apart := false }
def DisplayChainSaid : Prop := displayChainRow.holds Tryz.pinned (OpenSpec.ofChange displayChainSpec)

/-- ITS FALSE NEIGHBOUR: 'it returns false'. Refute it at one input. -/
def displayChainWrong : ChangeSpec := { name := "displayChain", fn := fun _ => fun
  | [d1, d2] => { results := [.lit (.bool false)], args := [d1, d2] }
  | _ => none }
def DisplayChainWrongFalsely : Prop := displayChainRow.holds Tryz.pinned (OpenSpec.ofChange displayChainWrong)

/-- 'arbiterlaw15.DisplayTests': WHATEVER THE INPUT: true; the input reads as it did. -/
def displayTestsSpec : ChangeSpec := { name := "displayTests", fn := fun _ => fun
  | [d1, d2, d3] => { results := [.lit (.bool true)], args := [d1, d2, d3] }
  | _ => none }
def displayTestsRow : OpenClaim := { program := "ytkclpcmkplbclaagreat", sum := "7504dfb08711c0d4244d17598353dc563aee1119a0190e18bdd08f32c1bafd00", func := "arbiter/arbiterlaw15.DisplayTests", spec := "displayTests", inPlace := ["internal/bytealg.IndexByteString", "internal/bytealg.IndexString"], unfollowed := true, recurses := true, named := ["internal/bytealg.MaxLen"], apart := false }
def DisplayTestsSaid : Prop := displayTestsRow.holds Tryz.pinned (OpenSpec.ofChange displayTestsSpec)

/-- ITS FALSE NEIGHBOUR: 'it returns false'. Refute it at one input. -/
def displayTestsWrong : ChangeSpec := { name := "displayTests", fn := fun _ => fun
  | [d1, d2, d3] => { results := [.lit (.bool false)], args := [d1, d2, d3] }
  | _ => none }
def DisplayTestsWrongFalsely : Prop := displayTestsRow.holds Tryz.pinned (OpenSpec.ofChange displayTestsWrong)

/-- 'arbiterlaw15.DisplayBuilds': WHATEVER THE INPUT: true; the input reads as it did. -/
def displayBuildsSpec : ChangeSpec := { name := "displayBuilds", fn := fun _ => fun
  | [d1, d2] => { results := [.lit (.bool true)], args := [d1, d2] }
  | _ => none }
def displayBuildsRow : OpenClaim := { program := "ytkclpcmkplbclaagreat", sum := "7504dfb08711c0d4244d17598353dc563aee1119a0190e18bdd08f32c1bafd00", func := "arbiter/arbiterlaw15.DisplayBuilds", spec := "displayBuilds", inPlace := ["internal/bytealg.IndexByteString", "internal/bytealg.IndexString"], unfollowed := true, recurses := true, named := ["internal/bytealg.MaxLen"], apart := false }
def DisplayBuildsSaid : Prop := displayBuildsRow.holds Tryz.pinned (OpenSpec.ofChange displayBuildsSpec)

/-- ITS FALSE NEIGHBOUR: 'it returns false'. Refute it at one input. -/
def displayBuildsWrong : ChangeSpec := { name := "displayBuilds", fn := fun _ => fun
  | [d1, d2] => { results := [.lit (.bool false)], args := [d1, d2] }
  | _ => none }
def DisplayBuildsWrongFalsely : Prop := displayBuildsRow.holds Tryz.pinned (OpenSpec.ofChange displayBuildsWrong)

/-- 'arbiterlaw15.DisplayTypes': WHATEVER THE INPUT: true; the input reads as it did. -/
def displayTypesSpec : ChangeSpec := { name := "displayTypes", fn := fun _ => fun
  | [d1, d2, d3] => { results := [.lit (.bool true)], args := [d1, d2, d3] }
  | _ => none }
def displayTypesRow : OpenClaim := { program := "ytkclpcmkplbclaagreat", sum := "7504dfb08711c0d4244d17598353dc563aee1119a0190e18bdd08f32c1bafd00", func := "arbiter/arbiterlaw15.DisplayTypes", spec := "displayTypes", inPlace := ["internal/bytealg.IndexByteString", "internal/bytealg.IndexString"], unfollowed := true, recurses := true, named := ["internal/bytealg.MaxLen"], apart := false }
def DisplayTypesSaid : Prop := displayTypesRow.holds Tryz.pinned (OpenSpec.ofChange displayTypesSpec)

/-- ITS FALSE NEIGHBOUR: 'it returns false'. Refute it at one input. -/
def displayTypesWrong : ChangeSpec := { name := "displayTypes", fn := fun _ => fun
  | [d1, d2, d3] => { results := [.lit (.bool false)], args := [d1, d2, d3] }
  | _ => none }
def DisplayTypesWrongFalsely : Prop := displayTypesRow.holds Tryz.pinned (OpenSpec.ofChange displayTypesWrong)

/-- 'arbiterlaw15.DisplayKeeps': WHATEVER THE INPUT: true; the input reads as it did. -/
def displayKeepsSpec : ChangeSpec := { name := "displayKeeps", fn := fun _ => fun
  | [d1, d2] => { results := [.lit (.bool true)], args := [d1, d2] }
  | _ => none }
def displayKeepsRow : OpenClaim := { program := "ytkclpcmkplbclaagreat", sum := "7504dfb08711c0d4244d17598353dc563aee1119a0190e18bdd08f32c1bafd00", func := "arbiter/arbiterlaw15.DisplayKeeps", spec := "displayKeeps", inPlace := ["internal/bytealg.IndexByteString", "internal/bytealg.IndexString"], unfollowed := true, recurses := true, named := ["internal/bytealg.MaxLen"], apart := false }
def DisplayKeepsSaid : Prop := displayKeepsRow.holds Tryz.pinned (OpenSpec.ofChange displayKeepsSpec)

/-- ITS FALSE NEIGHBOUR: 'it returns false'. Refute it at one input. -/
def displayKeepsWrong : ChangeSpec := { name := "displayKeeps", fn := fun _ => fun
  | [d1, d2] => { results := [.lit (.bool false)], args := [d1, d2] }
  | _ => none }
def DisplayKeepsWrongFalsely : Prop := displayKeepsRow.holds Tryz.pinned (OpenSpec.ofChange displayKeepsWrong)

/-- 'arbitertop.WholeSubtypes': WHATEVER THE INPUT: true; the input reads as it did. -/
def wholeSubtypesSpec : ChangeSpec := { name := "wholeSubtypes", fn := fun _ => fun
  | [d1, d2] => { results := [.lit (.bool true)], args := [d1, d2] }
  | _ => none }
def wholeSubtypesRow : OpenClaim := { program := "ytkclpcmkplbclaagreat", sum := "7504dfb08711c0d4244d17598353dc563aee1119a0190e18bdd08f32c1bafd00", func := "arbiter/arbitertop.WholeSubtypes", spec := "wholeSubtypes", inPlace := ["internal/bytealg.IndexByteString", "internal/bytealg.IndexString"], unfollowed := true, recurses := true, named := ["internal/bytealg.MaxLen"], apart := false }
def WholeSubtypesSaid : Prop := wholeSubtypesRow.holds Tryz.pinned (OpenSpec.ofChange wholeSubtypesSpec)

/-- ITS FALSE NEIGHBOUR: 'it returns false'. Refute it at one input. -/
def wholeSubtypesWrong : ChangeSpec := { name := "wholeSubtypes", fn := fun _ => fun
  | [d1, d2] => { results := [.lit (.bool false)], args := [d1, d2] }
  | _ => none }
def WholeSubtypesWrongFalsely : Prop := wholeSubtypesRow.holds Tryz.pinned (OpenSpec.ofChange wholeSubtypesWrong)

/-- 'arbiterlaw06.HierAsks': WHATEVER THE INPUT: true; the input reads as it did. -/
def hierAsksSpec : ChangeSpec := { name := "hierAsks", fn := fun _ => fun
  | [d1, d2, d3, d4, d5] => { results := [.lit (.bool true)], args := [d1, d2, d3, d4, d5] }
  | _ => none }
def hierAsksRow : OpenClaim := { program := "ytkclpcmkplbclaagreat", sum := "7504dfb08711c0d4244d17598353dc563aee1119a0190e18bdd08f32c1bafd00", func := "arbiter/arbiterlaw06.HierAsks", spec := "hierAsks", inPlace := ["internal/bytealg.IndexByteString", "internal/bytealg.IndexString"], unfollowed := true, recurses := true, named := ["internal/bytealg.MaxLen"], apart := false }
def HierAsksSaid : Prop := hierAsksRow.holds Tryz.pinned (OpenSpec.ofChange hierAsksSpec)

/-- ITS FALSE NEIGHBOUR: 'it returns false'. Refute it at one input. -/
def hierAsksWrong : ChangeSpec := { name := "hierAsks", fn := fun _ => fun
  | [d1, d2, d3, d4, d5] => { results := [.lit (.bool false)], args := [d1, d2, d3, d4, d5] }
  | _ => none }
def HierAsksWrongFalsely : Prop := hierAsksRow.holds Tryz.pinned (OpenSpec.ofChange hierAsksWrong)

/-- 'arbiterlaw06.HierDefines': WHATEVER THE INPUT: true; the input reads as it did. -/
def hierDefinesSpec : ChangeSpec := { name := "hierDefines", fn := fun _ => fun
  | [d] => { results := [.lit (.bool true)], args := [d] }
  | _ => none }
def hierDefinesRow : OpenClaim := { program := "ytkclpcmkplbclaagreat", sum := "7504dfb08711c0d4244d17598353dc563aee1119a0190e18bdd08f32c1bafd00", func := "arbiter/arbiterlaw06.HierDefines", spec := "hierDefines", inPlace := ["internal/bytealg.IndexByteString", "internal/bytealg.IndexString"], unfollowed := true, recurses := true, named := ["internal/bytealg.MaxLen"], apart := false }
def HierDefinesSaid : Prop := hierDefinesRow.holds Tryz.pinned (OpenSpec.ofChange hierDefinesSpec)

/-- ITS FALSE NEIGHBOUR: 'it returns false'. Refute it at one input. -/
def hierDefinesWrong : ChangeSpec := { name := "hierDefines", fn := fun _ => fun
  | [d] => { results := [.lit (.bool false)], args := [d] }
  | _ => none }
def HierDefinesWrongFalsely : Prop := hierDefinesRow.holds Tryz.pinned (OpenSpec.ofChange hierDefinesWrong)

/-- 'arbiterlaw06.HierGrows': WHATEVER THE INPUT: true; the input reads as it did. -/
def hierGrowsSpec : ChangeSpec := { name := "hierGrows", fn := fun _ => fun
  | [d1, d2] => { results := [.lit (.bool true)], args := [d1, d2] }
  | _ => none }
def hierGrowsRow : OpenClaim := { program := "ytkclpcmkplbclaagreat", sum := "7504dfb08711c0d4244d17598353dc563aee1119a0190e18bdd08f32c1bafd00", func := "arbiter/arbiterlaw06.HierGrows", spec := "hierGrows", inPlace := ["internal/bytealg.IndexByteString", "internal/bytealg.IndexString"], unfollowed := true, recurses := true, named := ["internal/bytealg.MaxLen"], apart := false }
def HierGrowsSaid : Prop := hierGrowsRow.holds Tryz.pinned (OpenSpec.ofChange hierGrowsSpec)

/-- ITS FALSE NEIGHBOUR: 'it returns false'. Refute it at one input. -/
def hierGrowsWrong : ChangeSpec := { name := "hierGrows", fn := fun _ => fun
  | [d1, d2] => { results := [.lit (.bool false)], args := [d1, d2] }
  | _ => none }
def HierGrowsWrongFalsely : Prop := hierGrowsRow.holds Tryz.pinned (OpenSpec.ofChange hierGrowsWrong)

/-- 'arbiterlaw07.ArraysPlays': WHATEVER THE INPUT: true; the input reads as it did. -/
def arraysPlaysSpec : ChangeSpec := { name := "arraysPlays", fn := fun _ => fun
  | [d1, d2, d3] => { results := [.lit (.bool true)], args := [d1, d2, d3] }
  | _ => none }
def arraysPlaysRow : OpenClaim := { program := "ytkclpcmkplbclaagreat", sum := "7504dfb08711c0d4244d17598353dc563aee1119a0190e18bdd08f32c1bafd00", func := "arbiter/arbiterlaw07.ArraysPlays", spec := "arraysPlays", inPlace := ["internal/bytealg.IndexByteString", "internal/bytealg.IndexString"], unfollowed := true, recurses := true, named := ["internal/bytealg.MaxLen"], apart := false }
def ArraysPlaysSaid : Prop := arraysPlaysRow.holds Tryz.pinned (OpenSpec.ofChange arraysPlaysSpec)

/-- ITS FALSE NEIGHBOUR: 'it returns false'. Refute it at one input. -/
def arraysPlaysWrong : ChangeSpec := { name := "arraysPlays", fn := fun _ => fun
  | [d1, d2, d3] => { results := [.lit (.bool false)], args := [d1, d2, d3] }
  | _ => none }
def ArraysPlaysWrongFalsely : Prop := arraysPlaysRow.holds Tryz.pinned (OpenSpec.ofChange arraysPlaysWrong)

/-- 'arbiterlaw07.ArraysKeeps': WHATEVER THE INPUT: true; the input reads as it did. -/
def arraysKeepsSpec : ChangeSpec := { name := "arraysKeeps", fn := fun _ => fun
  | [d1, d2] => { results := [.lit (.bool true)], args := [d1, d2] }
  | _ => none }
def arraysKeepsRow : OpenClaim := { program := "ytkclpcmkplbclaagreat", sum := "7504dfb08711c0d4244d17598353dc563aee1119a0190e18bdd08f32c1bafd00", func := "arbiter/arbiterlaw07.ArraysKeeps", spec := "arraysKeeps", inPlace := ["internal/bytealg.IndexByteString", "internal/bytealg.IndexString"], unfollowed := true, recurses := true, named := ["internal/bytealg.MaxLen"], apart := false }
def ArraysKeepsSaid : Prop := arraysKeepsRow.holds Tryz.pinned (OpenSpec.ofChange arraysKeepsSpec)

/-- ITS FALSE NEIGHBOUR: 'it returns false'. Refute it at one input. -/
def arraysKeepsWrong : ChangeSpec := { name := "arraysKeeps", fn := fun _ => fun
  | [d1, d2] => { results := [.lit (.bool false)], args := [d1, d2] }
  | _ => none }
def ArraysKeepsWrongFalsely : Prop := arraysKeepsRow.holds Tryz.pinned (OpenSpec.ofChange arraysKeepsWrong)

/- THE SECOND FORM. 'bulk': how many values and letters a reading holds, each counted each time it is reached (what is shared counts as often as it is met; a slice's spare places count too). A statement '..UptoSaid' is the law's where the arguments, and the package variables that the reading takes, are together of bulk at most 1048576: NARROWER than '..Said'. Prove '..Said' where nothing that the law and all that it calls make is longer than what came in: it says more and counts as full. Else prove '..UptoSaid'. A law counts once. -/
mutual
def uptoBulk {H : Type} : DataW H → Nat
  | .lit (.string bytes) => bytes.length + 1
  | .lit _ => 1
  | .nil => 1
  | .ptr d => uptoBulk d + 1
  | .slice elems spare => uptoBulkAll elems + uptoBulkAll spare + 1
  | .agg parts => uptoBulkAll parts + 1
  | .iface _ d => uptoBulk d + 1
  | .map entries => uptoBulkEntries entries + 1
  | .held _ => 1
def uptoBulkAll {H : Type} : List (DataW H) → Nat
  | [] => 0
  | d :: r => uptoBulk d + uptoBulkAll r
def uptoBulkEntries {H : Type} : List (Lit × DataW H) → Nat
  | [] => 0
  | x :: r => uptoBulkEntry x + uptoBulkEntries r
def uptoBulkEntry {H : Type} : Lit × DataW H → Nat
  | (.string bytes, d) => bytes.length + uptoBulk d + 1
  | (_, d) => uptoBulk d + 1
 end
def uptoSmall : (H : Type) → List (DataW H) → Bool := fun _ ds => decide (uptoBulkAll ds ≤ 1048576)
def OpenSpec.upto (s : _root_.Go.ChangeSpec) : _root_.Go.OpenSpec := { _root_.Go.OpenSpec.ofChange s with cond := some uptoSmall }

/-- 'arbiterlaw15.DisplayRule', WHERE WHAT IT READS IS OF BULK AT MOST 1048576: true; the input reads as it did. -/
def displayRuleUptoRow : OpenClaim := { program := "ytkclpcmkplbclaagreat", sum := "7504dfb08711c0d4244d17598353dc563aee1119a0190e18bdd08f32c1bafd00", func := "arbiter/arbiterlaw15.DisplayRule", spec := "displayRule", inPlace := ["internal/bytealg.IndexByteString", "internal/bytealg.IndexString"], unfollowed := true, recurses := true, named := ["internal/bytealg.MaxLen"], apart := false, narrowed := true }
def DisplayRuleUptoSaid : Prop := displayRuleUptoRow.holds Tryz.pinned (OpenSpec.upto displayRuleSpec)

/-- 'arbiterlaw15.DisplayChain', WHERE WHAT IT READS IS OF BULK AT MOST 1048576: true; the input reads as it did. -/
def displayChainUptoRow : OpenClaim := { program := "ytkclpcmkplbclaagreat", sum := "7504dfb08711c0d4244d17598353dc563aee1119a0190e18bdd08f32c1bafd00", func := "arbiter/arbiterlaw15.DisplayChain", spec := "displayChain", inPlace := ["internal/bytealg.IndexByteString", "internal/bytealg.IndexString"], unfollowed := true, recurses := true, named := ["internal/bytealg.MaxLen"], apart := false, narrowed := true }
def DisplayChainUptoSaid : Prop := displayChainUptoRow.holds Tryz.pinned (OpenSpec.upto displayChainSpec)

/-- 'arbiterlaw15.DisplayTests', WHERE WHAT IT READS IS OF BULK AT MOST 1048576: true; the input reads as it did. -/
def displayTestsUptoRow : OpenClaim := { program := "ytkclpcmkplbclaagreat", sum := "7504dfb08711c0d4244d17598353dc563aee1119a0190e18bdd08f32c1bafd00", func := "arbiter/arbiterlaw15.DisplayTests", spec := "displayTests", inPlace := ["internal/bytealg.IndexByteString", "internal/bytealg.IndexString"], unfollowed := true, recurses := true, named := ["internal/bytealg.MaxLen"], apart := false, narrowed := true }
def DisplayTestsUptoSaid : Prop := displayTestsUptoRow.holds Tryz.pinned (OpenSpec.upto displayTestsSpec)

/-- 'arbiterlaw15.DisplayBuilds', WHERE WHAT IT READS IS OF BULK AT MOST 1048576: true; the input reads as it did. -/
def displayBuildsUptoRow : OpenClaim := { program := "ytkclpcmkplbclaagreat", sum := "7504dfb08711c0d4244d17598353dc563aee1119a0190e18bdd08f32c1bafd00", func := "arbiter/arbiterlaw15.DisplayBuilds", spec := "displayBuilds", inPlace := ["internal/bytealg.IndexByteString", "internal/bytealg.IndexString"], unfollowed := true, recurses := true, named := ["internal/bytealg.MaxLen"], apart := false, narrowed := true }
def DisplayBuildsUptoSaid : Prop := displayBuildsUptoRow.holds Tryz.pinned (OpenSpec.upto displayBuildsSpec)

/-- 'arbiterlaw15.DisplayTypes', WHERE WHAT IT READS IS OF BULK AT MOST 1048576: true; the input reads as it did. -/
def displayTypesUptoRow : OpenClaim := { program := "ytkclpcmkplbclaagreat", sum := "7504dfb08711c0d4244d17598353dc563aee1119a0190e18bdd08f32c1bafd00", func := "arbiter/arbiterlaw15.DisplayTypes", spec := "displayTypes", inPlace := ["internal/bytealg.IndexByteString", "internal/bytealg.IndexString"], unfollowed := true, recurses := true, named := ["internal/bytealg.MaxLen"], apart := false, narrowed := true }
def DisplayTypesUptoSaid : Prop := displayTypesUptoRow.holds Tryz.pinned (OpenSpec.upto displayTypesSpec)

/-- 'arbiterlaw15.DisplayKeeps', WHERE WHAT IT READS IS OF BULK AT MOST 1048576: true; the input reads as it did. -/
def displayKeepsUptoRow : OpenClaim := { program := "ytkclpcmkplbclaagreat", sum := "7504dfb08711c0d4244d17598353dc563aee1119a0190e18bdd08f32c1bafd00", func := "arbiter/arbiterlaw15.DisplayKeeps", spec := "displayKeeps", inPlace := ["internal/bytealg.IndexByteString", "internal/bytealg.IndexString"], unfollowed := true, recurses := true, named := ["internal/bytealg.MaxLen"], apart := false, narrowed := true }
def DisplayKeepsUptoSaid : Prop := displayKeepsUptoRow.holds Tryz.pinned (OpenSpec.upto displayKeepsSpec)

/-- 'arbitertop.WholeSubtypes', WHERE WHAT IT READS IS OF BULK AT MOST 1048576: true; the input reads as it did. -/
def wholeSubtypesUptoRow : OpenClaim := { program := "ytkclpcmkplbclaagreat", sum := "7504dfb08711c0d4244d17598353dc563aee1119a0190e18bdd08f32c1bafd00", func := "arbiter/arbitertop.WholeSubtypes", spec := "wholeSubtypes", inPlace := ["internal/bytealg.IndexByteString", "internal/bytealg.IndexString"], unfollowed := true, recurses := true, named := ["internal/bytealg.MaxLen"], apart := false, narrowed := true }
def WholeSubtypesUptoSaid : Prop := wholeSubtypesUptoRow.holds Tryz.pinned (OpenSpec.upto wholeSubtypesSpec)

/-- 'arbiterlaw06.HierAsks', WHERE WHAT IT READS IS OF BULK AT MOST 1048576: true; the input reads as it did. -/
def hierAsksUptoRow : OpenClaim := { program := "ytkclpcmkplbclaagreat", sum := "7504dfb08711c0d4244d17598353dc563aee1119a0190e18bdd08f32c1bafd00", func := "arbiter/arbiterlaw06.HierAsks", spec := "hierAsks", inPlace := ["internal/bytealg.IndexByteString", "internal/bytealg.IndexString"], unfollowed := true, recurses := true, named := ["internal/bytealg.MaxLen"], apart := false, narrowed := true }
def HierAsksUptoSaid : Prop := hierAsksUptoRow.holds Tryz.pinned (OpenSpec.upto hierAsksSpec)

/-- 'arbiterlaw06.HierDefines', WHERE WHAT IT READS IS OF BULK AT MOST 1048576: true; the input reads as it did. -/
def hierDefinesUptoRow : OpenClaim := { program := "ytkclpcmkplbclaagreat", sum := "7504dfb08711c0d4244d17598353dc563aee1119a0190e18bdd08f32c1bafd00", func := "arbiter/arbiterlaw06.HierDefines", spec := "hierDefines", inPlace := ["internal/bytealg.IndexByteString", "internal/bytealg.IndexString"], unfollowed := true, recurses := true, named := ["internal/bytealg.MaxLen"], apart := false, narrowed := true }
def HierDefinesUptoSaid : Prop := hierDefinesUptoRow.holds Tryz.pinned (OpenSpec.upto hierDefinesSpec)

/-- 'arbiterlaw06.HierGrows', WHERE WHAT IT READS IS OF BULK AT MOST 1048576: true; the input reads as it did. -/
def hierGrowsUptoRow : OpenClaim := { program := "ytkclpcmkplbclaagreat", sum := "7504dfb08711c0d4244d17598353dc563aee1119a0190e18bdd08f32c1bafd00", func := "arbiter/arbiterlaw06.HierGrows", spec := "hierGrows", inPlace := ["internal/bytealg.IndexByteString", "internal/bytealg.IndexString"], unfollowed := true, recurses := true, named := ["internal/bytealg.MaxLen"], apart := false, narrowed := true }
def HierGrowsUptoSaid : Prop := hierGrowsUptoRow.holds Tryz.pinned (OpenSpec.upto hierGrowsSpec)

/-- 'arbiterlaw07.ArraysPlays', WHERE WHAT IT READS IS OF BULK AT MOST 1048576: true; the input reads as it did. -/
def arraysPlaysUptoRow : OpenClaim := { program := "ytkclpcmkplbclaagreat", sum := "7504dfb08711c0d4244d17598353dc563aee1119a0190e18bdd08f32c1bafd00", func := "arbiter/arbiterlaw07.ArraysPlays", spec := "arraysPlays", inPlace := ["internal/bytealg.IndexByteString", "internal/bytealg.IndexString"], unfollowed := true, recurses := true, named := ["internal/bytealg.MaxLen"], apart := false, narrowed := true }
def ArraysPlaysUptoSaid : Prop := arraysPlaysUptoRow.holds Tryz.pinned (OpenSpec.upto arraysPlaysSpec)

/-- 'arbiterlaw07.ArraysKeeps', WHERE WHAT IT READS IS OF BULK AT MOST 1048576: true; the input reads as it did. -/
def arraysKeepsUptoRow : OpenClaim := { program := "ytkclpcmkplbclaagreat", sum := "7504dfb08711c0d4244d17598353dc563aee1119a0190e18bdd08f32c1bafd00", func := "arbiter/arbiterlaw07.ArraysKeeps", spec := "arraysKeeps", inPlace := ["internal/bytealg.IndexByteString", "internal/bytealg.IndexString"], unfollowed := true, recurses := true, named := ["internal/bytealg.MaxLen"], apart := false, narrowed := true }
def ArraysKeepsUptoSaid : Prop := arraysKeepsUptoRow.holds Tryz.pinned (OpenSpec.upto arraysKeepsSpec)

end Rows
end Go.Proofs.YtkclpcmkplbclaaGreat
