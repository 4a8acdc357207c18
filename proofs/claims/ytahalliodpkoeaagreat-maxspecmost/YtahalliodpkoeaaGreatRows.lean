/-
  No cell of these rows narrows 'for every input' (looked for: loops, veiled, ifaces, maps, wideKeys, modest, calm, conditions, laid).
  DERIVED. THE GIVEN ROWS OF THIS SEAT. 12 by the template 'for every input the law returns true; each argument reads behind the call as it read before'; 0 by the template 'total and deterministic' (their statements: YtahalliodpkoeaaGreatTotals.lean).
  GIVEN WITH THE SEED: the statements are not yours to turn. If you find one false, say at which input.
  Laid BY PROGRAM, IN A SANDBOX (cutbox-rows.mjs): the forced cells as the released guide's own fill.sh prints them over the translation 7e71b5c1c2a1cd47… (all of the seat's roots in one cut). By AI agents, Wed Nov 11 2026. No macro, syntax, notation, axiom, sorry.
-/
import Derived.Test.YtahalliodpkoeaaGreatChecked
import GoSem.Claim
import GoSem.ClaimJoined
import GoSem.ClaimMapViews
import Derived.JoinedTies
import Derived.KernelRfl
namespace Go.Proofs.YtahalliodpkoeaaGreat
/- THE CELL 'sum', in the pinned program and in every row, IS THE sha256 OF THE DUMP (.gsa) THAT YtahalliodpkoeaaGreatProg.lean LOADS. Nothing in Lean hashes anything: it is a label: what it is worth is what the hold of that sum in a sandbox is worth. -/
noncomputable def Tryz.pinned : Pinned := { name := "ytahalliodpkoeaagreat", sum := "7e71b5c1c2a1cd476219e5c99ab80b8a3d29f0f606896a64f42639299cf293b8", checked := Tryz.checked }
namespace Rows
def none {H : Type} : Left H := { results := [], args := [] }

/-- 'arbiterlaw06.HierDefines': WHATEVER THE INPUT: true; the input reads as it did. -/
def hierDefinesSpec : ChangeSpec := { name := "hierDefines", fn := fun _ => fun
  | [d] => { results := [.lit (.bool true)], args := [d] }
  | _ => none }
def hierDefinesRow : OpenClaim := { program := "ytahalliodpkoeaagreat", sum := "7e71b5c1c2a1cd476219e5c99ab80b8a3d29f0f606896a64f42639299cf293b8", func := "arbiter/arbiterlaw06.HierDefines", spec := "hierDefines", inPlace := ["internal/bytealg.IndexByteString", "internal/bytealg.IndexString"], unfollowed := true, recurses := true, named := ["internal/bytealg.MaxLen"], apart := false }
def HierDefinesSaid : Prop := hierDefinesRow.holds Tryz.pinned (OpenSpec.ofChange hierDefinesSpec)

/-- ITS FALSE NEIGHBOUR: 'it returns false'. Refute it at one input. -/
def hierDefinesWrong : ChangeSpec := { name := "hierDefines", fn := fun _ => fun
  | [d] => { results := [.lit (.bool false)], args := [d] }
  | _ => none }
def HierDefinesWrongFalsely : Prop := hierDefinesRow.holds Tryz.pinned (OpenSpec.ofChange hierDefinesWrong)

/-- 'arbiterlaw06.HierAsks': WHATEVER THE INPUT: true; the input reads as it did. -/
def hierAsksSpec : ChangeSpec := { name := "hierAsks", fn := fun _ => fun
  | [d1, d2, d3, d4, d5] => { results := [.lit (.bool true)], args := [d1, d2, d3, d4, d5] }
  | _ => none }
def hierAsksRow : OpenClaim := { program := "ytahalliodpkoeaagreat", sum := "7e71b5c1c2a1cd476219e5c99ab80b8a3d29f0f606896a64f42639299cf293b8", func := "arbiter/arbiterlaw06.HierAsks", spec := "hierAsks", inPlace := ["internal/bytealg.IndexByteString", "internal/bytealg.IndexString"], unfollowed := true, recurses := true, named := ["internal/bytealg.MaxLen"], apart := false }
def HierAsksSaid : Prop := hierAsksRow.holds Tryz.pinned (OpenSpec.ofChange hierAsksSpec)

/-- ITS FALSE NEIGHBOUR: 'it returns false'. Refute it at one input. -/
def hierAsksWrong : ChangeSpec := { name := "hierAsks", fn := fun _ => fun
  | [d1, d2, d3, d4, d5] => { results := [.lit (.bool false)], args := [d1, d2, d3, d4, d5] }
  | _ => none }
def HierAsksWrongFalsely : Prop := hierAsksRow.holds Tryz.pinned (OpenSpec.ofChange hierAsksWrong)

/-- 'arbiterlaw06.HierGrows': WHATEVER THE INPUT: true; the input reads as it did. -/
def hierGrowsSpec : ChangeSpec := { name := "hierGrows", fn := fun _ => fun
  | [d1, d2] => { results := [.lit (.bool true)], args := [d1, d2] }
  | _ => none }
def hierGrowsRow : OpenClaim := { program := "ytahalliodpkoeaagreat", sum := "7e71b5c1c2a1cd476219e5c99ab80b8a3d29f0f606896a64f42639299cf293b8", func := "arbiter/arbiterlaw06.HierGrows", spec := "hierGrows", inPlace := ["internal/bytealg.IndexByteString", "internal/bytealg.IndexString"], unfollowed := true, recurses := true, named := ["internal/bytealg.MaxLen"], apart := false }
def HierGrowsSaid : Prop := hierGrowsRow.holds Tryz.pinned (OpenSpec.ofChange hierGrowsSpec)

/-- ITS FALSE NEIGHBOUR: 'it returns false'. Refute it at one input. -/
def hierGrowsWrong : ChangeSpec := { name := "hierGrows", fn := fun _ => fun
  | [d1, d2] => { results := [.lit (.bool false)], args := [d1, d2] }
  | _ => none }
def HierGrowsWrongFalsely : Prop := hierGrowsRow.holds Tryz.pinned (OpenSpec.ofChange hierGrowsWrong)

/-- 'arbiterlaw07.ArraysSub': WHATEVER THE INPUT: true; the input reads as it did. -/
def arraysSubSpec : ChangeSpec := { name := "arraysSub", fn := fun _ => fun
  | [d1, d2, d3] => { results := [.lit (.bool true)], args := [d1, d2, d3] }
  | _ => none }
def arraysSubRow : OpenClaim := { program := "ytahalliodpkoeaagreat", sum := "7e71b5c1c2a1cd476219e5c99ab80b8a3d29f0f606896a64f42639299cf293b8", func := "arbiter/arbiterlaw07.ArraysSub", spec := "arraysSub", inPlace := ["internal/bytealg.IndexByteString", "internal/bytealg.IndexString"], unfollowed := true, recurses := true, named := ["internal/bytealg.MaxLen"], apart := false }
def ArraysSubSaid : Prop := arraysSubRow.holds Tryz.pinned (OpenSpec.ofChange arraysSubSpec)

/-- ITS FALSE NEIGHBOUR: 'it returns false'. Refute it at one input. -/
def arraysSubWrong : ChangeSpec := { name := "arraysSub", fn := fun _ => fun
  | [d1, d2, d3] => { results := [.lit (.bool false)], args := [d1, d2, d3] }
  | _ => none }
def ArraysSubWrongFalsely : Prop := arraysSubRow.holds Tryz.pinned (OpenSpec.ofChange arraysSubWrong)

/-- 'arbiterlaw07.ArraysPlays': WHATEVER THE INPUT: true; the input reads as it did. -/
def arraysPlaysSpec : ChangeSpec := { name := "arraysPlays", fn := fun _ => fun
  | [d1, d2, d3] => { results := [.lit (.bool true)], args := [d1, d2, d3] }
  | _ => none }
def arraysPlaysRow : OpenClaim := { program := "ytahalliodpkoeaagreat", sum := "7e71b5c1c2a1cd476219e5c99ab80b8a3d29f0f606896a64f42639299cf293b8", func := "arbiter/arbiterlaw07.ArraysPlays", spec := "arraysPlays", inPlace := ["internal/bytealg.IndexByteString", "internal/bytealg.IndexString"], unfollowed := true, recurses := true, named := ["internal/bytealg.MaxLen"], apart := false }
def ArraysPlaysSaid : Prop := arraysPlaysRow.holds Tryz.pinned (OpenSpec.ofChange arraysPlaysSpec)

/-- ITS FALSE NEIGHBOUR: 'it returns false'. Refute it at one input. -/
def arraysPlaysWrong : ChangeSpec := { name := "arraysPlays", fn := fun _ => fun
  | [d1, d2, d3] => { results := [.lit (.bool false)], args := [d1, d2, d3] }
  | _ => none }
def ArraysPlaysWrongFalsely : Prop := arraysPlaysRow.holds Tryz.pinned (OpenSpec.ofChange arraysPlaysWrong)

/-- 'arbiterlaw08.AccessClasses': WHATEVER THE INPUT: true; the input reads as it did. -/
def accessClassesSpec : ChangeSpec := { name := "accessClasses", fn := fun _ => fun
  | [d1, d2, d3, d4] => { results := [.lit (.bool true)], args := [d1, d2, d3, d4] }
  | _ => none }
def accessClassesRow : OpenClaim := { program := "ytahalliodpkoeaagreat", sum := "7e71b5c1c2a1cd476219e5c99ab80b8a3d29f0f606896a64f42639299cf293b8", func := "arbiter/arbiterlaw08.AccessClasses", spec := "accessClasses", inPlace := ["internal/bytealg.IndexByteString", "internal/bytealg.IndexString"], unfollowed := true, recurses := true, named := ["internal/bytealg.MaxLen"], apart := false }
def AccessClassesSaid : Prop := accessClassesRow.holds Tryz.pinned (OpenSpec.ofChange accessClassesSpec)

/-- ITS FALSE NEIGHBOUR: 'it returns false'. Refute it at one input. -/
def accessClassesWrong : ChangeSpec := { name := "accessClasses", fn := fun _ => fun
  | [d1, d2, d3, d4] => { results := [.lit (.bool false)], args := [d1, d2, d3, d4] }
  | _ => none }
def AccessClassesWrongFalsely : Prop := accessClassesRow.holds Tryz.pinned (OpenSpec.ofChange accessClassesWrong)

/-- 'arbiterlaw08.AccessMethods': WHATEVER THE INPUT: true; the input reads as it did. -/
def accessMethodsSpec : ChangeSpec := { name := "accessMethods", fn := fun _ => fun
  | [d1, d2, d3, d4] => { results := [.lit (.bool true)], args := [d1, d2, d3, d4] }
  | _ => none }
def accessMethodsRow : OpenClaim := { program := "ytahalliodpkoeaagreat", sum := "7e71b5c1c2a1cd476219e5c99ab80b8a3d29f0f606896a64f42639299cf293b8", func := "arbiter/arbiterlaw08.AccessMethods", spec := "accessMethods", inPlace := ["internal/bytealg.IndexByteString", "internal/bytealg.IndexString"], unfollowed := true, recurses := true, named := ["internal/bytealg.MaxLen"], apart := false }
def AccessMethodsSaid : Prop := accessMethodsRow.holds Tryz.pinned (OpenSpec.ofChange accessMethodsSpec)

/-- ITS FALSE NEIGHBOUR: 'it returns false'. Refute it at one input. -/
def accessMethodsWrong : ChangeSpec := { name := "accessMethods", fn := fun _ => fun
  | [d1, d2, d3, d4] => { results := [.lit (.bool false)], args := [d1, d2, d3, d4] }
  | _ => none }
def AccessMethodsWrongFalsely : Prop := accessMethodsRow.holds Tryz.pinned (OpenSpec.ofChange accessMethodsWrong)

/-- 'arbiterlaw09.OverridePairs': WHATEVER THE INPUT: true; the input reads as it did. -/
def overridePairsSpec : ChangeSpec := { name := "overridePairs", fn := fun _ => fun
  | [d1, d2, d3] => { results := [.lit (.bool true)], args := [d1, d2, d3] }
  | _ => none }
def overridePairsRow : OpenClaim := { program := "ytahalliodpkoeaagreat", sum := "7e71b5c1c2a1cd476219e5c99ab80b8a3d29f0f606896a64f42639299cf293b8", func := "arbiter/arbiterlaw09.OverridePairs", spec := "overridePairs", inPlace := ["internal/bytealg.IndexByteString", "internal/bytealg.IndexString"], unfollowed := true, recurses := true, named := ["internal/bytealg.MaxLen"], apart := false }
def OverridePairsSaid : Prop := overridePairsRow.holds Tryz.pinned (OpenSpec.ofChange overridePairsSpec)

/-- ITS FALSE NEIGHBOUR: 'it returns false'. Refute it at one input. -/
def overridePairsWrong : ChangeSpec := { name := "overridePairs", fn := fun _ => fun
  | [d1, d2, d3] => { results := [.lit (.bool false)], args := [d1, d2, d3] }
  | _ => none }
def OverridePairsWrongFalsely : Prop := overridePairsRow.holds Tryz.pinned (OpenSpec.ofChange overridePairsWrong)

/-- 'arbiterlaw09.OverrideFirst': WHATEVER THE INPUT: true; the input reads as it did. -/
def overrideFirstSpec : ChangeSpec := { name := "overrideFirst", fn := fun _ => fun
  | [d1, d2, d3] => { results := [.lit (.bool true)], args := [d1, d2, d3] }
  | _ => none }
def overrideFirstRow : OpenClaim := { program := "ytahalliodpkoeaagreat", sum := "7e71b5c1c2a1cd476219e5c99ab80b8a3d29f0f606896a64f42639299cf293b8", func := "arbiter/arbiterlaw09.OverrideFirst", spec := "overrideFirst", inPlace := ["internal/bytealg.IndexByteString", "internal/bytealg.IndexString"], unfollowed := true, recurses := true, named := ["internal/bytealg.MaxLen"], apart := false }
def OverrideFirstSaid : Prop := overrideFirstRow.holds Tryz.pinned (OpenSpec.ofChange overrideFirstSpec)

/-- ITS FALSE NEIGHBOUR: 'it returns false'. Refute it at one input. -/
def overrideFirstWrong : ChangeSpec := { name := "overrideFirst", fn := fun _ => fun
  | [d1, d2, d3] => { results := [.lit (.bool false)], args := [d1, d2, d3] }
  | _ => none }
def OverrideFirstWrongFalsely : Prop := overrideFirstRow.holds Tryz.pinned (OpenSpec.ofChange overrideFirstWrong)

/-- 'arbiterlaw09.OverrideOrder': WHATEVER THE INPUT: true; the input reads as it did. -/
def overrideOrderSpec : ChangeSpec := { name := "overrideOrder", fn := fun _ => fun
  | [d1, d2, d3, d4] => { results := [.lit (.bool true)], args := [d1, d2, d3, d4] }
  | _ => none }
def overrideOrderRow : OpenClaim := { program := "ytahalliodpkoeaagreat", sum := "7e71b5c1c2a1cd476219e5c99ab80b8a3d29f0f606896a64f42639299cf293b8", func := "arbiter/arbiterlaw09.OverrideOrder", spec := "overrideOrder", inPlace := ["internal/bytealg.IndexByteString", "internal/bytealg.IndexString"], unfollowed := true, recurses := true, named := ["internal/bytealg.MaxLen"], apart := false }
def OverrideOrderSaid : Prop := overrideOrderRow.holds Tryz.pinned (OpenSpec.ofChange overrideOrderSpec)

/-- ITS FALSE NEIGHBOUR: 'it returns false'. Refute it at one input. -/
def overrideOrderWrong : ChangeSpec := { name := "overrideOrder", fn := fun _ => fun
  | [d1, d2, d3, d4] => { results := [.lit (.bool false)], args := [d1, d2, d3, d4] }
  | _ => none }
def OverrideOrderWrongFalsely : Prop := overrideOrderRow.holds Tryz.pinned (OpenSpec.ofChange overrideOrderWrong)

/-- 'arbiterlaw10.MaxspecMost': WHATEVER THE INPUT: true; the input reads as it did. -/
def maxspecMostSpec : ChangeSpec := { name := "maxspecMost", fn := fun _ => fun
  | [d1, d2, d3, d4] => { results := [.lit (.bool true)], args := [d1, d2, d3, d4] }
  | _ => none }
def maxspecMostRow : OpenClaim := { program := "ytahalliodpkoeaagreat", sum := "7e71b5c1c2a1cd476219e5c99ab80b8a3d29f0f606896a64f42639299cf293b8", func := "arbiter/arbiterlaw10.MaxspecMost", spec := "maxspecMost", inPlace := ["internal/bytealg.IndexByteString", "internal/bytealg.IndexString"], unfollowed := true, recurses := true, named := ["internal/bytealg.MaxLen"], apart := false }
def MaxspecMostSaid : Prop := maxspecMostRow.holds Tryz.pinned (OpenSpec.ofChange maxspecMostSpec)

/-- ITS FALSE NEIGHBOUR: 'it returns false'. Refute it at one input. -/
def maxspecMostWrong : ChangeSpec := { name := "maxspecMost", fn := fun _ => fun
  | [d1, d2, d3, d4] => { results := [.lit (.bool false)], args := [d1, d2, d3, d4] }
  | _ => none }
def MaxspecMostWrongFalsely : Prop := maxspecMostRow.holds Tryz.pinned (OpenSpec.ofChange maxspecMostWrong)

/-- 'arbiterlaw10.MaxspecBelow': WHATEVER THE INPUT: true; the input reads as it did. -/
def maxspecBelowSpec : ChangeSpec := { name := "maxspecBelow", fn := fun _ => fun
  | [d1, d2, d3, d4] => { results := [.lit (.bool true)], args := [d1, d2, d3, d4] }
  | _ => none }
def maxspecBelowRow : OpenClaim := { program := "ytahalliodpkoeaagreat", sum := "7e71b5c1c2a1cd476219e5c99ab80b8a3d29f0f606896a64f42639299cf293b8", func := "arbiter/arbiterlaw10.MaxspecBelow", spec := "maxspecBelow", inPlace := ["internal/bytealg.IndexByteString", "internal/bytealg.IndexString"], unfollowed := true, recurses := true, named := ["internal/bytealg.MaxLen"], apart := false }
def MaxspecBelowSaid : Prop := maxspecBelowRow.holds Tryz.pinned (OpenSpec.ofChange maxspecBelowSpec)

/-- ITS FALSE NEIGHBOUR: 'it returns false'. Refute it at one input. -/
def maxspecBelowWrong : ChangeSpec := { name := "maxspecBelow", fn := fun _ => fun
  | [d1, d2, d3, d4] => { results := [.lit (.bool false)], args := [d1, d2, d3, d4] }
  | _ => none }
def MaxspecBelowWrongFalsely : Prop := maxspecBelowRow.holds Tryz.pinned (OpenSpec.ofChange maxspecBelowWrong)

/- THE SECOND FORM. 'bulk': how many values and letters a reading holds, each counted each time it is reached (what is shared counts as often as it is met; a slice's spare places count too). A statement '..UptoSaid' is the law's where the arguments, and the package variables that the reading takes, are together of bulk at most 1048576: NARROWER than '..Said'. Prove '..Said' where nothing that the law and all that it calls make is longer than what came in: it says more and counts as full. Else prove '..UptoSaid'. A law counts once. -/
mutual
def uptoBulk {H : Type} : DataW H → Nat
  | .lit (.string bytes) => bytes.length + 1
  | .lit _ => 1
  | .nil => 1
  | .ptr d => uptoBulk d + 1
  | .slice elems spare => uptoBulkAll elems + uptoBulkAll spare + 1
  | .agg parts => uptoBulkAll parts + 1
  | .iface _ d => uptoBulk d + 1
  | .map entries => uptoBulkEntries entries + 1
  | .held _ => 1
def uptoBulkAll {H : Type} : List (DataW H) → Nat
  | [] => 0
  | d :: r => uptoBulk d + uptoBulkAll r
def uptoBulkEntries {H : Type} : List (Lit × DataW H) → Nat
  | [] => 0
  | x :: r => uptoBulkEntry x + uptoBulkEntries r
def uptoBulkEntry {H : Type} : Lit × DataW H → Nat
  | (.string bytes, d) => bytes.length + uptoBulk d + 1
  | (_, d) => uptoBulk d + 1
 end
def uptoSmall : (H : Type) → List (DataW H) → Bool := fun _ ds => decide (uptoBulkAll ds ≤ 1048576)
def OpenSpec.upto (s : _root_.Go.ChangeSpec) : _root_.Go.OpenSpec := { _root_.Go.OpenSpec.ofChange s with cond := some uptoSmall }

/-- 'arbiterlaw06.HierDefines', WHERE WHAT IT READS IS OF BULK AT MOST 1048576: true; the input reads as it did. -/
def hierDefinesUptoRow : OpenClaim := { program := "ytahalliodpkoeaagreat", sum := "7e71b5c1c2a1cd476219e5c99ab80b8a3d29f0f606896a64f42639299cf293b8", func := "arbiter/arbiterlaw06.HierDefines", spec := "hierDefines", inPlace := ["internal/bytealg.IndexByteString", "internal/bytealg.IndexString"], unfollowed := true, recurses := true, named := ["internal/bytealg.MaxLen"], apart := false, narrowed := true }
def HierDefinesUptoSaid : Prop := hierDefinesUptoRow.holds Tryz.pinned (OpenSpec.upto hierDefinesSpec)

/-- 'arbiterlaw06.HierAsks', WHERE WHAT IT READS IS OF BULK AT MOST 1048576: true; the input reads as it did. -/
def hierAsksUptoRow : OpenClaim := { program := "ytahalliodpkoeaagreat", sum := "7e71b5c1c2a1cd476219e5c99ab80b8a3d29f0f606896a64f42639299cf293b8", func := "arbiter/arbiterlaw06.HierAsks", spec := "hierAsks", inPlace := ["internal/bytealg.IndexByteString", "internal/bytealg.IndexString"], unfollowed := true, recurses := true, named := ["internal/bytealg.MaxLen"], apart := false, narrowed := true }
def HierAsksUptoSaid : Prop := hierAsksUptoRow.holds Tryz.pinned (OpenSpec.upto hierAsksSpec)

/-- 'arbiterlaw06.HierGrows', WHERE WHAT IT READS IS OF BULK AT MOST 1048576: true; the input reads as it did. -/
def hierGrowsUptoRow : OpenClaim := { program := "ytahalliodpkoeaagreat", sum := "7e71b5c1c2a1cd476219e5c99ab80b8a3d29f0f606896a64f42639299cf293b8", func := "arbiter/arbiterlaw06.HierGrows", spec := "hierGrows", inPlace := ["internal/bytealg.IndexByteString", "internal/bytealg.IndexString"], unfollowed := true, recurses := true, named := ["internal/bytealg.MaxLen"], apart := false, narrowed := true }
def HierGrowsUptoSaid : Prop := hierGrowsUptoRow.holds Tryz.pinned (OpenSpec.upto hierGrowsSpec)

/-- 'arbiterlaw07.ArraysSub', WHERE WHAT IT READS IS OF BULK AT MOST 1048576: true; the input reads as it did. -/
def arraysSubUptoRow : OpenClaim := { program := "ytahalliodpkoeaagreat", sum := "7e71b5c1c2a1cd476219e5c99ab80b8a3d29f0f606896a64f42639299cf293b8", func := "arbiter/arbiterlaw07.ArraysSub", spec := "arraysSub", inPlace := ["internal/bytealg.IndexByteString", "internal/bytealg.IndexString"], unfollowed := true, recurses := true, named := ["internal/bytealg.MaxLen"], apart := false, narrowed := true }
def ArraysSubUptoSaid : Prop := arraysSubUptoRow.holds Tryz.pinned (OpenSpec.upto arraysSubSpec)

/-- 'arbiterlaw07.ArraysPlays', WHERE WHAT IT READS IS OF BULK AT MOST 1048576: true; the input reads as it did. -/
def arraysPlaysUptoRow : OpenClaim := { program := "ytahalliodpkoeaagreat", sum := "7e71b5c1c2a1cd476219e5c99ab80b8a3d29f0f606896a64f42639299cf293b8", func := "arbiter/arbiterlaw07.ArraysPlays", spec := "arraysPlays", inPlace := ["internal/bytealg.IndexByteString", "internal/bytealg.IndexString"], unfollowed := true, recurses := true, named := ["internal/bytealg.MaxLen"], apart := false, narrowed := true }
def ArraysPlaysUptoSaid : Prop := arraysPlaysUptoRow.holds Tryz.pinned (OpenSpec.upto arraysPlaysSpec)

/-- 'arbiterlaw08.AccessClasses', WHERE WHAT IT READS IS OF BULK AT MOST 1048576: true; the input reads as it did. -/
def accessClassesUptoRow : OpenClaim := { program := "ytahalliodpkoeaagreat", sum := "7e71b5c1c2a1cd476219e5c99ab80b8a3d29f0f606896a64f42639299cf293b8", func := "arbiter/arbiterlaw08.AccessClasses", spec := "accessClasses", inPlace := ["internal/bytealg.IndexByteString", "internal/bytealg.IndexString"], unfollowed := true, recurses := true, named := ["internal/bytealg.MaxLen"], apart := false, narrowed := true }
def AccessClassesUptoSaid : Prop := accessClassesUptoRow.holds Tryz.pinned (OpenSpec.upto accessClassesSpec)

/-- 'arbiterlaw08.AccessMethods', WHERE WHAT IT READS IS OF BULK AT MOST 1048576: true; the input reads as it did. -/
def accessMethodsUptoRow : OpenClaim := { program := "ytahalliodpkoeaagreat", sum := "7e71b5c1c2a1cd476219e5c99ab80b8a3d29f0f606896a64f42639299cf293b8", func := "arbiter/arbiterlaw08.AccessMethods", spec := "accessMethods", inPlace := ["internal/bytealg.IndexByteString", "internal/bytealg.IndexString"], unfollowed := true, recurses := true, named := ["internal/bytealg.MaxLen"], apart := false, narrowed := true }
def AccessMethodsUptoSaid : Prop := accessMethodsUptoRow.holds Tryz.pinned (OpenSpec.upto accessMethodsSpec)

/-- 'arbiterlaw09.OverridePairs', WHERE WHAT IT READS IS OF BULK AT MOST 1048576: true; the input reads as it did. -/
def overridePairsUptoRow : OpenClaim := { program := "ytahalliodpkoeaagreat", sum := "7e71b5c1c2a1cd476219e5c99ab80b8a3d29f0f606896a64f42639299cf293b8", func := "arbiter/arbiterlaw09.OverridePairs", spec := "overridePairs", inPlace := ["internal/bytealg.IndexByteString", "internal/bytealg.IndexString"], unfollowed := true, recurses := true, named := ["internal/bytealg.MaxLen"], apart := false, narrowed := true }
def OverridePairsUptoSaid : Prop := overridePairsUptoRow.holds Tryz.pinned (OpenSpec.upto overridePairsSpec)

/-- 'arbiterlaw09.OverrideFirst', WHERE WHAT IT READS IS OF BULK AT MOST 1048576: true; the input reads as it did. -/
def overrideFirstUptoRow : OpenClaim := { program := "ytahalliodpkoeaagreat", sum := "7e71b5c1c2a1cd476219e5c99ab80b8a3d29f0f606896a64f42639299cf293b8", func := "arbiter/arbiterlaw09.OverrideFirst", spec := "overrideFirst", inPlace := ["internal/bytealg.IndexByteString", "internal/bytealg.IndexString"], unfollowed := true, recurses := true, named := ["internal/bytealg.MaxLen"], apart := false, narrowed := true }
def OverrideFirstUptoSaid : Prop := overrideFirstUptoRow.holds Tryz.pinned (OpenSpec.upto overrideFirstSpec)

/-- 'arbiterlaw09.OverrideOrder', WHERE WHAT IT READS IS OF BULK AT MOST 1048576: true; the input reads as it did. -/
def overrideOrderUptoRow : OpenClaim := { program := "ytahalliodpkoeaagreat", sum := "7e71b5c1c2a1cd476219e5c99ab80b8a3d29f0f606896a64f42639299cf293b8", func := "arbiter/arbiterlaw09.OverrideOrder", spec := "overrideOrder", inPlace := ["internal/bytealg.IndexByteString", "internal/bytealg.IndexString"], unfollowed := true, recurses := true, named := ["internal/bytealg.MaxLen"], apart := false, narrowed := true }
def OverrideOrderUptoSaid : Prop := overrideOrderUptoRow.holds Tryz.pinned (OpenSpec.upto overrideOrderSpec)

/-- 'arbiterlaw10.MaxspecMost', WHERE WHAT IT READS IS OF BULK AT MOST 1048576: true; the input reads as it did. -/
def maxspecMostUptoRow : OpenClaim := { program := "ytahalliodpkoeaagreat", sum := "7e71b5c1c2a1cd476219e5c99ab80b8a3d29f0f606896a64f42639299cf293b8", func := "arbiter/arbiterlaw10.MaxspecMost", spec := "maxspecMost", inPlace := ["internal/bytealg.IndexByteString", "internal/bytealg.IndexString"], unfollowed := true, recurses := true, named := ["internal/bytealg.MaxLen"], apart := false, narrowed := true }
def MaxspecMostUptoSaid : Prop := maxspecMostUptoRow.holds Tryz.pinned (OpenSpec.upto maxspecMostSpec)

/-- 'arbiterlaw10.MaxspecBelow', WHERE WHAT IT READS IS OF BULK AT MOST 1048576: true; the input reads as it did. -/
def maxspecBelowUptoRow : OpenClaim := { program := "ytahalliodpkoeaagreat", sum := "7e71b5c1c2a1cd476219e5c99ab80b8a3d29f0f606896a64f42639299cf293b8", func := "arbiter/arbiterlaw10.MaxspecBelow", spec := "maxspecBelow", inPlace := ["internal/bytealg.IndexByteString", "internal/bytealg.IndexString"], unfollowed := true, recurses := true, named := ["internal/bytealg.MaxLen"], apart := false, narrowed := true }
def MaxspecBelowUptoSaid : Prop := maxspecBelowUptoRow.holds Tryz.pinned (OpenSpec.upto maxspecBelowSpec)

end Rows
end Go.Proofs.YtahalliodpkoeaaGreat
