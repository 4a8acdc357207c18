/-
  No cell of these rows narrows 'for every input' (looked for: loops, veiled, ifaces, maps, wideKeys, modest, calm, conditions, laid).
  DERIVED. THE GIVEN ROWS OF THIS SEAT. 12 by the template 'for every input the law returns true; each argument reads behind the call as it read before'; 0 by the template 'total and deterministic' (their statements: YthfifobokpfpkaaGreatTotals.lean).
  GIVEN WITH THE SEED: the statements are not yours to turn. If you find one false, say at which input.
  Laid BY PROGRAM, IN A SANDBOX (cutbox-rows.mjs): the forced cells as the released guide's own fill.sh prints them over the translation 5f2b14459b696852… (all of the seat's roots in one cut). By AI agents, Wed Nov 11 2026. No macro, syntax, notation, axiom, sorry.
-/
import Derived.Test.YthfifobokpfpkaaGreatChecked
import GoSem.Claim
import GoSem.ClaimJoined
import GoSem.ClaimMapViews
import Derived.JoinedTies
import Derived.KernelRfl
namespace Go.Proofs.YthfifobokpfpkaaGreat
/- THE CELL 'sum', in the pinned program and in every row, IS THE sha256 OF THE DUMP (.gsa) THAT YthfifobokpfpkaaGreatProg.lean LOADS. Nothing in Lean hashes anything: it is a label: what it is worth is what the hold of that sum in a sandbox is worth. -/
noncomputable def Tryz.pinned : Pinned := { name := "ythfifobokpfpkaagreat", sum := "5f2b14459b6968529a07cfaea921d9dfae65302a37bd3445b23ff538e09742f9", checked := Tryz.checked }
namespace Rows
def none {H : Type} : Left H := { results := [], args := [] }

/-- 'arbiterlaw09.OverrideSeen': WHATEVER THE INPUT: true; the input reads as it did. -/
def overrideSeenSpec : ChangeSpec := { name := "overrideSeen", fn := fun _ => fun
  | [d1, d2, d3] => { results := [.lit (.bool true)], args := [d1, d2, d3] }
  | _ => none }
def overrideSeenRow : OpenClaim := { program := "ythfifobokpfpkaagreat", sum := "5f2b14459b6968529a07cfaea921d9dfae65302a37bd3445b23ff538e09742f9", func := "arbiter/arbiterlaw09.OverrideSeen", spec := "overrideSeen", inPlace := ["internal/bytealg.IndexByteString", "internal/bytealg.IndexString"], unfollowed := true, recurses := true, named := ["internal/bytealg.MaxLen"], apart := false }
def OverrideSeenSaid : Prop := overrideSeenRow.holds Tryz.pinned (OpenSpec.ofChange overrideSeenSpec)

/-- ITS FALSE NEIGHBOUR: 'it returns false'. Refute it at one input. -/
def overrideSeenWrong : ChangeSpec := { name := "overrideSeen", fn := fun _ => fun
  | [d1, d2, d3] => { results := [.lit (.bool false)], args := [d1, d2, d3] }
  | _ => none }
def OverrideSeenWrongFalsely : Prop := overrideSeenRow.holds Tryz.pinned (OpenSpec.ofChange overrideSeenWrong)

/-- 'arbiterlaw06.HierGrows': WHATEVER THE INPUT: true; the input reads as it did. -/
def hierGrowsSpec : ChangeSpec := { name := "hierGrows", fn := fun _ => fun
  | [d1, d2] => { results := [.lit (.bool true)], args := [d1, d2] }
  | _ => none }
def hierGrowsRow : OpenClaim := { program := "ythfifobokpfpkaagreat", sum := "5f2b14459b6968529a07cfaea921d9dfae65302a37bd3445b23ff538e09742f9", func := "arbiter/arbiterlaw06.HierGrows", spec := "hierGrows", inPlace := ["internal/bytealg.IndexByteString", "internal/bytealg.IndexString"], unfollowed := true, recurses := true, named := ["internal/bytealg.MaxLen"], apart := false }
def HierGrowsSaid : Prop := hierGrowsRow.holds Tryz.pinned (OpenSpec.ofChange hierGrowsSpec)

/-- ITS FALSE NEIGHBOUR: 'it returns false'. Refute it at one input. -/
def hierGrowsWrong : ChangeSpec := { name := "hierGrows", fn := fun _ => fun
  | [d1, d2] => { results := [.lit (.bool false)], args := [d1, d2] }
  | _ => none }
def HierGrowsWrongFalsely : Prop := hierGrowsRow.holds Tryz.pinned (OpenSpec.ofChange hierGrowsWrong)

/-- 'arbiterlaw06.HierAsks': WHATEVER THE INPUT: true; the input reads as it did. -/
def hierAsksSpec : ChangeSpec := { name := "hierAsks", fn := fun _ => fun
  | [d1, d2, d3, d4, d5] => { results := [.lit (.bool true)], args := [d1, d2, d3, d4, d5] }
  | _ => none }
def hierAsksRow : OpenClaim := { program := "ythfifobokpfpkaagreat", sum := "5f2b14459b6968529a07cfaea921d9dfae65302a37bd3445b23ff538e09742f9", func := "arbiter/arbiterlaw06.HierAsks", spec := "hierAsks", inPlace := ["internal/bytealg.IndexByteString", "internal/bytealg.IndexString"], unfollowed := true, recurses := true, named := ["internal/bytealg.MaxLen"], apart := false }
def HierAsksSaid : Prop := hierAsksRow.holds Tryz.pinned (OpenSpec.ofChange hierAsksSpec)

/-- ITS FALSE NEIGHBOUR: 'it returns false'. Refute it at one input. -/
def hierAsksWrong : ChangeSpec := { name := "hierAsks", fn := fun _ => fun
  | [d1, d2, d3, d4, d5] => { results := [.lit (.bool false)], args := [d1, d2, d3, d4, d5] }
  | _ => none }
def HierAsksWrongFalsely : Prop := hierAsksRow.holds Tryz.pinned (OpenSpec.ofChange hierAsksWrong)

/-- 'arbiterlaw06.HierDefines': WHATEVER THE INPUT: true; the input reads as it did. -/
def hierDefinesSpec : ChangeSpec := { name := "hierDefines", fn := fun _ => fun
  | [d] => { results := [.lit (.bool true)], args := [d] }
  | _ => none }
def hierDefinesRow : OpenClaim := { program := "ythfifobokpfpkaagreat", sum := "5f2b14459b6968529a07cfaea921d9dfae65302a37bd3445b23ff538e09742f9", func := "arbiter/arbiterlaw06.HierDefines", spec := "hierDefines", inPlace := ["internal/bytealg.IndexByteString", "internal/bytealg.IndexString"], unfollowed := true, recurses := true, named := ["internal/bytealg.MaxLen"], apart := false }
def HierDefinesSaid : Prop := hierDefinesRow.holds Tryz.pinned (OpenSpec.ofChange hierDefinesSpec)

/-- ITS FALSE NEIGHBOUR: 'it returns false'. Refute it at one input. -/
def hierDefinesWrong : ChangeSpec := { name := "hierDefines", fn := fun _ => fun
  | [d] => { results := [.lit (.bool false)], args := [d] }
  | _ => none }
def HierDefinesWrongFalsely : Prop := hierDefinesRow.holds Tryz.pinned (OpenSpec.ofChange hierDefinesWrong)

/-- 'arbiterlaw13.VtableBuilds': WHATEVER THE INPUT: true; the input reads as it did. -/
def vtableBuildsSpec : ChangeSpec := { name := "vtableBuilds", fn := fun _ => fun
  | [d1, d2] => { results := [.lit (.bool true)], args := [d1, d2] }
  | _ => none }
def vtableBuildsRow : OpenClaim := { program := "ythfifobokpfpkaagreat", sum := "5f2b14459b6968529a07cfaea921d9dfae65302a37bd3445b23ff538e09742f9", func := "arbiter/arbiterlaw13.VtableBuilds", spec := "vtableBuilds", inPlace := ["internal/bytealg.IndexByteString", "internal/bytealg.IndexString"], unfollowed := true, recurses := true, named := ["internal/bytealg.MaxLen"], apart := false }
def VtableBuildsSaid : Prop := vtableBuildsRow.holds Tryz.pinned (OpenSpec.ofChange vtableBuildsSpec)

/-- ITS FALSE NEIGHBOUR: 'it returns false'. Refute it at one input. -/
def vtableBuildsWrong : ChangeSpec := { name := "vtableBuilds", fn := fun _ => fun
  | [d1, d2] => { results := [.lit (.bool false)], args := [d1, d2] }
  | _ => none }
def VtableBuildsWrongFalsely : Prop := vtableBuildsRow.holds Tryz.pinned (OpenSpec.ofChange vtableBuildsWrong)

/-- 'arbiterlaw13.VtablePlays': WHATEVER THE INPUT: true; the input reads as it did. -/
def vtablePlaysSpec : ChangeSpec := { name := "vtablePlays", fn := fun _ => fun
  | [d1, d2, d3] => { results := [.lit (.bool true)], args := [d1, d2, d3] }
  | _ => none }
def vtablePlaysRow : OpenClaim := { program := "ythfifobokpfpkaagreat", sum := "5f2b14459b6968529a07cfaea921d9dfae65302a37bd3445b23ff538e09742f9", func := "arbiter/arbiterlaw13.VtablePlays", spec := "vtablePlays", inPlace := ["internal/bytealg.IndexByteString", "internal/bytealg.IndexString"], unfollowed := true, recurses := true, named := ["internal/bytealg.MaxLen"], apart := false }
def VtablePlaysSaid : Prop := vtablePlaysRow.holds Tryz.pinned (OpenSpec.ofChange vtablePlaysSpec)

/-- ITS FALSE NEIGHBOUR: 'it returns false'. Refute it at one input. -/
def vtablePlaysWrong : ChangeSpec := { name := "vtablePlays", fn := fun _ => fun
  | [d1, d2, d3] => { results := [.lit (.bool false)], args := [d1, d2, d3] }
  | _ => none }
def VtablePlaysWrongFalsely : Prop := vtablePlaysRow.holds Tryz.pinned (OpenSpec.ofChange vtablePlaysWrong)

/-- 'arbiterlaw14.ItableBuilds': WHATEVER THE INPUT: true; the input reads as it did. -/
def itableBuildsSpec : ChangeSpec := { name := "itableBuilds", fn := fun _ => fun
  | [d1, d2] => { results := [.lit (.bool true)], args := [d1, d2] }
  | _ => none }
def itableBuildsRow : OpenClaim := { program := "ythfifobokpfpkaagreat", sum := "5f2b14459b6968529a07cfaea921d9dfae65302a37bd3445b23ff538e09742f9", func := "arbiter/arbiterlaw14.ItableBuilds", spec := "itableBuilds", inPlace := ["internal/bytealg.IndexByteString", "internal/bytealg.IndexString"], unfollowed := true, recurses := true, named := ["internal/bytealg.MaxLen"], apart := false }
def ItableBuildsSaid : Prop := itableBuildsRow.holds Tryz.pinned (OpenSpec.ofChange itableBuildsSpec)

/-- ITS FALSE NEIGHBOUR: 'it returns false'. Refute it at one input. -/
def itableBuildsWrong : ChangeSpec := { name := "itableBuilds", fn := fun _ => fun
  | [d1, d2] => { results := [.lit (.bool false)], args := [d1, d2] }
  | _ => none }
def ItableBuildsWrongFalsely : Prop := itableBuildsRow.holds Tryz.pinned (OpenSpec.ofChange itableBuildsWrong)

/-- 'arbiterlaw14.ItableLooks': WHATEVER THE INPUT: true; the input reads as it did. -/
def itableLooksSpec : ChangeSpec := { name := "itableLooks", fn := fun _ => fun
  | [d1, d2, d3] => { results := [.lit (.bool true)], args := [d1, d2, d3] }
  | _ => none }
def itableLooksRow : OpenClaim := { program := "ythfifobokpfpkaagreat", sum := "5f2b14459b6968529a07cfaea921d9dfae65302a37bd3445b23ff538e09742f9", func := "arbiter/arbiterlaw14.ItableLooks", spec := "itableLooks", inPlace := ["internal/bytealg.IndexByteString", "internal/bytealg.IndexString"], unfollowed := true, recurses := true, named := ["internal/bytealg.MaxLen"], apart := false }
def ItableLooksSaid : Prop := itableLooksRow.holds Tryz.pinned (OpenSpec.ofChange itableLooksSpec)

/-- ITS FALSE NEIGHBOUR: 'it returns false'. Refute it at one input. -/
def itableLooksWrong : ChangeSpec := { name := "itableLooks", fn := fun _ => fun
  | [d1, d2, d3] => { results := [.lit (.bool false)], args := [d1, d2, d3] }
  | _ => none }
def ItableLooksWrongFalsely : Prop := itableLooksRow.holds Tryz.pinned (OpenSpec.ofChange itableLooksWrong)

/-- 'arbiterlaw14.ItableSays': WHATEVER THE INPUT: true; the input reads as it did. -/
def itableSaysSpec : ChangeSpec := { name := "itableSays", fn := fun _ => fun
  | [d1, d2] => { results := [.lit (.bool true)], args := [d1, d2] }
  | _ => none }
def itableSaysRow : OpenClaim := { program := "ythfifobokpfpkaagreat", sum := "5f2b14459b6968529a07cfaea921d9dfae65302a37bd3445b23ff538e09742f9", func := "arbiter/arbiterlaw14.ItableSays", spec := "itableSays", inPlace := ["internal/bytealg.IndexByteString", "internal/bytealg.IndexString"], unfollowed := true, recurses := true, named := ["internal/bytealg.MaxLen"], apart := false }
def ItableSaysSaid : Prop := itableSaysRow.holds Tryz.pinned (OpenSpec.ofChange itableSaysSpec)

/-- ITS FALSE NEIGHBOUR: 'it returns false'. Refute it at one input. -/
def itableSaysWrong : ChangeSpec := { name := "itableSays", fn := fun _ => fun
  | [d1, d2] => { results := [.lit (.bool false)], args := [d1, d2] }
  | _ => none }
def ItableSaysWrongFalsely : Prop := itableSaysRow.holds Tryz.pinned (OpenSpec.ofChange itableSaysWrong)

/-- 'arbiterlaw14.ItableDefaults': WHATEVER THE INPUT: true; the input reads as it did. -/
def itableDefaultsSpec : ChangeSpec := { name := "itableDefaults", fn := fun _ => fun
  | [d1, d2] => { results := [.lit (.bool true)], args := [d1, d2] }
  | _ => none }
def itableDefaultsRow : OpenClaim := { program := "ythfifobokpfpkaagreat", sum := "5f2b14459b6968529a07cfaea921d9dfae65302a37bd3445b23ff538e09742f9", func := "arbiter/arbiterlaw14.ItableDefaults", spec := "itableDefaults", inPlace := ["internal/bytealg.IndexByteString", "internal/bytealg.IndexString"], unfollowed := true, recurses := true, named := ["internal/bytealg.MaxLen"], apart := false }
def ItableDefaultsSaid : Prop := itableDefaultsRow.holds Tryz.pinned (OpenSpec.ofChange itableDefaultsSpec)

/-- ITS FALSE NEIGHBOUR: 'it returns false'. Refute it at one input. -/
def itableDefaultsWrong : ChangeSpec := { name := "itableDefaults", fn := fun _ => fun
  | [d1, d2] => { results := [.lit (.bool false)], args := [d1, d2] }
  | _ => none }
def ItableDefaultsWrongFalsely : Prop := itableDefaultsRow.holds Tryz.pinned (OpenSpec.ofChange itableDefaultsWrong)

/-- 'arbiterlaw14.ItableGrows': WHATEVER THE INPUT: true; the input reads as it did. -/
def itableGrowsSpec : ChangeSpec := { name := "itableGrows", fn := fun _ => fun
  | [d1, d2, d3] => { results := [.lit (.bool true)], args := [d1, d2, d3] }
  | _ => none }
def itableGrowsRow : OpenClaim := { program := "ythfifobokpfpkaagreat", sum := "5f2b14459b6968529a07cfaea921d9dfae65302a37bd3445b23ff538e09742f9", func := "arbiter/arbiterlaw14.ItableGrows", spec := "itableGrows", inPlace := ["internal/bytealg.IndexByteString", "internal/bytealg.IndexString"], unfollowed := true, recurses := true, named := ["internal/bytealg.MaxLen"], apart := false }
def ItableGrowsSaid : Prop := itableGrowsRow.holds Tryz.pinned (OpenSpec.ofChange itableGrowsSpec)

/-- ITS FALSE NEIGHBOUR: 'it returns false'. Refute it at one input. -/
def itableGrowsWrong : ChangeSpec := { name := "itableGrows", fn := fun _ => fun
  | [d1, d2, d3] => { results := [.lit (.bool false)], args := [d1, d2, d3] }
  | _ => none }
def ItableGrowsWrongFalsely : Prop := itableGrowsRow.holds Tryz.pinned (OpenSpec.ofChange itableGrowsWrong)

/-- 'arbitertop.WholeEntries': WHATEVER THE INPUT: true; the input reads as it did. -/
def wholeEntriesSpec : ChangeSpec := { name := "wholeEntries", fn := fun _ => fun
  | [d] => { results := [.lit (.bool true)], args := [d] }
  | _ => none }
def wholeEntriesRow : OpenClaim := { program := "ythfifobokpfpkaagreat", sum := "5f2b14459b6968529a07cfaea921d9dfae65302a37bd3445b23ff538e09742f9", func := "arbiter/arbitertop.WholeEntries", spec := "wholeEntries", inPlace := ["internal/bytealg.IndexByteString", "internal/bytealg.IndexString"], unfollowed := true, recurses := true, named := ["internal/bytealg.MaxLen"], apart := false }
def WholeEntriesSaid : Prop := wholeEntriesRow.holds Tryz.pinned (OpenSpec.ofChange wholeEntriesSpec)

/-- ITS FALSE NEIGHBOUR: 'it returns false'. Refute it at one input. -/
def wholeEntriesWrong : ChangeSpec := { name := "wholeEntries", fn := fun _ => fun
  | [d] => { results := [.lit (.bool false)], args := [d] }
  | _ => none }
def WholeEntriesWrongFalsely : Prop := wholeEntriesRow.holds Tryz.pinned (OpenSpec.ofChange wholeEntriesWrong)

/- THE SECOND FORM. 'bulk': how many values and letters a reading holds, each counted each time it is reached (what is shared counts as often as it is met; a slice's spare places count too). A statement '..UptoSaid' is the law's where the arguments, and the package variables that the reading takes, are together of bulk at most 1048576: NARROWER than '..Said'. Prove '..Said' where nothing that the law and all that it calls make is longer than what came in: it says more and counts as full. Else prove '..UptoSaid'. A law counts once. -/
mutual
def uptoBulk {H : Type} : DataW H → Nat
  | .lit (.string bytes) => bytes.length + 1
  | .lit _ => 1
  | .nil => 1
  | .ptr d => uptoBulk d + 1
  | .slice elems spare => uptoBulkAll elems + uptoBulkAll spare + 1
  | .agg parts => uptoBulkAll parts + 1
  | .iface _ d => uptoBulk d + 1
  | .map entries => uptoBulkEntries entries + 1
  | .held _ => 1
def uptoBulkAll {H : Type} : List (DataW H) → Nat
  | [] => 0
  | d :: r => uptoBulk d + uptoBulkAll r
def uptoBulkEntries {H : Type} : List (Lit × DataW H) → Nat
  | [] => 0
  | x :: r => uptoBulkEntry x + uptoBulkEntries r
def uptoBulkEntry {H : Type} : Lit × DataW H → Nat
  | (.string bytes, d) => bytes.length + uptoBulk d + 1
  | (_, d) => uptoBulk d + 1
 end
def uptoSmall : (H : Type) → List (DataW H) → Bool := fun _ ds => decide (uptoBulkAll ds ≤ 1048576)
def OpenSpec.upto (s : _root_.Go.ChangeSpec) : _root_.Go.OpenSpec := { _root_.Go.OpenSpec.ofChange s with cond := some uptoSmall }

/-- 'arbiterlaw09.OverrideSeen', WHERE WHAT IT READS IS OF BULK AT MOST 1048576: true; the input reads as it did. -/
def overrideSeenUptoRow : OpenClaim := { program := "ythfifobokpfpkaagreat", sum := "5f2b14459b6968529a07cfaea921d9dfae65302a37bd3445b23ff538e09742f9", func := "arbiter/arbiterlaw09.OverrideSeen", spec := "overrideSeen", inPlace := ["internal/bytealg.IndexByteString", "internal/bytealg.IndexString"], unfollowed := true, recurses := true, named := ["internal/bytealg.MaxLen"], apart := false, narrowed := true }
def OverrideSeenUptoSaid : Prop := overrideSeenUptoRow.holds Tryz.pinned (OpenSpec.upto overrideSeenSpec)

/-- 'arbiterlaw06.HierGrows', WHERE WHAT IT READS IS OF BULK AT MOST 1048576: true; the input reads as it did. -/
def hierGrowsUptoRow : OpenClaim := { program := "ythfifobokpfpkaagreat", sum := "5f2b14459b6968529a07cfaea921d9dfae65302a37bd3445b23ff538e09742f9", func := "arbiter/arbiterlaw06.HierGrows", spec := "hierGrows", inPlace := ["internal/bytealg.IndexByteString", "internal/bytealg.IndexString"], unfollowed := true, recurses := true, named := ["internal/bytealg.MaxLen"], apart := false, narrowed := true }
def HierGrowsUptoSaid : Prop := hierGrowsUptoRow.holds Tryz.pinned (OpenSpec.upto hierGrowsSpec)

/-- 'arbiterlaw06.HierAsks', WHERE WHAT IT READS IS OF BULK AT MOST 1048576: true; the input reads as it did. -/
def hierAsksUptoRow : OpenClaim := { program := "ythfifobokpfpkaagreat", sum := "5f2b14459b6968529a07cfaea921d9dfae65302a37bd3445b23ff538e09742f9", func := "arbiter/arbiterlaw06.HierAsks", spec := "hierAsks", inPlace := ["internal/bytealg.IndexByteString", "internal/bytealg.IndexString"], unfollowed := true, recurses := true, named := ["internal/bytealg.MaxLen"], apart := false, narrowed := true }
def HierAsksUptoSaid : Prop := hierAsksUptoRow.holds Tryz.pinned (OpenSpec.upto hierAsksSpec)

/-- 'arbiterlaw06.HierDefines', WHERE WHAT IT READS IS OF BULK AT MOST 1048576: true; the input reads as it did. -/
def hierDefinesUptoRow : OpenClaim := { program := "ythfifobokpfpkaagreat", sum := "5f2b14459b6968529a07cfaea921d9dfae65302a37bd3445b23ff538e09742f9", func := "arbiter/arbiterlaw06.HierDefines", spec := "hierDefines", inPlace := ["internal/bytealg.IndexByteString", "internal/bytealg.IndexString"], unfollowed := true, recurses := true, named := ["internal/bytealg.MaxLen"], apart := false, narrowed := true }
def HierDefinesUptoSaid : Prop := hierDefinesUptoRow.holds Tryz.pinned (OpenSpec.upto hierDefinesSpec)

/-- 'arbiterlaw13.VtableBuilds', WHERE WHAT IT READS IS OF BULK AT MOST 1048576: true; the input reads as it did. -/
def vtableBuildsUptoRow : OpenClaim := { program := "ythfifobokpfpkaagreat", sum := "5f2b14459b6968529a07cfaea921d9dfae65302a37bd3445b23ff538e09742f9", func := "arbiter/arbiterlaw13.VtableBuilds", spec := "vtableBuilds", inPlace := ["internal/bytealg.IndexByteString", "internal/bytealg.IndexString"], unfollowed := true, recurses := true, named := ["internal/bytealg.MaxLen"], apart := false, narrowed := true }
def VtableBuildsUptoSaid : Prop := vtableBuildsUptoRow.holds Tryz.pinned (OpenSpec.upto vtableBuildsSpec)

/-- 'arbiterlaw13.VtablePlays', WHERE WHAT IT READS IS OF BULK AT MOST 1048576: true; the input reads as it did. -/
def vtablePlaysUptoRow : OpenClaim := { program := "ythfifobokpfpkaagreat", sum := "5f2b14459b6968529a07cfaea921d9dfae65302a37bd3445b23ff538e09742f9", func := "arbiter/arbiterlaw13.VtablePlays", spec := "vtablePlays", inPlace := ["internal/bytealg.IndexByteString", "internal/bytealg.IndexString"], unfollowed := true, recurses := true, named := ["internal/bytealg.MaxLen"], apart := false, narrowed := true }
def VtablePlaysUptoSaid : Prop := vtablePlaysUptoRow.holds Tryz.pinned (OpenSpec.upto vtablePlaysSpec)

/-- 'arbiterlaw14.ItableBuilds', WHERE WHAT IT READS IS OF BULK AT MOST 1048576: true; the input reads as it did. -/
def itableBuildsUptoRow : OpenClaim := { program := "ythfifobokpfpkaagreat", sum := "5f2b14459b6968529a07cfaea921d9dfae65302a37bd3445b23ff538e09742f9", func := "arbiter/arbiterlaw14.ItableBuilds", spec := "itableBuilds", inPlace := ["internal/bytealg.IndexByteString", "internal/bytealg.IndexString"], unfollowed := true, recurses := true, named := ["internal/bytealg.MaxLen"], apart := false, narrowed := true }
def ItableBuildsUptoSaid : Prop := itableBuildsUptoRow.holds Tryz.pinned (OpenSpec.upto itableBuildsSpec)

/-- 'arbiterlaw14.ItableLooks', WHERE WHAT IT READS IS OF BULK AT MOST 1048576: true; the input reads as it did. -/
def itableLooksUptoRow : OpenClaim := { program := "ythfifobokpfpkaagreat", sum := "5f2b14459b6968529a07cfaea921d9dfae65302a37bd3445b23ff538e09742f9", func := "arbiter/arbiterlaw14.ItableLooks", spec := "itableLooks", inPlace := ["internal/bytealg.IndexByteString", "internal/bytealg.IndexString"], unfollowed := true, recurses := true, named := ["internal/bytealg.MaxLen"], apart := false, narrowed := true }
def ItableLooksUptoSaid : Prop := itableLooksUptoRow.holds Tryz.pinned (OpenSpec.upto itableLooksSpec)

/-- 'arbiterlaw14.ItableSays', WHERE WHAT IT READS IS OF BULK AT MOST 1048576: true; the input reads as it did. -/
def itableSaysUptoRow : OpenClaim := { program := "ythfifobokpfpkaagreat", sum := "5f2b14459b6968529a07cfaea921d9dfae65302a37bd3445b23ff538e09742f9", func := "arbiter/arbiterlaw14.ItableSays", spec := "itableSays", inPlace := ["internal/bytealg.IndexByteString", "internal/bytealg.IndexString"], unfollowed := true, recurses := true, named := ["internal/bytealg.MaxLen"], apart := false, narrowed := true }
def ItableSaysUptoSaid : Prop := itableSaysUptoRow.holds Tryz.pinned (OpenSpec.upto itableSaysSpec)

/-- 'arbiterlaw14.ItableDefaults', WHERE WHAT IT READS IS OF BULK AT MOST 1048576: true; the input reads as it did. -/
def itableDefaultsUptoRow : OpenClaim := { program := "ythfifobokpfpkaagreat", sum := "5f2b14459b6968529a07cfaea921d9dfae65302a37bd3445b23ff538e09742f9", func := "arbiter/arbiterlaw14.ItableDefaults", spec := "itableDefaults", inPlace := ["internal/bytealg.IndexByteString", "internal/bytealg.IndexString"], unfollowed := true, recurses := true, named := ["internal/bytealg.MaxLen"], apart := false, narrowed := true }
def ItableDefaultsUptoSaid : Prop := itableDefaultsUptoRow.holds Tryz.pinned (OpenSpec.upto itableDefaultsSpec)

/-- 'arbiterlaw14.ItableGrows', WHERE WHAT IT READS IS OF BULK AT MOST 1048576: true; the input reads as it did. -/
def itableGrowsUptoRow : OpenClaim := { program := "ythfifobokpfpkaagreat", sum := "5f2b14459b6968529a07cfaea921d9dfae65302a37bd3445b23ff538e09742f9", func := "arbiter/arbiterlaw14.ItableGrows", spec := "itableGrows", inPlace := ["internal/bytealg.IndexByteString", "internal/bytealg.IndexString"], unfollowed := true, recurses := true, named := ["internal/bytealg.MaxLen"], apart := false, narrowed := true }
def ItableGrowsUptoSaid : Prop := itableGrowsUptoRow.holds Tryz.pinned (OpenSpec.upto itableGrowsSpec)

/-- 'arbitertop.WholeEntries', WHERE WHAT IT READS IS OF BULK AT MOST 1048576: true; the input reads as it did. -/
def wholeEntriesUptoRow : OpenClaim := { program := "ythfifobokpfpkaagreat", sum := "5f2b14459b6968529a07cfaea921d9dfae65302a37bd3445b23ff538e09742f9", func := "arbiter/arbitertop.WholeEntries", spec := "wholeEntries", inPlace := ["internal/bytealg.IndexByteString", "internal/bytealg.IndexString"], unfollowed := true, recurses := true, named := ["internal/bytealg.MaxLen"], apart := false, narrowed := true }
def WholeEntriesUptoSaid : Prop := wholeEntriesUptoRow.holds Tryz.pinned (OpenSpec.upto wholeEntriesSpec)

end Rows
end Go.Proofs.YthfifobokpfpkaaGreat
