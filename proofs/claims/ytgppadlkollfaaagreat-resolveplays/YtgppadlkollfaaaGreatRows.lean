/-
  No cell of these rows narrows 'for every input' (looked for: loops, veiled, ifaces, maps, wideKeys, modest, calm, conditions, laid).
  DERIVED. THE GIVEN ROWS OF THIS SEAT. 12 by the template 'for every input the law returns true; each argument reads behind the call as it read before'; 0 by the template 'total and deterministic' (their statements: YtgppadlkollfaaaGreatTotals.lean).
  GIVEN WITH THE SEED: the statements are not yours to turn. If you find one false, say at which input.
  Laid BY PROGRAM, IN A SANDBOX (cutbox-rows.mjs): the forced cells as the released guide's own fill.sh prints them over the translation 06ad4be0c6af2581… (all of the seat's roots in one cut). By AI agents, Wed Nov 11 2026. No macro, syntax, notation, axiom, sorry.
-/
import Derived.Test.YtgppadlkollfaaaGreatChecked
import GoSem.Claim
import GoSem.ClaimJoined
import GoSem.ClaimMapViews
import Derived.JoinedTies
import Derived.KernelRfl
namespace Go.Proofs.YtgppadlkollfaaaGreat
/- THE CELL 'sum', in the pinned program and in every row, IS THE sha256 OF THE DUMP (.gsa) THAT YtgppadlkollfaaaGreatProg.lean LOADS. Nothing in Lean hashes anything: it is a label: what it is worth is what the hold of that sum in a sandbox is worth. -/
noncomputable def Tryz.pinned : Pinned := { name := "ytgppadlkollfaaagreat", sum := "06ad4be0c6af25813dd04b3e2794ac0cf8f27ff50c7f161e9c7769d4804d96f6", checked := Tryz.checked }
namespace Rows
def none {H : Type} : Left H := { results := [], args := [] }

/-- 'arbiterlaw07.ArraysSub': WHATEVER THE INPUT: true; the input reads as it did. -/
def arraysSubSpec : ChangeSpec := { name := "arraysSub", fn := fun _ => fun
  | [d1, d2, d3] => { results := [.lit (.bool true)], args := [d1, d2, d3] }
  | _ => none }
def arraysSubRow : OpenClaim := { program := "ytgppadlkollfaaagreat", sum := "06ad4be0c6af25813dd04b3e2794ac0cf8f27ff50c7f161e9c7769d4804d96f6", func := "arbiter/arbiterlaw07.ArraysSub", spec := "arraysSub", inPlace := ["internal/bytealg.IndexByteString", "internal/bytealg.IndexString"], unfollowed := true, recurses := true, named := ["internal/bytealg.MaxLen"], apart := false }
def ArraysSubSaid : Prop := arraysSubRow.holds Tryz.pinned (OpenSpec.ofChange arraysSubSpec)

/-- ITS FALSE NEIGHBOUR: 'it returns false'. Refute it at one input. -/
def arraysSubWrong : ChangeSpec := { name := "arraysSub", fn := fun _ => fun
  | [d1, d2, d3] => { results := [.lit (.bool false)], args := [d1, d2, d3] }
  | _ => none }
def ArraysSubWrongFalsely : Prop := arraysSubRow.holds Tryz.pinned (OpenSpec.ofChange arraysSubWrong)

/-- 'arbiterlaw08.AccessMethods': WHATEVER THE INPUT: true; the input reads as it did. -/
def accessMethodsSpec : ChangeSpec := { name := "accessMethods", fn := fun _ => fun
  | [d1, d2, d3, d4] => { results := [.lit (.bool true)], args := [d1, d2, d3, d4] }
  | _ => none }
def accessMethodsRow : OpenClaim := { program := "ytgppadlkollfaaagreat", sum := "06ad4be0c6af25813dd04b3e2794ac0cf8f27ff50c7f161e9c7769d4804d96f6", func := "arbiter/arbiterlaw08.AccessMethods", spec := "accessMethods", inPlace := ["internal/bytealg.IndexByteString", "internal/bytealg.IndexString"], unfollowed := true, recurses := true, named := ["internal/bytealg.MaxLen"], apart := false }
def AccessMethodsSaid : Prop := accessMethodsRow.holds Tryz.pinned (OpenSpec.ofChange accessMethodsSpec)

/-- ITS FALSE NEIGHBOUR: 'it returns false'. Refute it at one input. -/
def accessMethodsWrong : ChangeSpec := { name := "accessMethods", fn := fun _ => fun
  | [d1, d2, d3, d4] => { results := [.lit (.bool false)], args := [d1, d2, d3, d4] }
  | _ => none }
def AccessMethodsWrongFalsely : Prop := accessMethodsRow.holds Tryz.pinned (OpenSpec.ofChange accessMethodsWrong)

/-- 'arbiterlaw09.OverridePairs': WHATEVER THE INPUT: true; the input reads as it did. -/
def overridePairsSpec : ChangeSpec := { name := "overridePairs", fn := fun _ => fun
  | [d1, d2, d3] => { results := [.lit (.bool true)], args := [d1, d2, d3] }
  | _ => none }
def overridePairsRow : OpenClaim := { program := "ytgppadlkollfaaagreat", sum := "06ad4be0c6af25813dd04b3e2794ac0cf8f27ff50c7f161e9c7769d4804d96f6", func := "arbiter/arbiterlaw09.OverridePairs", spec := "overridePairs", inPlace := ["internal/bytealg.IndexByteString", "internal/bytealg.IndexString"], unfollowed := true, recurses := true, named := ["internal/bytealg.MaxLen"], apart := false }
def OverridePairsSaid : Prop := overridePairsRow.holds Tryz.pinned (OpenSpec.ofChange overridePairsSpec)

/-- ITS FALSE NEIGHBOUR: 'it returns false'. Refute it at one input. -/
def overridePairsWrong : ChangeSpec := { name := "overridePairs", fn := fun _ => fun
  | [d1, d2, d3] => { results := [.lit (.bool false)], args := [d1, d2, d3] }
  | _ => none }
def OverridePairsWrongFalsely : Prop := overridePairsRow.holds Tryz.pinned (OpenSpec.ofChange overridePairsWrong)

/-- 'arbiterlaw09.OverrideOrder': WHATEVER THE INPUT: true; the input reads as it did. -/
def overrideOrderSpec : ChangeSpec := { name := "overrideOrder", fn := fun _ => fun
  | [d1, d2, d3, d4] => { results := [.lit (.bool true)], args := [d1, d2, d3, d4] }
  | _ => none }
def overrideOrderRow : OpenClaim := { program := "ytgppadlkollfaaagreat", sum := "06ad4be0c6af25813dd04b3e2794ac0cf8f27ff50c7f161e9c7769d4804d96f6", func := "arbiter/arbiterlaw09.OverrideOrder", spec := "overrideOrder", inPlace := ["internal/bytealg.IndexByteString", "internal/bytealg.IndexString"], unfollowed := true, recurses := true, named := ["internal/bytealg.MaxLen"], apart := false }
def OverrideOrderSaid : Prop := overrideOrderRow.holds Tryz.pinned (OpenSpec.ofChange overrideOrderSpec)

/-- ITS FALSE NEIGHBOUR: 'it returns false'. Refute it at one input. -/
def overrideOrderWrong : ChangeSpec := { name := "overrideOrder", fn := fun _ => fun
  | [d1, d2, d3, d4] => { results := [.lit (.bool false)], args := [d1, d2, d3, d4] }
  | _ => none }
def OverrideOrderWrongFalsely : Prop := overrideOrderRow.holds Tryz.pinned (OpenSpec.ofChange overrideOrderWrong)

/-- 'arbiterlaw10.MaxspecPlays': WHATEVER THE INPUT: true; the input reads as it did. -/
def maxspecPlaysSpec : ChangeSpec := { name := "maxspecPlays", fn := fun _ => fun
  | [d1, d2, d3, d4] => { results := [.lit (.bool true)], args := [d1, d2, d3, d4] }
  | _ => none }
def maxspecPlaysRow : OpenClaim := { program := "ytgppadlkollfaaagreat", sum := "06ad4be0c6af25813dd04b3e2794ac0cf8f27ff50c7f161e9c7769d4804d96f6", func := "arbiter/arbiterlaw10.MaxspecPlays", spec := "maxspecPlays", inPlace := ["internal/bytealg.IndexByteString", "internal/bytealg.IndexString"], unfollowed := true, recurses := true, named := ["internal/bytealg.MaxLen"], apart := false }
def MaxspecPlaysSaid : Prop := maxspecPlaysRow.holds Tryz.pinned (OpenSpec.ofChange maxspecPlaysSpec)

/-- ITS FALSE NEIGHBOUR: 'it returns false'. Refute it at one input. -/
def maxspecPlaysWrong : ChangeSpec := { name := "maxspecPlays", fn := fun _ => fun
  | [d1, d2, d3, d4] => { results := [.lit (.bool false)], args := [d1, d2, d3, d4] }
  | _ => none }
def MaxspecPlaysWrongFalsely : Prop := maxspecPlaysRow.holds Tryz.pinned (OpenSpec.ofChange maxspecPlaysWrong)

/-- 'arbiterlaw11.ResolveMethods': WHATEVER THE INPUT: true; the input reads as it did. -/
def resolveMethodsSpec : ChangeSpec := { name := "resolveMethods", fn := fun _ => fun
  | [d1, d2, d3] => { results := [.lit (.bool true)], args := [d1, d2, d3] }
  | _ => none }
def resolveMethodsRow : OpenClaim := { program := "ytgppadlkollfaaagreat", sum := "06ad4be0c6af25813dd04b3e2794ac0cf8f27ff50c7f161e9c7769d4804d96f6", func := "arbiter/arbiterlaw11.ResolveMethods", spec := "resolveMethods", inPlace := ["internal/bytealg.IndexByteString", "internal/bytealg.IndexString"], unfollowed := true, recurses := true, named := ["internal/bytealg.MaxLen"], apart := false }
def ResolveMethodsSaid : Prop := resolveMethodsRow.holds Tryz.pinned (OpenSpec.ofChange resolveMethodsSpec)

/-- ITS FALSE NEIGHBOUR: 'it returns false'. Refute it at one input. -/
def resolveMethodsWrong : ChangeSpec := { name := "resolveMethods", fn := fun _ => fun
  | [d1, d2, d3] => { results := [.lit (.bool false)], args := [d1, d2, d3] }
  | _ => none }
def ResolveMethodsWrongFalsely : Prop := resolveMethodsRow.holds Tryz.pinned (OpenSpec.ofChange resolveMethodsWrong)

/-- 'arbiterlaw11.ResolvePlays': WHATEVER THE INPUT: true; the input reads as it did. -/
def resolvePlaysSpec : ChangeSpec := { name := "resolvePlays", fn := fun _ => fun
  | [d1, d2, d3, d4, d5, d6] => { results := [.lit (.bool true)], args := [d1, d2, d3, d4, d5, d6] }
  | _ => none }
def resolvePlaysRow : OpenClaim := { program := "ytgppadlkollfaaagreat", sum := "06ad4be0c6af25813dd04b3e2794ac0cf8f27ff50c7f161e9c7769d4804d96f6", func := "arbiter/arbiterlaw11.ResolvePlays", spec := "resolvePlays", inPlace := ["internal/bytealg.IndexByteString", "internal/bytealg.IndexString"], unfollowed := true, recurses := true, named := ["internal/bytealg.MaxLen"], apart := false }
def ResolvePlaysSaid : Prop := resolvePlaysRow.holds Tryz.pinned (OpenSpec.ofChange resolvePlaysSpec)

/-- ITS FALSE NEIGHBOUR: 'it returns false'. Refute it at one input. -/
def resolvePlaysWrong : ChangeSpec := { name := "resolvePlays", fn := fun _ => fun
  | [d1, d2, d3, d4, d5, d6] => { results := [.lit (.bool false)], args := [d1, d2, d3, d4, d5, d6] }
  | _ => none }
def ResolvePlaysWrongFalsely : Prop := resolvePlaysRow.holds Tryz.pinned (OpenSpec.ofChange resolvePlaysWrong)

/-- 'arbiterlaw11.ResolveSound': WHATEVER THE INPUT: true; the input reads as it did. -/
def resolveSoundSpec : ChangeSpec := { name := "resolveSound", fn := fun _ => fun
  | [d1, d2, d3] => { results := [.lit (.bool true)], args := [d1, d2, d3] }
  | _ => none }
def resolveSoundRow : OpenClaim := { program := "ytgppadlkollfaaagreat", sum := "06ad4be0c6af25813dd04b3e2794ac0cf8f27ff50c7f161e9c7769d4804d96f6", func := "arbiter/arbiterlaw11.ResolveSound", spec := "resolveSound", inPlace := ["internal/bytealg.IndexByteString", "internal/bytealg.IndexString"], unfollowed := true, recurses := true, named := ["internal/bytealg.MaxLen"], apart := false }
def ResolveSoundSaid : Prop := resolveSoundRow.holds Tryz.pinned (OpenSpec.ofChange resolveSoundSpec)

/-- ITS FALSE NEIGHBOUR: 'it returns false'. Refute it at one input. -/
def resolveSoundWrong : ChangeSpec := { name := "resolveSound", fn := fun _ => fun
  | [d1, d2, d3] => { results := [.lit (.bool false)], args := [d1, d2, d3] }
  | _ => none }
def ResolveSoundWrongFalsely : Prop := resolveSoundRow.holds Tryz.pinned (OpenSpec.ofChange resolveSoundWrong)

/-- 'arbiterlaw11.ResolveGrows': WHATEVER THE INPUT: true; the input reads as it did. -/
def resolveGrowsSpec : ChangeSpec := { name := "resolveGrows", fn := fun _ => fun
  | [d1, d2, d3, d4] => { results := [.lit (.bool true)], args := [d1, d2, d3, d4] }
  | _ => none }
def resolveGrowsRow : OpenClaim := { program := "ytgppadlkollfaaagreat", sum := "06ad4be0c6af25813dd04b3e2794ac0cf8f27ff50c7f161e9c7769d4804d96f6", func := "arbiter/arbiterlaw11.ResolveGrows", spec := "resolveGrows", inPlace := ["internal/bytealg.IndexByteString", "internal/bytealg.IndexString"], unfollowed := true, recurses := true, named := ["internal/bytealg.MaxLen"], apart := false }
def ResolveGrowsSaid : Prop := resolveGrowsRow.holds Tryz.pinned (OpenSpec.ofChange resolveGrowsSpec)

/-- ITS FALSE NEIGHBOUR: 'it returns false'. Refute it at one input. -/
def resolveGrowsWrong : ChangeSpec := { name := "resolveGrows", fn := fun _ => fun
  | [d1, d2, d3, d4] => { results := [.lit (.bool false)], args := [d1, d2, d3, d4] }
  | _ => none }
def ResolveGrowsWrongFalsely : Prop := resolveGrowsRow.holds Tryz.pinned (OpenSpec.ofChange resolveGrowsWrong)

/-- 'arbiterlaw11.ResolveNearest': WHATEVER THE INPUT: true; the input reads as it did. -/
def resolveNearestSpec : ChangeSpec := { name := "resolveNearest", fn := fun _ => fun
  | [d1, d2, d3, d4] => { results := [.lit (.bool true)], args := [d1, d2, d3, d4] }
  | _ => none }
def resolveNearestRow : OpenClaim := { program := "ytgppadlkollfaaagreat", sum := "06ad4be0c6af25813dd04b3e2794ac0cf8f27ff50c7f161e9c7769d4804d96f6", func := "arbiter/arbiterlaw11.ResolveNearest", spec := "resolveNearest", inPlace := ["internal/bytealg.IndexByteString", "internal/bytealg.IndexString"], unfollowed := true, recurses := true, named := ["internal/bytealg.MaxLen"], apart := false }
def ResolveNearestSaid : Prop := resolveNearestRow.holds Tryz.pinned (OpenSpec.ofChange resolveNearestSpec)

/-- ITS FALSE NEIGHBOUR: 'it returns false'. Refute it at one input. -/
def resolveNearestWrong : ChangeSpec := { name := "resolveNearest", fn := fun _ => fun
  | [d1, d2, d3, d4] => { results := [.lit (.bool false)], args := [d1, d2, d3, d4] }
  | _ => none }
def ResolveNearestWrongFalsely : Prop := resolveNearestRow.holds Tryz.pinned (OpenSpec.ofChange resolveNearestWrong)

/-- 'arbiterlaw11.ResolveNil': WHATEVER THE INPUT: true; the input reads as it did. -/
def resolveNilSpec : ChangeSpec := { name := "resolveNil", fn := fun _ => fun
  | [] => { results := [.lit (.bool true)], args := [] }
  | _ => none }
def resolveNilRow : OpenClaim := { program := "ytgppadlkollfaaagreat", sum := "06ad4be0c6af25813dd04b3e2794ac0cf8f27ff50c7f161e9c7769d4804d96f6", func := "arbiter/arbiterlaw11.ResolveNil", spec := "resolveNil", inPlace := ["internal/bytealg.IndexByteString", "internal/bytealg.IndexString"], unfollowed := true, recurses := true, named := ["internal/bytealg.MaxLen"], apart := false }
def ResolveNilSaid : Prop := resolveNilRow.holds Tryz.pinned (OpenSpec.ofChange resolveNilSpec)

/-- ITS FALSE NEIGHBOUR: 'it returns false'. Refute it at one input. -/
def resolveNilWrong : ChangeSpec := { name := "resolveNil", fn := fun _ => fun
  | [] => { results := [.lit (.bool false)], args := [] }
  | _ => none }
def ResolveNilWrongFalsely : Prop := resolveNilRow.holds Tryz.pinned (OpenSpec.ofChange resolveNilWrong)

/-- 'arbiterlaw11.ResolveKin': WHATEVER THE INPUT: true; the input reads as it did. -/
def resolveKinSpec : ChangeSpec := { name := "resolveKin", fn := fun _ => fun
  | [d1, d2, d3, d4] => { results := [.lit (.bool true)], args := [d1, d2, d3, d4] }
  | _ => none }
def resolveKinRow : OpenClaim := { program := "ytgppadlkollfaaagreat", sum := "06ad4be0c6af25813dd04b3e2794ac0cf8f27ff50c7f161e9c7769d4804d96f6", func := "arbiter/arbiterlaw11.ResolveKin", spec := "resolveKin", inPlace := ["internal/bytealg.IndexByteString", "internal/bytealg.IndexString"], unfollowed := true, recurses := true, named := ["internal/bytealg.MaxLen"], apart := false }
def ResolveKinSaid : Prop := resolveKinRow.holds Tryz.pinned (OpenSpec.ofChange resolveKinSpec)

/-- ITS FALSE NEIGHBOUR: 'it returns false'. Refute it at one input. -/
def resolveKinWrong : ChangeSpec := { name := "resolveKin", fn := fun _ => fun
  | [d1, d2, d3, d4] => { results := [.lit (.bool false)], args := [d1, d2, d3, d4] }
  | _ => none }
def ResolveKinWrongFalsely : Prop := resolveKinRow.holds Tryz.pinned (OpenSpec.ofChange resolveKinWrong)

/- THE SECOND FORM. 'bulk': how many values and letters a reading holds, each counted each time it is reached (what is shared counts as often as it is met; a slice's spare places count too). A statement '..UptoSaid' is the law's where the arguments, and the package variables that the reading takes, are together of bulk at most 1048576: NARROWER than '..Said'. Prove '..Said' where nothing that the law and all that it calls make is longer than what came in: it says more and counts as full. Else prove '..UptoSaid'. A law counts once. -/
mutual
def uptoBulk {H : Type} : DataW H → Nat
  | .lit (.string bytes) => bytes.length + 1
  | .lit _ => 1
  | .nil => 1
  | .ptr d => uptoBulk d + 1
  | .slice elems spare => uptoBulkAll elems + uptoBulkAll spare + 1
  | .agg parts => uptoBulkAll parts + 1
  | .iface _ d => uptoBulk d + 1
  | .map entries => uptoBulkEntries entries + 1
  | .held _ => 1
def uptoBulkAll {H : Type} : List (DataW H) → Nat
  | [] => 0
  | d :: r => uptoBulk d + uptoBulkAll r
def uptoBulkEntries {H : Type} : List (Lit × DataW H) → Nat
  | [] => 0
  | x :: r => uptoBulkEntry x + uptoBulkEntries r
def uptoBulkEntry {H : Type} : Lit × DataW H → Nat
  | (.string bytes, d) => bytes.length + uptoBulk d + 1
  | (_, d) => uptoBulk d + 1
 end
def uptoSmall : (H : Type) → List (DataW H) → Bool := fun _ ds => decide (uptoBulkAll ds ≤ 1048576)
def OpenSpec.upto (s : _root_.Go.ChangeSpec) : _root_.Go.OpenSpec := { _root_.Go.OpenSpec.ofChange s with cond := some uptoSmall }

/-- 'arbiterlaw07.ArraysSub', WHERE WHAT IT READS IS OF BULK AT MOST 1048576: true; the input reads as it did. -/
def arraysSubUptoRow : OpenClaim := { program := "ytgppadlkollfaaagreat", sum := "06ad4be0c6af25813dd04b3e2794ac0cf8f27ff50c7f161e9c7769d4804d96f6", func := "arbiter/arbiterlaw07.ArraysSub", spec := "arraysSub", inPlace := ["internal/bytealg.IndexByteString", "internal/bytealg.IndexString"], unfollowed := true, recurses := true, named := ["internal/bytealg.MaxLen"], apart := false, narrowed := true }
def ArraysSubUptoSaid : Prop := arraysSubUptoRow.holds Tryz.pinned (OpenSpec.upto arraysSubSpec)

/-- 'arbiterlaw08.AccessMethods', WHERE WHAT IT READS IS OF BULK AT MOST 1048576: true; the input reads as it did. -/
def accessMethodsUptoRow : OpenClaim := { program := "ytgppadlkollfaaagreat", sum := "06ad4be0c6af25813dd04b3e2794ac0cf8f27ff50c7f161e9c7769d4804d96f6", func := "arbiter/arbiterlaw08.AccessMethods", spec := "accessMethods", inPlace := ["internal/bytealg.IndexByteString", "internal/bytealg.IndexString"], unfollowed := true, recurses := true, named := ["internal/bytealg.MaxLen"], apart := false, narrowed := true }
def AccessMethodsUptoSaid : Prop := accessMethodsUptoRow.holds Tryz.pinned (OpenSpec.upto accessMethodsSpec)

/-- 'arbiterlaw09.OverridePairs', WHERE WHAT IT READS IS OF BULK AT MOST 1048576: true; the input reads as it did. -/
def overridePairsUptoRow : OpenClaim := { program := "ytgppadlkollfaaagreat", sum := "06ad4be0c6af25813dd04b3e2794ac0cf8f27ff50c7f161e9c7769d4804d96f6", func := "arbiter/arbiterlaw09.OverridePairs", spec := "overridePairs", inPlace := ["internal/bytealg.IndexByteString", "internal/bytealg.IndexString"], unfollowed := true, recurses := true, named := ["internal/bytealg.MaxLen"], apart := false, narrowed := true }
def OverridePairsUptoSaid : Prop := overridePairsUptoRow.holds Tryz.pinned (OpenSpec.upto overridePairsSpec)

/-- 'arbiterlaw09.OverrideOrder', WHERE WHAT IT READS IS OF BULK AT MOST 1048576: true; the input reads as it did. -/
def overrideOrderUptoRow : OpenClaim := { program := "ytgppadlkollfaaagreat", sum := "06ad4be0c6af25813dd04b3e2794ac0cf8f27ff50c7f161e9c7769d4804d96f6", func := "arbiter/arbiterlaw09.OverrideOrder", spec := "overrideOrder", inPlace := ["internal/bytealg.IndexByteString", "internal/bytealg.IndexString"], unfollowed := true, recurses := true, named := ["internal/bytealg.MaxLen"], apart := false, narrowed := true }
def OverrideOrderUptoSaid : Prop := overrideOrderUptoRow.holds Tryz.pinned (OpenSpec.upto overrideOrderSpec)

/-- 'arbiterlaw10.MaxspecPlays', WHERE WHAT IT READS IS OF BULK AT MOST 1048576: true; the input reads as it did. -/
def maxspecPlaysUptoRow : OpenClaim := { program := "ytgppadlkollfaaagreat", sum := "06ad4be0c6af25813dd04b3e2794ac0cf8f27ff50c7f161e9c7769d4804d96f6", func := "arbiter/arbiterlaw10.MaxspecPlays", spec := "maxspecPlays", inPlace := ["internal/bytealg.IndexByteString", "internal/bytealg.IndexString"], unfollowed := true, recurses := true, named := ["internal/bytealg.MaxLen"], apart := false, narrowed := true }
def MaxspecPlaysUptoSaid : Prop := maxspecPlaysUptoRow.holds Tryz.pinned (OpenSpec.upto maxspecPlaysSpec)

/-- 'arbiterlaw11.ResolveMethods', WHERE WHAT IT READS IS OF BULK AT MOST 1048576: true; the input reads as it did. -/
def resolveMethodsUptoRow : OpenClaim := { program := "ytgppadlkollfaaagreat", sum := "06ad4be0c6af25813dd04b3e2794ac0cf8f27ff50c7f161e9c7769d4804d96f6", func := "arbiter/arbiterlaw11.ResolveMethods", spec := "resolveMethods", inPlace := ["internal/bytealg.IndexByteString", "internal/bytealg.IndexString"], unfollowed := true, recurses := true, named := ["internal/bytealg.MaxLen"], apart := false, narrowed := true }
def ResolveMethodsUptoSaid : Prop := resolveMethodsUptoRow.holds Tryz.pinned (OpenSpec.upto resolveMethodsSpec)

/-- 'arbiterlaw11.ResolvePlays', WHERE WHAT IT READS IS OF BULK AT MOST 1048576: true; the input reads as it did. -/
def resolvePlaysUptoRow : OpenClaim := { program := "ytgppadlkollfaaagreat", sum := "06ad4be0c6af25813dd04b3e2794ac0cf8f27ff50c7f161e9c7769d4804d96f6", func := "arbiter/arbiterlaw11.ResolvePlays", spec := "resolvePlays", inPlace := ["internal/bytealg.IndexByteString", "internal/bytealg.IndexString"], unfollowed := true, recurses := true, named := ["internal/bytealg.MaxLen"], apart := false, narrowed := true }
def ResolvePlaysUptoSaid : Prop := resolvePlaysUptoRow.holds Tryz.pinned (OpenSpec.upto resolvePlaysSpec)

/-- 'arbiterlaw11.ResolveSound', WHERE WHAT IT READS IS OF BULK AT MOST 1048576: true; the input reads as it did. -/
def resolveSoundUptoRow : OpenClaim := { program := "ytgppadlkollfaaagreat", sum := "06ad4be0c6af25813dd04b3e2794ac0cf8f27ff50c7f161e9c7769d4804d96f6", func := "arbiter/arbiterlaw11.ResolveSound", spec := "resolveSound", inPlace := ["internal/bytealg.IndexByteString", "internal/bytealg.IndexString"], unfollowed := true, recurses := true, named := ["internal/bytealg.MaxLen"], apart := false, narrowed := true }
def ResolveSoundUptoSaid : Prop := resolveSoundUptoRow.holds Tryz.pinned (OpenSpec.upto resolveSoundSpec)

/-- 'arbiterlaw11.ResolveGrows', WHERE WHAT IT READS IS OF BULK AT MOST 1048576: true; the input reads as it did. -/
def resolveGrowsUptoRow : OpenClaim := { program := "ytgppadlkollfaaagreat", sum := "06ad4be0c6af25813dd04b3e2794ac0cf8f27ff50c7f161e9c7769d4804d96f6", func := "arbiter/arbiterlaw11.ResolveGrows", spec := "resolveGrows", inPlace := ["internal/bytealg.IndexByteString", "internal/bytealg.IndexString"], unfollowed := true, recurses := true, named := ["internal/bytealg.MaxLen"], apart := false, narrowed := true }
def ResolveGrowsUptoSaid : Prop := resolveGrowsUptoRow.holds Tryz.pinned (OpenSpec.upto resolveGrowsSpec)

/-- 'arbiterlaw11.ResolveNearest', WHERE WHAT IT READS IS OF BULK AT MOST 1048576: true; the input reads as it did. -/
def resolveNearestUptoRow : OpenClaim := { program := "ytgppadlkollfaaagreat", sum := "06ad4be0c6af25813dd04b3e2794ac0cf8f27ff50c7f161e9c7769d4804d96f6", func := "arbiter/arbiterlaw11.ResolveNearest", spec := "resolveNearest", inPlace := ["internal/bytealg.IndexByteString", "internal/bytealg.IndexString"], unfollowed := true, recurses := true, named := ["internal/bytealg.MaxLen"], apart := false, narrowed := true }
def ResolveNearestUptoSaid : Prop := resolveNearestUptoRow.holds Tryz.pinned (OpenSpec.upto resolveNearestSpec)

/-- 'arbiterlaw11.ResolveNil', WHERE WHAT IT READS IS OF BULK AT MOST 1048576: true; the input reads as it did. -/
def resolveNilUptoRow : OpenClaim := { program := "ytgppadlkollfaaagreat", sum := "06ad4be0c6af25813dd04b3e2794ac0cf8f27ff50c7f161e9c7769d4804d96f6", func := "arbiter/arbiterlaw11.ResolveNil", spec := "resolveNil", inPlace := ["internal/bytealg.IndexByteString", "internal/bytealg.IndexString"], unfollowed := true, recurses := true, named := ["internal/bytealg.MaxLen"], apart := false, narrowed := true }
def ResolveNilUptoSaid : Prop := resolveNilUptoRow.holds Tryz.pinned (OpenSpec.upto resolveNilSpec)

/-- 'arbiterlaw11.ResolveKin', WHERE WHAT IT READS IS OF BULK AT MOST 1048576: true; the input reads as it did. -/
def resolveKinUptoRow : OpenClaim := { program := "ytgppadlkollfaaagreat", sum := "06ad4be0c6af25813dd04b3e2794ac0cf8f27ff50c7f161e9c7769d4804d96f6", func := "arbiter/arbiterlaw11.ResolveKin", spec := "resolveKin", inPlace := ["internal/bytealg.IndexByteString", "internal/bytealg.IndexString"], unfollowed := true, recurses := true, named := ["internal/bytealg.MaxLen"], apart := false, narrowed := true }
def ResolveKinUptoSaid : Prop := resolveKinUptoRow.holds Tryz.pinned (OpenSpec.upto resolveKinSpec)

end Rows
end Go.Proofs.YtgppadlkollfaaaGreat
