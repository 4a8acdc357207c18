/-
  No cell of these rows narrows 'for every input' (looked for: loops, veiled, ifaces, maps, wideKeys, modest, calm, conditions, laid).
  DERIVED. THE GIVEN ROWS OF THIS SEAT. 12 by the template 'for every input the law returns true; each argument reads behind the call as it read before'; 0 by the template 'total and deterministic' (their statements: YtfoldbhlmmmpeaaGreatTotals.lean).
  GIVEN WITH THE SEED: the statements are not yours to turn. If you find one false, say at which input.
  Laid BY PROGRAM, IN A SANDBOX (cutbox-rows.mjs): the forced cells as the released guide's own fill.sh prints them over the translation b83a9b71a514b0e6… (all of the seat's roots in one cut). By AI agents, Wed Nov 11 2026. No macro, syntax, notation, axiom, sorry.
-/
import Derived.Test.YtfoldbhlmmmpeaaGreatChecked
import GoSem.Claim
import GoSem.ClaimJoined
import GoSem.ClaimMapViews
import Derived.JoinedTies
import Derived.KernelRfl
namespace Go.Proofs.YtfoldbhlmmmpeaaGreat
/- THE CELL 'sum', in the pinned program and in every row, IS THE sha256 OF THE DUMP (.gsa) THAT YtfoldbhlmmmpeaaGreatProg.lean LOADS. Nothing in Lean hashes anything: it is a label: what it is worth is what the hold of that sum in a sandbox is worth. -/
noncomputable def Tryz.pinned : Pinned := { name := "ytfoldbhlmmmpeaagreat", sum := "b83a9b71a514b0e67930e91dc9bbf0411e74d54ec3a987d1d367801cdfbb105d", checked := Tryz.checked }
namespace Rows
def none {H : Type} : Left H := { results := [], args := [] }

/-- 'arbiterlaw09.OverridePairs': WHATEVER THE INPUT: true; the input reads as it did. -/
def overridePairsSpec : ChangeSpec := { name := "overridePairs", fn := fun _ => fun
  | [d1, d2, d3] => { results := [.lit (.bool true)], args := [d1, d2, d3] }
  | _ => none }
def overridePairsRow : OpenClaim := { program := "ytfoldbhlmmmpeaagreat", sum := "b83a9b71a514b0e67930e91dc9bbf0411e74d54ec3a987d1d367801cdfbb105d", func := "arbiter/arbiterlaw09.OverridePairs", spec := "overridePairs", inPlace := ["internal/bytealg.IndexByteString", "internal/bytealg.IndexString"], unfollowed := true, recurses := true, named := ["internal/bytealg.MaxLen"], apart := false }
def OverridePairsSaid : Prop := overridePairsRow.holds Tryz.pinned (OpenSpec.ofChange overridePairsSpec)

/-- ITS FALSE NEIGHBOUR: 'it returns false'. Refute it at one input. -/
def overridePairsWrong : ChangeSpec := { name := "overridePairs", fn := fun _ => fun
  | [d1, d2, d3] => { results := [.lit (.bool false)], args := [d1, d2, d3] }
  | _ => none }
def OverridePairsWrongFalsely : Prop := overridePairsRow.holds Tryz.pinned (OpenSpec.ofChange overridePairsWrong)

/-- 'arbiterlaw09.OverrideFirst': WHATEVER THE INPUT: true; the input reads as it did. -/
def overrideFirstSpec : ChangeSpec := { name := "overrideFirst", fn := fun _ => fun
  | [d1, d2, d3] => { results := [.lit (.bool true)], args := [d1, d2, d3] }
  | _ => none }
def overrideFirstRow : OpenClaim := { program := "ytfoldbhlmmmpeaagreat", sum := "b83a9b71a514b0e67930e91dc9bbf0411e74d54ec3a987d1d367801cdfbb105d", func := "arbiter/arbiterlaw09.OverrideFirst", spec := "overrideFirst", inPlace := ["internal/bytealg.IndexByteString", "internal/bytealg.IndexString"], unfollowed := true, recurses := true, named := ["internal/bytealg.MaxLen"], apart := false }
def OverrideFirstSaid : Prop := overrideFirstRow.holds Tryz.pinned (OpenSpec.ofChange overrideFirstSpec)

/-- ITS FALSE NEIGHBOUR: 'it returns false'. Refute it at one input. -/
def overrideFirstWrong : ChangeSpec := { name := "overrideFirst", fn := fun _ => fun
  | [d1, d2, d3] => { results := [.lit (.bool false)], args := [d1, d2, d3] }
  | _ => none }
def OverrideFirstWrongFalsely : Prop := overrideFirstRow.holds Tryz.pinned (OpenSpec.ofChange overrideFirstWrong)

/-- 'arbiterlaw09.OverrideOrder': WHATEVER THE INPUT: true; the input reads as it did. -/
def overrideOrderSpec : ChangeSpec := { name := "overrideOrder", fn := fun _ => fun
  | [d1, d2, d3, d4] => { results := [.lit (.bool true)], args := [d1, d2, d3, d4] }
  | _ => none }
def overrideOrderRow : OpenClaim := { program := "ytfoldbhlmmmpeaagreat", sum := "b83a9b71a514b0e67930e91dc9bbf0411e74d54ec3a987d1d367801cdfbb105d", func := "arbiter/arbiterlaw09.OverrideOrder", spec := "overrideOrder", inPlace := ["internal/bytealg.IndexByteString", "internal/bytealg.IndexString"], unfollowed := true, recurses := true, named := ["internal/bytealg.MaxLen"], apart := false }
def OverrideOrderSaid : Prop := overrideOrderRow.holds Tryz.pinned (OpenSpec.ofChange overrideOrderSpec)

/-- ITS FALSE NEIGHBOUR: 'it returns false'. Refute it at one input. -/
def overrideOrderWrong : ChangeSpec := { name := "overrideOrder", fn := fun _ => fun
  | [d1, d2, d3, d4] => { results := [.lit (.bool false)], args := [d1, d2, d3, d4] }
  | _ => none }
def OverrideOrderWrongFalsely : Prop := overrideOrderRow.holds Tryz.pinned (OpenSpec.ofChange overrideOrderWrong)

/-- 'arbiterlaw11.ResolveMethods': WHATEVER THE INPUT: true; the input reads as it did. -/
def resolveMethodsSpec : ChangeSpec := { name := "resolveMethods", fn := fun _ => fun
  | [d1, d2, d3] => { results := [.lit (.bool true)], args := [d1, d2, d3] }
  | _ => none }
def resolveMethodsRow : OpenClaim := { program := "ytfoldbhlmmmpeaagreat", sum := "b83a9b71a514b0e67930e91dc9bbf0411e74d54ec3a987d1d367801cdfbb105d", func := "arbiter/arbiterlaw11.ResolveMethods", spec := "resolveMethods", inPlace := ["internal/bytealg.IndexByteString", "internal/bytealg.IndexString"], unfollowed := true, recurses := true, named := ["internal/bytealg.MaxLen"], apart := false }
def ResolveMethodsSaid : Prop := resolveMethodsRow.holds Tryz.pinned (OpenSpec.ofChange resolveMethodsSpec)

/-- ITS FALSE NEIGHBOUR: 'it returns false'. Refute it at one input. -/
def resolveMethodsWrong : ChangeSpec := { name := "resolveMethods", fn := fun _ => fun
  | [d1, d2, d3] => { results := [.lit (.bool false)], args := [d1, d2, d3] }
  | _ => none }
def ResolveMethodsWrongFalsely : Prop := resolveMethodsRow.holds Tryz.pinned (OpenSpec.ofChange resolveMethodsWrong)

/-- 'arbiterlaw12.ChooseCalls': WHATEVER THE INPUT: true; the input reads as it did. -/
def chooseCallsSpec : ChangeSpec := { name := "chooseCalls", fn := fun _ => fun
  | [d1, d2, d3, d4, d5] => { results := [.lit (.bool true)], args := [d1, d2, d3, d4, d5] }
  | _ => none }
def chooseCallsRow : OpenClaim := { program := "ytfoldbhlmmmpeaagreat", sum := "b83a9b71a514b0e67930e91dc9bbf0411e74d54ec3a987d1d367801cdfbb105d", func := "arbiter/arbiterlaw12.ChooseCalls", spec := "chooseCalls", inPlace := ["internal/bytealg.IndexByteString", "internal/bytealg.IndexString"], unfollowed := true, recurses := true, named := ["internal/bytealg.MaxLen"], apart := false }
def ChooseCallsSaid : Prop := chooseCallsRow.holds Tryz.pinned (OpenSpec.ofChange chooseCallsSpec)

/-- ITS FALSE NEIGHBOUR: 'it returns false'. Refute it at one input. -/
def chooseCallsWrong : ChangeSpec := { name := "chooseCalls", fn := fun _ => fun
  | [d1, d2, d3, d4, d5] => { results := [.lit (.bool false)], args := [d1, d2, d3, d4, d5] }
  | _ => none }
def ChooseCallsWrongFalsely : Prop := chooseCallsRow.holds Tryz.pinned (OpenSpec.ofChange chooseCallsWrong)

/-- 'arbiterlaw12.ChoosePlays': WHATEVER THE INPUT: true; the input reads as it did. -/
def choosePlaysSpec : ChangeSpec := { name := "choosePlays", fn := fun _ => fun
  | [d1, d2, d3, d4, d5] => { results := [.lit (.bool true)], args := [d1, d2, d3, d4, d5] }
  | _ => none }
def choosePlaysRow : OpenClaim := { program := "ytfoldbhlmmmpeaagreat", sum := "b83a9b71a514b0e67930e91dc9bbf0411e74d54ec3a987d1d367801cdfbb105d", func := "arbiter/arbiterlaw12.ChoosePlays", spec := "choosePlays", inPlace := ["internal/bytealg.IndexByteString", "internal/bytealg.IndexString"], unfollowed := true, recurses := true, named := ["internal/bytealg.MaxLen"], apart := false }
def ChoosePlaysSaid : Prop := choosePlaysRow.holds Tryz.pinned (OpenSpec.ofChange choosePlaysSpec)

/-- ITS FALSE NEIGHBOUR: 'it returns false'. Refute it at one input. -/
def choosePlaysWrong : ChangeSpec := { name := "choosePlays", fn := fun _ => fun
  | [d1, d2, d3, d4, d5] => { results := [.lit (.bool false)], args := [d1, d2, d3, d4, d5] }
  | _ => none }
def ChoosePlaysWrongFalsely : Prop := choosePlaysRow.holds Tryz.pinned (OpenSpec.ofChange choosePlaysWrong)

/-- 'arbiterlaw12.ChooseSelects': WHATEVER THE INPUT: true; the input reads as it did. -/
def chooseSelectsSpec : ChangeSpec := { name := "chooseSelects", fn := fun _ => fun
  | [d1, d2, d3] => { results := [.lit (.bool true)], args := [d1, d2, d3] }
  | _ => none }
def chooseSelectsRow : OpenClaim := { program := "ytfoldbhlmmmpeaagreat", sum := "b83a9b71a514b0e67930e91dc9bbf0411e74d54ec3a987d1d367801cdfbb105d", func := "arbiter/arbiterlaw12.ChooseSelects", spec := "chooseSelects", inPlace := ["internal/bytealg.IndexByteString", "internal/bytealg.IndexString"], unfollowed := true, recurses := true, named := ["internal/bytealg.MaxLen"], apart := false }
def ChooseSelectsSaid : Prop := chooseSelectsRow.holds Tryz.pinned (OpenSpec.ofChange chooseSelectsSpec)

/-- ITS FALSE NEIGHBOUR: 'it returns false'. Refute it at one input. -/
def chooseSelectsWrong : ChangeSpec := { name := "chooseSelects", fn := fun _ => fun
  | [d1, d2, d3] => { results := [.lit (.bool false)], args := [d1, d2, d3] }
  | _ => none }
def ChooseSelectsWrongFalsely : Prop := chooseSelectsRow.holds Tryz.pinned (OpenSpec.ofChange chooseSelectsWrong)

/-- 'arbiterlaw12.ChooseAgree': WHATEVER THE INPUT: true; the input reads as it did. -/
def chooseAgreeSpec : ChangeSpec := { name := "chooseAgree", fn := fun _ => fun
  | [d1, d2, d3] => { results := [.lit (.bool true)], args := [d1, d2, d3] }
  | _ => none }
def chooseAgreeRow : OpenClaim := { program := "ytfoldbhlmmmpeaagreat", sum := "b83a9b71a514b0e67930e91dc9bbf0411e74d54ec3a987d1d367801cdfbb105d", func := "arbiter/arbiterlaw12.ChooseAgree", spec := "chooseAgree", inPlace := ["internal/bytealg.IndexByteString", "internal/bytealg.IndexString"], unfollowed := true, recurses := true, named := ["internal/bytealg.MaxLen"], apart := false }
def ChooseAgreeSaid : Prop := chooseAgreeRow.holds Tryz.pinned (OpenSpec.ofChange chooseAgreeSpec)

/-- ITS FALSE NEIGHBOUR: 'it returns false'. Refute it at one input. -/
def chooseAgreeWrong : ChangeSpec := { name := "chooseAgree", fn := fun _ => fun
  | [d1, d2, d3] => { results := [.lit (.bool false)], args := [d1, d2, d3] }
  | _ => none }
def ChooseAgreeWrongFalsely : Prop := chooseAgreeRow.holds Tryz.pinned (OpenSpec.ofChange chooseAgreeWrong)

/-- 'arbiterlaw12.ChooseGrows': WHATEVER THE INPUT: true; the input reads as it did. -/
def chooseGrowsSpec : ChangeSpec := { name := "chooseGrows", fn := fun _ => fun
  | [d1, d2, d3, d4, d5, d6] => { results := [.lit (.bool true)], args := [d1, d2, d3, d4, d5, d6] }
  | _ => none }
def chooseGrowsRow : OpenClaim := { program := "ytfoldbhlmmmpeaagreat", sum := "b83a9b71a514b0e67930e91dc9bbf0411e74d54ec3a987d1d367801cdfbb105d", func := "arbiter/arbiterlaw12.ChooseGrows", spec := "chooseGrows", inPlace := ["internal/bytealg.IndexByteString", "internal/bytealg.IndexString"], unfollowed := true, recurses := true, named := ["internal/bytealg.MaxLen"], apart := false }
def ChooseGrowsSaid : Prop := chooseGrowsRow.holds Tryz.pinned (OpenSpec.ofChange chooseGrowsSpec)

/-- ITS FALSE NEIGHBOUR: 'it returns false'. Refute it at one input. -/
def chooseGrowsWrong : ChangeSpec := { name := "chooseGrows", fn := fun _ => fun
  | [d1, d2, d3, d4, d5, d6] => { results := [.lit (.bool false)], args := [d1, d2, d3, d4, d5, d6] }
  | _ => none }
def ChooseGrowsWrongFalsely : Prop := chooseGrowsRow.holds Tryz.pinned (OpenSpec.ofChange chooseGrowsWrong)

/-- 'arbiterlaw12.ChooseWhole': WHATEVER THE INPUT: true; the input reads as it did. -/
def chooseWholeSpec : ChangeSpec := { name := "chooseWhole", fn := fun _ => fun
  | [d1, d2, d3, d4, d5] => { results := [.lit (.bool true)], args := [d1, d2, d3, d4, d5] }
  | _ => none }
def chooseWholeRow : OpenClaim := { program := "ytfoldbhlmmmpeaagreat", sum := "b83a9b71a514b0e67930e91dc9bbf0411e74d54ec3a987d1d367801cdfbb105d", func := "arbiter/arbiterlaw12.ChooseWhole", spec := "chooseWhole", inPlace := ["internal/bytealg.IndexByteString", "internal/bytealg.IndexString"], unfollowed := true, recurses := true, named := ["internal/bytealg.MaxLen"], apart := false }
def ChooseWholeSaid : Prop := chooseWholeRow.holds Tryz.pinned (OpenSpec.ofChange chooseWholeSpec)

/-- ITS FALSE NEIGHBOUR: 'it returns false'. Refute it at one input. -/
def chooseWholeWrong : ChangeSpec := { name := "chooseWhole", fn := fun _ => fun
  | [d1, d2, d3, d4, d5] => { results := [.lit (.bool false)], args := [d1, d2, d3, d4, d5] }
  | _ => none }
def ChooseWholeWrongFalsely : Prop := chooseWholeRow.holds Tryz.pinned (OpenSpec.ofChange chooseWholeWrong)

/-- 'arbiterlaw12.ChooseNil': WHATEVER THE INPUT: true; the input reads as it did. -/
def chooseNilSpec : ChangeSpec := { name := "chooseNil", fn := fun _ => fun
  | [] => { results := [.lit (.bool true)], args := [] }
  | _ => none }
def chooseNilRow : OpenClaim := { program := "ytfoldbhlmmmpeaagreat", sum := "b83a9b71a514b0e67930e91dc9bbf0411e74d54ec3a987d1d367801cdfbb105d", func := "arbiter/arbiterlaw12.ChooseNil", spec := "chooseNil", inPlace := ["internal/bytealg.IndexByteString", "internal/bytealg.IndexString"], unfollowed := true, recurses := true, named := ["internal/bytealg.MaxLen"], apart := false }
def ChooseNilSaid : Prop := chooseNilRow.holds Tryz.pinned (OpenSpec.ofChange chooseNilSpec)

/-- ITS FALSE NEIGHBOUR: 'it returns false'. Refute it at one input. -/
def chooseNilWrong : ChangeSpec := { name := "chooseNil", fn := fun _ => fun
  | [] => { results := [.lit (.bool false)], args := [] }
  | _ => none }
def ChooseNilWrongFalsely : Prop := chooseNilRow.holds Tryz.pinned (OpenSpec.ofChange chooseNilWrong)

/-- 'arbiterlaw12.ChoosePrivate': WHATEVER THE INPUT: true; the input reads as it did. -/
def choosePrivateSpec : ChangeSpec := { name := "choosePrivate", fn := fun _ => fun
  | [d1, d2, d3] => { results := [.lit (.bool true)], args := [d1, d2, d3] }
  | _ => none }
def choosePrivateRow : OpenClaim := { program := "ytfoldbhlmmmpeaagreat", sum := "b83a9b71a514b0e67930e91dc9bbf0411e74d54ec3a987d1d367801cdfbb105d", func := "arbiter/arbiterlaw12.ChoosePrivate", spec := "choosePrivate", inPlace := ["internal/bytealg.IndexByteString", "internal/bytealg.IndexString"], unfollowed := true, recurses := true, named := ["internal/bytealg.MaxLen"], apart := false }
def ChoosePrivateSaid : Prop := choosePrivateRow.holds Tryz.pinned (OpenSpec.ofChange choosePrivateSpec)

/-- ITS FALSE NEIGHBOUR: 'it returns false'. Refute it at one input. -/
def choosePrivateWrong : ChangeSpec := { name := "choosePrivate", fn := fun _ => fun
  | [d1, d2, d3] => { results := [.lit (.bool false)], args := [d1, d2, d3] }
  | _ => none }
def ChoosePrivateWrongFalsely : Prop := choosePrivateRow.holds Tryz.pinned (OpenSpec.ofChange choosePrivateWrong)

/- THE SECOND FORM. 'bulk': how many values and letters a reading holds, each counted each time it is reached (what is shared counts as often as it is met; a slice's spare places count too). A statement '..UptoSaid' is the law's where the arguments, and the package variables that the reading takes, are together of bulk at most 1048576: NARROWER than '..Said'. Prove '..Said' where nothing that the law and all that it calls make is longer than what came in: it says more and counts as full. Else prove '..UptoSaid'. A law counts once. -/
mutual
def uptoBulk {H : Type} : DataW H → Nat
  | .lit (.string bytes) => bytes.length + 1
  | .lit _ => 1
  | .nil => 1
  | .ptr d => uptoBulk d + 1
  | .slice elems spare => uptoBulkAll elems + uptoBulkAll spare + 1
  | .agg parts => uptoBulkAll parts + 1
  | .iface _ d => uptoBulk d + 1
  | .map entries => uptoBulkEntries entries + 1
  | .held _ => 1
def uptoBulkAll {H : Type} : List (DataW H) → Nat
  | [] => 0
  | d :: r => uptoBulk d + uptoBulkAll r
def uptoBulkEntries {H : Type} : List (Lit × DataW H) → Nat
  | [] => 0
  | x :: r => uptoBulkEntry x + uptoBulkEntries r
def uptoBulkEntry {H : Type} : Lit × DataW H → Nat
  | (.string bytes, d) => bytes.length + uptoBulk d + 1
  | (_, d) => uptoBulk d + 1
 end
def uptoSmall : (H : Type) → List (DataW H) → Bool := fun _ ds => decide (uptoBulkAll ds ≤ 1048576)
def OpenSpec.upto (s : _root_.Go.ChangeSpec) : _root_.Go.OpenSpec := { _root_.Go.OpenSpec.ofChange s with cond := some uptoSmall }

/-- 'arbiterlaw09.OverridePairs', WHERE WHAT IT READS IS OF BULK AT MOST 1048576: true; the input reads as it did. -/
def overridePairsUptoRow : OpenClaim := { program := "ytfoldbhlmmmpeaagreat", sum := "b83a9b71a514b0e67930e91dc9bbf0411e74d54ec3a987d1d367801cdfbb105d", func := "arbiter/arbiterlaw09.OverridePairs", spec := "overridePairs", inPlace := ["internal/bytealg.IndexByteString", "internal/bytealg.IndexString"], unfollowed := true, recurses := true, named := ["internal/bytealg.MaxLen"], apart := false, narrowed := true }
def OverridePairsUptoSaid : Prop := overridePairsUptoRow.holds Tryz.pinned (OpenSpec.upto overridePairsSpec)

/-- 'arbiterlaw09.OverrideFirst', WHERE WHAT IT READS IS OF BULK AT MOST 1048576: true; the input reads as it did. -/
def overrideFirstUptoRow : OpenClaim := { program := "ytfoldbhlmmmpeaagreat", sum := "b83a9b71a514b0e67930e91dc9bbf0411e74d54ec3a987d1d367801cdfbb105d", func := "arbiter/arbiterlaw09.OverrideFirst", spec := "overrideFirst", inPlace := ["internal/bytealg.IndexByteString", "internal/bytealg.IndexString"], unfollowed := true, recurses := true, named := ["internal/bytealg.MaxLen"], apart := false, narrowed := true }
def OverrideFirstUptoSaid : Prop := overrideFirstUptoRow.holds Tryz.pinned (OpenSpec.upto overrideFirstSpec)

/-- 'arbiterlaw09.OverrideOrder', WHERE WHAT IT READS IS OF BULK AT MOST 1048576: true; the input reads as it did. -/
def overrideOrderUptoRow : OpenClaim := { program := "ytfoldbhlmmmpeaagreat", sum := "b83a9b71a514b0e67930e91dc9bbf0411e74d54ec3a987d1d367801cdfbb105d", func := "arbiter/arbiterlaw09.OverrideOrder", spec := "overrideOrder", inPlace := ["internal/bytealg.IndexByteString", "internal/bytealg.IndexString"], unfollowed := true, recurses := true, named := ["internal/bytealg.MaxLen"], apart := false, narrowed := true }
def OverrideOrderUptoSaid : Prop := overrideOrderUptoRow.holds Tryz.pinned (OpenSpec.upto overrideOrderSpec)

/-- 'arbiterlaw11.ResolveMethods', WHERE WHAT IT READS IS OF BULK AT MOST 1048576: true; the input reads as it did. -/
def resolveMethodsUptoRow : OpenClaim := { program := "ytfoldbhlmmmpeaagreat", sum := "b83a9b71a514b0e67930e91dc9bbf0411e74d54ec3a987d1d367801cdfbb105d", func := "arbiter/arbiterlaw11.ResolveMethods", spec := "resolveMethods", inPlace := ["internal/bytealg.IndexByteString", "internal/bytealg.IndexString"], unfollowed := true, recurses := true, named := ["internal/bytealg.MaxLen"], apart := false, narrowed := true }
def ResolveMethodsUptoSaid : Prop := resolveMethodsUptoRow.holds Tryz.pinned (OpenSpec.upto resolveMethodsSpec)

/-- 'arbiterlaw12.ChooseCalls', WHERE WHAT IT READS IS OF BULK AT MOST 1048576: true; the input reads as it did. -/
def chooseCallsUptoRow : OpenClaim := { program := "ytfoldbhlmmmpeaagreat", sum := "b83a9b71a514b0e67930e91dc9bbf0411e74d54ec3a987d1d367801cdfbb105d", func := "arbiter/arbiterlaw12.ChooseCalls", spec := "chooseCalls", inPlace := ["internal/bytealg.IndexByteString", "internal/bytealg.IndexString"], unfollowed := true, recurses := true, named := ["internal/bytealg.MaxLen"], apart := false, narrowed := true }
def ChooseCallsUptoSaid : Prop := chooseCallsUptoRow.holds Tryz.pinned (OpenSpec.upto chooseCallsSpec)

/-- 'arbiterlaw12.ChoosePlays', WHERE WHAT IT READS IS OF BULK AT MOST 1048576: true; the input reads as it did. -/
def choosePlaysUptoRow : OpenClaim := { program := "ytfoldbhlmmmpeaagreat", sum := "b83a9b71a514b0e67930e91dc9bbf0411e74d54ec3a987d1d367801cdfbb105d", func := "arbiter/arbiterlaw12.ChoosePlays", spec := "choosePlays", inPlace := ["internal/bytealg.IndexByteString", "internal/bytealg.IndexString"], unfollowed := true, recurses := true, named := ["internal/bytealg.MaxLen"], apart := false, narrowed := true }
def ChoosePlaysUptoSaid : Prop := choosePlaysUptoRow.holds Tryz.pinned (OpenSpec.upto choosePlaysSpec)

/-- 'arbiterlaw12.ChooseSelects', WHERE WHAT IT READS IS OF BULK AT MOST 1048576: true; the input reads as it did. -/
def chooseSelectsUptoRow : OpenClaim := { program := "ytfoldbhlmmmpeaagreat", sum := "b83a9b71a514b0e67930e91dc9bbf0411e74d54ec3a987d1d367801cdfbb105d", func := "arbiter/arbiterlaw12.ChooseSelects", spec := "chooseSelects", inPlace := ["internal/bytealg.IndexByteString", "internal/bytealg.IndexString"], unfollowed := true, recurses := true, named := ["internal/bytealg.MaxLen"], apart := false, narrowed := true }
def ChooseSelectsUptoSaid : Prop := chooseSelectsUptoRow.holds Tryz.pinned (OpenSpec.upto chooseSelectsSpec)

/-- 'arbiterlaw12.ChooseAgree', WHERE WHAT IT READS IS OF BULK AT MOST 1048576: true; the input reads as it did. -/
def chooseAgreeUptoRow : OpenClaim := { program := "ytfoldbhlmmmpeaagreat", sum := "b83a9b71a514b0e67930e91dc9bbf0411e74d54ec3a987d1d367801cdfbb105d", func := "arbiter/arbiterlaw12.ChooseAgree", spec := "chooseAgree", inPlace := ["internal/bytealg.IndexByteString", "internal/bytealg.IndexString"], unfollowed := true, recurses := true, named := ["internal/bytealg.MaxLen"], apart := false, narrowed := true }
def ChooseAgreeUptoSaid : Prop := chooseAgreeUptoRow.holds Tryz.pinned (OpenSpec.upto chooseAgreeSpec)

/-- 'arbiterlaw12.ChooseGrows', WHERE WHAT IT READS IS OF BULK AT MOST 1048576: true; the input reads as it did. -/
def chooseGrowsUptoRow : OpenClaim := { program := "ytfoldbhlmmmpeaagreat", sum := "b83a9b71a514b0e67930e91dc9bbf0411e74d54ec3a987d1d367801cdfbb105d", func := "arbiter/arbiterlaw12.ChooseGrows", spec := "chooseGrows", inPlace := ["internal/bytealg.IndexByteString", "internal/bytealg.IndexString"], unfollowed := true, recurses := true, named := ["internal/bytealg.MaxLen"], apart := false, narrowed := true }
def ChooseGrowsUptoSaid : Prop := chooseGrowsUptoRow.holds Tryz.pinned (OpenSpec.upto chooseGrowsSpec)

/-- 'arbiterlaw12.ChooseWhole', WHERE WHAT IT READS IS OF BULK AT MOST 1048576: true; the input reads as it did. -/
def chooseWholeUptoRow : OpenClaim := { program := "ytfoldbhlmmmpeaagreat", sum := "b83a9b71a514b0e67930e91dc9bbf0411e74d54ec3a987d1d367801cdfbb105d", func := "arbiter/arbiterlaw12.ChooseWhole", spec := "chooseWhole", inPlace := ["internal/bytealg.IndexByteString", "internal/bytealg.IndexString"], unfollowed := true, recurses := true, named := ["internal/bytealg.MaxLen"], apart := false, narrowed := true }
def ChooseWholeUptoSaid : Prop := chooseWholeUptoRow.holds Tryz.pinned (OpenSpec.upto chooseWholeSpec)

/-- 'arbiterlaw12.ChooseNil', WHERE WHAT IT READS IS OF BULK AT MOST 1048576: true; the input reads as it did. -/
def chooseNilUptoRow : OpenClaim := { program := "ytfoldbhlmmmpeaagreat", sum := "b83a9b71a514b0e67930e91dc9bbf0411e74d54ec3a987d1d367801cdfbb105d", func := "arbiter/arbiterlaw12.ChooseNil", spec := "chooseNil", inPlace := ["internal/bytealg.IndexByteString", "internal/bytealg.IndexString"], unfollowed := true, recurses := true, named := ["internal/bytealg.MaxLen"], apart := false, narrowed := true }
def ChooseNilUptoSaid : Prop := chooseNilUptoRow.holds Tryz.pinned (OpenSpec.upto chooseNilSpec)

/-- 'arbiterlaw12.ChoosePrivate', WHERE WHAT IT READS IS OF BULK AT MOST 1048576: true; the input reads as it did. -/
def choosePrivateUptoRow : OpenClaim := { program := "ytfoldbhlmmmpeaagreat", sum := "b83a9b71a514b0e67930e91dc9bbf0411e74d54ec3a987d1d367801cdfbb105d", func := "arbiter/arbiterlaw12.ChoosePrivate", spec := "choosePrivate", inPlace := ["internal/bytealg.IndexByteString", "internal/bytealg.IndexString"], unfollowed := true, recurses := true, named := ["internal/bytealg.MaxLen"], apart := false, narrowed := true }
def ChoosePrivateUptoSaid : Prop := choosePrivateUptoRow.holds Tryz.pinned (OpenSpec.upto choosePrivateSpec)

end Rows
end Go.Proofs.YtfoldbhlmmmpeaaGreat
