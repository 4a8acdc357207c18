/-
  No cell of these rows narrows 'for every input' (looked for: loops, veiled, ifaces, maps, wideKeys, modest, calm, conditions, laid).
  DERIVED. THE GIVEN ROWS OF THIS SEAT. 12 by the template 'for every input the law returns true; each argument reads behind the call as it read before'; 0 by the template 'total and deterministic' (their statements: YtjlfnelihbdhjaaGreatTotals.lean).
  GIVEN WITH THE SEED: the statements are not yours to turn. If you find one false, say at which input.
  Laid BY PROGRAM, IN A SANDBOX (cutbox-rows.mjs): the forced cells as the released guide's own fill.sh prints them over the translation 906497a9b8a30d15… (all of the seat's roots in one cut). By AI agents, Wed Nov 11 2026. No macro, syntax, notation, axiom, sorry.
-/
import Derived.Test.YtjlfnelihbdhjaaGreatChecked
import GoSem.Claim
import GoSem.ClaimJoined
import GoSem.ClaimMapViews
import Derived.JoinedTies
import Derived.KernelRfl
namespace Go.Proofs.YtjlfnelihbdhjaaGreat
/- THE CELL 'sum', in the pinned program and in every row, IS THE sha256 OF THE DUMP (.gsa) THAT YtjlfnelihbdhjaaGreatProg.lean LOADS. Nothing in Lean hashes anything: it is a label: what it is worth is what the hold of that sum in a sandbox is worth. -/
noncomputable def Tryz.pinned : Pinned := { name := "ytjlfnelihbdhjaagreat", sum := "906497a9b8a30d15d7f9faaa71210fa983c46e350206bc6fd0a5dc21e6c0cf01", checked := Tryz.checked }
namespace Rows
def none {H : Type} : Left H := { results := [], args := [] }

/-- 'arbiterlaw09.OverridePairs': WHATEVER THE INPUT: true; the input reads as it did. -/
def overridePairsSpec : ChangeSpec := { name := "overridePairs", fn := fun _ => fun
  | [d1, d2, d3] => { results := [.lit (.bool true)], args := [d1, d2, d3] }
  | _ => none }
def overridePairsRow : OpenClaim := { program := "ytjlfnelihbdhjaagreat", sum := "906497a9b8a30d15d7f9faaa71210fa983c46e350206bc6fd0a5dc21e6c0cf01", func := "arbiter/arbiterlaw09.OverridePairs", spec := "overridePairs", inPlace := ["internal/bytealg.IndexByteString", "internal/bytealg.IndexString"], unfollowed := true, recurses := true, named := ["internal/bytealg.MaxLen"], apart := false }
def OverridePairsSaid : Prop := overridePairsRow.holds Tryz.pinned (OpenSpec.ofChange overridePairsSpec)

/-- ITS FALSE NEIGHBOUR: 'it returns false'. Refute it at one input. -/
def overridePairsWrong : ChangeSpec := { name := "overridePairs", fn := fun _ => fun
  | [d1, d2, d3] => { results := [.lit (.bool false)], args := [d1, d2, d3] }
  | _ => none }
def OverridePairsWrongFalsely : Prop := overridePairsRow.holds Tryz.pinned (OpenSpec.ofChange overridePairsWrong)

/-- 'arbiterlaw09.OverrideFirst': WHATEVER THE INPUT: true; the input reads as it did. -/
def overrideFirstSpec : ChangeSpec := { name := "overrideFirst", fn := fun _ => fun
  | [d1, d2, d3] => { results := [.lit (.bool true)], args := [d1, d2, d3] }
  | _ => none }
def overrideFirstRow : OpenClaim := { program := "ytjlfnelihbdhjaagreat", sum := "906497a9b8a30d15d7f9faaa71210fa983c46e350206bc6fd0a5dc21e6c0cf01", func := "arbiter/arbiterlaw09.OverrideFirst", spec := "overrideFirst", inPlace := ["internal/bytealg.IndexByteString", "internal/bytealg.IndexString"], unfollowed := true, recurses := true, named := ["internal/bytealg.MaxLen"], apart := false }
def OverrideFirstSaid : Prop := overrideFirstRow.holds Tryz.pinned (OpenSpec.ofChange overrideFirstSpec)

/-- ITS FALSE NEIGHBOUR: 'it returns false'. Refute it at one input. -/
def overrideFirstWrong : ChangeSpec := { name := "overrideFirst", fn := fun _ => fun
  | [d1, d2, d3] => { results := [.lit (.bool false)], args := [d1, d2, d3] }
  | _ => none }
def OverrideFirstWrongFalsely : Prop := overrideFirstRow.holds Tryz.pinned (OpenSpec.ofChange overrideFirstWrong)

/-- 'arbiterlaw09.OverrideGrows': WHATEVER THE INPUT: true; the input reads as it did. -/
def overrideGrowsSpec : ChangeSpec := { name := "overrideGrows", fn := fun _ => fun
  | [d1, d2, d3, d4] => { results := [.lit (.bool true)], args := [d1, d2, d3, d4] }
  | _ => none }
def overrideGrowsRow : OpenClaim := { program := "ytjlfnelihbdhjaagreat", sum := "906497a9b8a30d15d7f9faaa71210fa983c46e350206bc6fd0a5dc21e6c0cf01", func := "arbiter/arbiterlaw09.OverrideGrows", spec := "overrideGrows", inPlace := ["internal/bytealg.IndexByteString", "internal/bytealg.IndexString"], unfollowed := true, recurses := true, named := ["internal/bytealg.MaxLen"], apart := false }
def OverrideGrowsSaid : Prop := overrideGrowsRow.holds Tryz.pinned (OpenSpec.ofChange overrideGrowsSpec)

/-- ITS FALSE NEIGHBOUR: 'it returns false'. Refute it at one input. -/
def overrideGrowsWrong : ChangeSpec := { name := "overrideGrows", fn := fun _ => fun
  | [d1, d2, d3, d4] => { results := [.lit (.bool false)], args := [d1, d2, d3, d4] }
  | _ => none }
def OverrideGrowsWrongFalsely : Prop := overrideGrowsRow.holds Tryz.pinned (OpenSpec.ofChange overrideGrowsWrong)

/-- 'arbiterlaw11.ResolveMethods': WHATEVER THE INPUT: true; the input reads as it did. -/
def resolveMethodsSpec : ChangeSpec := { name := "resolveMethods", fn := fun _ => fun
  | [d1, d2, d3] => { results := [.lit (.bool true)], args := [d1, d2, d3] }
  | _ => none }
def resolveMethodsRow : OpenClaim := { program := "ytjlfnelihbdhjaagreat", sum := "906497a9b8a30d15d7f9faaa71210fa983c46e350206bc6fd0a5dc21e6c0cf01", func := "arbiter/arbiterlaw11.ResolveMethods", spec := "resolveMethods", inPlace := ["internal/bytealg.IndexByteString", "internal/bytealg.IndexString"], unfollowed := true, recurses := true, named := ["internal/bytealg.MaxLen"], apart := false }
def ResolveMethodsSaid : Prop := resolveMethodsRow.holds Tryz.pinned (OpenSpec.ofChange resolveMethodsSpec)

/-- ITS FALSE NEIGHBOUR: 'it returns false'. Refute it at one input. -/
def resolveMethodsWrong : ChangeSpec := { name := "resolveMethods", fn := fun _ => fun
  | [d1, d2, d3] => { results := [.lit (.bool false)], args := [d1, d2, d3] }
  | _ => none }
def ResolveMethodsWrongFalsely : Prop := resolveMethodsRow.holds Tryz.pinned (OpenSpec.ofChange resolveMethodsWrong)

/-- 'arbiterlaw12.ChooseCalls': WHATEVER THE INPUT: true; the input reads as it did. -/
def chooseCallsSpec : ChangeSpec := { name := "chooseCalls", fn := fun _ => fun
  | [d1, d2, d3, d4, d5] => { results := [.lit (.bool true)], args := [d1, d2, d3, d4, d5] }
  | _ => none }
def chooseCallsRow : OpenClaim := { program := "ytjlfnelihbdhjaagreat", sum := "906497a9b8a30d15d7f9faaa71210fa983c46e350206bc6fd0a5dc21e6c0cf01", func := "arbiter/arbiterlaw12.ChooseCalls", spec := "chooseCalls", inPlace := ["internal/bytealg.IndexByteString", "internal/bytealg.IndexString"], unfollowed := true, recurses := true, named := ["internal/bytealg.MaxLen"], apart := false }
def ChooseCallsSaid : Prop := chooseCallsRow.holds Tryz.pinned (OpenSpec.ofChange chooseCallsSpec)

/-- ITS FALSE NEIGHBOUR: 'it returns false'. Refute it at one input. -/
def chooseCallsWrong : ChangeSpec := { name := "chooseCalls", fn := fun _ => fun
  | [d1, d2, d3, d4, d5] => { results := [.lit (.bool false)], args := [d1, d2, d3, d4, d5] }
  | _ => none }
def ChooseCallsWrongFalsely : Prop := chooseCallsRow.holds Tryz.pinned (OpenSpec.ofChange chooseCallsWrong)

/-- 'arbiterlaw12.ChoosePlays': WHATEVER THE INPUT: true; the input reads as it did. -/
def choosePlaysSpec : ChangeSpec := { name := "choosePlays", fn := fun _ => fun
  | [d1, d2, d3, d4, d5] => { results := [.lit (.bool true)], args := [d1, d2, d3, d4, d5] }
  | _ => none }
def choosePlaysRow : OpenClaim := { program := "ytjlfnelihbdhjaagreat", sum := "906497a9b8a30d15d7f9faaa71210fa983c46e350206bc6fd0a5dc21e6c0cf01", func := "arbiter/arbiterlaw12.ChoosePlays", spec := "choosePlays", inPlace := ["internal/bytealg.IndexByteString", "internal/bytealg.IndexString"], unfollowed := true, recurses := true, named := ["internal/bytealg.MaxLen"], apart := false }
def ChoosePlaysSaid : Prop := choosePlaysRow.holds Tryz.pinned (OpenSpec.ofChange choosePlaysSpec)

/-- ITS FALSE NEIGHBOUR: 'it returns false'. Refute it at one input. -/
def choosePlaysWrong : ChangeSpec := { name := "choosePlays", fn := fun _ => fun
  | [d1, d2, d3, d4, d5] => { results := [.lit (.bool false)], args := [d1, d2, d3, d4, d5] }
  | _ => none }
def ChoosePlaysWrongFalsely : Prop := choosePlaysRow.holds Tryz.pinned (OpenSpec.ofChange choosePlaysWrong)

/-- 'arbiterlaw13.VtableBuilds': WHATEVER THE INPUT: true; the input reads as it did. -/
def vtableBuildsSpec : ChangeSpec := { name := "vtableBuilds", fn := fun _ => fun
  | [d1, d2] => { results := [.lit (.bool true)], args := [d1, d2] }
  | _ => none }
def vtableBuildsRow : OpenClaim := { program := "ytjlfnelihbdhjaagreat", sum := "906497a9b8a30d15d7f9faaa71210fa983c46e350206bc6fd0a5dc21e6c0cf01", func := "arbiter/arbiterlaw13.VtableBuilds", spec := "vtableBuilds", inPlace := ["internal/bytealg.IndexByteString", "internal/bytealg.IndexString"], unfollowed := true, recurses := true, named := ["internal/bytealg.MaxLen"], apart := false }
def VtableBuildsSaid : Prop := vtableBuildsRow.holds Tryz.pinned (OpenSpec.ofChange vtableBuildsSpec)

/-- ITS FALSE NEIGHBOUR: 'it returns false'. Refute it at one input. -/
def vtableBuildsWrong : ChangeSpec := { name := "vtableBuilds", fn := fun _ => fun
  | [d1, d2] => { results := [.lit (.bool false)], args := [d1, d2] }
  | _ => none }
def VtableBuildsWrongFalsely : Prop := vtableBuildsRow.holds Tryz.pinned (OpenSpec.ofChange vtableBuildsWrong)

/-- 'arbiterlaw13.VtablePlays': WHATEVER THE INPUT: true; the input reads as it did. -/
def vtablePlaysSpec : ChangeSpec := { name := "vtablePlays", fn := fun _ => fun
  | [d1, d2, d3] => { results := [.lit (.bool true)], args := [d1, d2, d3] }
  | _ => none }
def vtablePlaysRow : OpenClaim := { program := "ytjlfnelihbdhjaagreat", sum := "906497a9b8a30d15d7f9faaa71210fa983c46e350206bc6fd0a5dc21e6c0cf01", func := "arbiter/arbiterlaw13.VtablePlays", spec := "vtablePlays", inPlace := ["internal/bytealg.IndexByteString", "internal/bytealg.IndexString"], unfollowed := true, recurses := true, named := ["internal/bytealg.MaxLen"], apart := false }
def VtablePlaysSaid : Prop := vtablePlaysRow.holds Tryz.pinned (OpenSpec.ofChange vtablePlaysSpec)

/-- ITS FALSE NEIGHBOUR: 'it returns false'. Refute it at one input. -/
def vtablePlaysWrong : ChangeSpec := { name := "vtablePlays", fn := fun _ => fun
  | [d1, d2, d3] => { results := [.lit (.bool false)], args := [d1, d2, d3] }
  | _ => none }
def VtablePlaysWrongFalsely : Prop := vtablePlaysRow.holds Tryz.pinned (OpenSpec.ofChange vtablePlaysWrong)

/-- 'arbiterlaw13.VtableFirst': WHATEVER THE INPUT: true; the input reads as it did. -/
def vtableFirstSpec : ChangeSpec := { name := "vtableFirst", fn := fun _ => fun
  | [d] => { results := [.lit (.bool true)], args := [d] }
  | _ => none }
def vtableFirstRow : OpenClaim := { program := "ytjlfnelihbdhjaagreat", sum := "906497a9b8a30d15d7f9faaa71210fa983c46e350206bc6fd0a5dc21e6c0cf01", func := "arbiter/arbiterlaw13.VtableFirst", spec := "vtableFirst", inPlace := ["internal/bytealg.IndexByteString", "internal/bytealg.IndexString"], unfollowed := true, recurses := true, named := ["internal/bytealg.MaxLen"], apart := false }
def VtableFirstSaid : Prop := vtableFirstRow.holds Tryz.pinned (OpenSpec.ofChange vtableFirstSpec)

/-- ITS FALSE NEIGHBOUR: 'it returns false'. Refute it at one input. -/
def vtableFirstWrong : ChangeSpec := { name := "vtableFirst", fn := fun _ => fun
  | [d] => { results := [.lit (.bool false)], args := [d] }
  | _ => none }
def VtableFirstWrongFalsely : Prop := vtableFirstRow.holds Tryz.pinned (OpenSpec.ofChange vtableFirstWrong)

/-- 'arbiterlaw13.VtableGrows': WHATEVER THE INPUT: true; the input reads as it did. -/
def vtableGrowsSpec : ChangeSpec := { name := "vtableGrows", fn := fun _ => fun
  | [d1, d2, d3] => { results := [.lit (.bool true)], args := [d1, d2, d3] }
  | _ => none }
def vtableGrowsRow : OpenClaim := { program := "ytjlfnelihbdhjaagreat", sum := "906497a9b8a30d15d7f9faaa71210fa983c46e350206bc6fd0a5dc21e6c0cf01", func := "arbiter/arbiterlaw13.VtableGrows", spec := "vtableGrows", inPlace := ["internal/bytealg.IndexByteString", "internal/bytealg.IndexString"], unfollowed := true, recurses := true, named := ["internal/bytealg.MaxLen"], apart := false }
def VtableGrowsSaid : Prop := vtableGrowsRow.holds Tryz.pinned (OpenSpec.ofChange vtableGrowsSpec)

/-- ITS FALSE NEIGHBOUR: 'it returns false'. Refute it at one input. -/
def vtableGrowsWrong : ChangeSpec := { name := "vtableGrows", fn := fun _ => fun
  | [d1, d2, d3] => { results := [.lit (.bool false)], args := [d1, d2, d3] }
  | _ => none }
def VtableGrowsWrongFalsely : Prop := vtableGrowsRow.holds Tryz.pinned (OpenSpec.ofChange vtableGrowsWrong)

/-- 'arbiterlaw13.VtableOwn': WHATEVER THE INPUT: true; the input reads as it did. -/
def vtableOwnSpec : ChangeSpec := { name := "vtableOwn", fn := fun _ => fun
  | [d1, d2, d3] => { results := [.lit (.bool true)], args := [d1, d2, d3] }
  | _ => none }
def vtableOwnRow : OpenClaim := { program := "ytjlfnelihbdhjaagreat", sum := "906497a9b8a30d15d7f9faaa71210fa983c46e350206bc6fd0a5dc21e6c0cf01", func := "arbiter/arbiterlaw13.VtableOwn", spec := "vtableOwn", inPlace := ["internal/bytealg.IndexByteString", "internal/bytealg.IndexString"], unfollowed := true, recurses := true, named := ["internal/bytealg.MaxLen"], apart := false }
def VtableOwnSaid : Prop := vtableOwnRow.holds Tryz.pinned (OpenSpec.ofChange vtableOwnSpec)

/-- ITS FALSE NEIGHBOUR: 'it returns false'. Refute it at one input. -/
def vtableOwnWrong : ChangeSpec := { name := "vtableOwn", fn := fun _ => fun
  | [d1, d2, d3] => { results := [.lit (.bool false)], args := [d1, d2, d3] }
  | _ => none }
def VtableOwnWrongFalsely : Prop := vtableOwnRow.holds Tryz.pinned (OpenSpec.ofChange vtableOwnWrong)

/-- 'arbitertop.WholeSlots': WHATEVER THE INPUT: true; the input reads as it did. -/
def wholeSlotsSpec : ChangeSpec := { name := "wholeSlots", fn := fun _ => fun
  | [d] => { results := [.lit (.bool true)], args := [d] }
  | _ => none }
def wholeSlotsRow : OpenClaim := { program := "ytjlfnelihbdhjaagreat", sum := "906497a9b8a30d15d7f9faaa71210fa983c46e350206bc6fd0a5dc21e6c0cf01", func := "arbiter/arbitertop.WholeSlots", spec := "wholeSlots", inPlace := ["internal/bytealg.IndexByteString", "internal/bytealg.IndexString"], unfollowed := true, recurses := true, named := ["internal/bytealg.MaxLen"], apart := false }
def WholeSlotsSaid : Prop := wholeSlotsRow.holds Tryz.pinned (OpenSpec.ofChange wholeSlotsSpec)

/-- ITS FALSE NEIGHBOUR: 'it returns false'. Refute it at one input. -/
def wholeSlotsWrong : ChangeSpec := { name := "wholeSlots", fn := fun _ => fun
  | [d] => { results := [.lit (.bool false)], args := [d] }
  | _ => none }
def WholeSlotsWrongFalsely : Prop := wholeSlotsRow.holds Tryz.pinned (OpenSpec.ofChange wholeSlotsWrong)

/- THE SECOND FORM. 'bulk': how many values and letters a reading holds, each counted each time it is reached (what is shared counts as often as it is met; a slice's spare places count too). A statement '..UptoSaid' is the law's where the arguments, and the package variables that the reading takes, are together of bulk at most 1048576: NARROWER than '..Said'. Prove '..Said' where nothing that the law and all that it calls make is longer than what came in: it says more and counts as full. Else prove '..UptoSaid'. A law counts once. -/
mutual
def uptoBulk {H : Type} : DataW H → Nat
  | .lit (.string bytes) => bytes.length + 1
  | .lit _ => 1
  | .nil => 1
  | .ptr d => uptoBulk d + 1
  | .slice elems spare => uptoBulkAll elems + uptoBulkAll spare + 1
  | .agg parts => uptoBulkAll parts + 1
  | .iface _ d => uptoBulk d + 1
  | .map entries => uptoBulkEntries entries + 1
  | .held _ => 1
def uptoBulkAll {H : Type} : List (DataW H) → Nat
  | [] => 0
  | d :: r => uptoBulk d + uptoBulkAll r
def uptoBulkEntries {H : Type} : List (Lit × DataW H) → Nat
  | [] => 0
  | x :: r => uptoBulkEntry x + uptoBulkEntries r
def uptoBulkEntry {H : Type} : Lit × DataW H → Nat
  | (.string bytes, d) => bytes.length + uptoBulk d + 1
  | (_, d) => uptoBulk d + 1
 end
def uptoSmall : (H : Type) → List (DataW H) → Bool := fun _ ds => decide (uptoBulkAll ds ≤ 1048576)
def OpenSpec.upto (s : _root_.Go.ChangeSpec) : _root_.Go.OpenSpec := { _root_.Go.OpenSpec.ofChange s with cond := some uptoSmall }

/-- 'arbiterlaw09.OverridePairs', WHERE WHAT IT READS IS OF BULK AT MOST 1048576: true; the input reads as it did. -/
def overridePairsUptoRow : OpenClaim := { program := "ytjlfnelihbdhjaagreat", sum := "906497a9b8a30d15d7f9faaa71210fa983c46e350206bc6fd0a5dc21e6c0cf01", func := "arbiter/arbiterlaw09.OverridePairs", spec := "overridePairs", inPlace := ["internal/bytealg.IndexByteString", "internal/bytealg.IndexString"], unfollowed := true, recurses := true, named := ["internal/bytealg.MaxLen"], apart := false, narrowed := true }
def OverridePairsUptoSaid : Prop := overridePairsUptoRow.holds Tryz.pinned (OpenSpec.upto overridePairsSpec)

/-- 'arbiterlaw09.OverrideFirst', WHERE WHAT IT READS IS OF BULK AT MOST 1048576: true; the input reads as it did. -/
def overrideFirstUptoRow : OpenClaim := { program := "ytjlfnelihbdhjaagreat", sum := "906497a9b8a30d15d7f9faaa71210fa983c46e350206bc6fd0a5dc21e6c0cf01", func := "arbiter/arbiterlaw09.OverrideFirst", spec := "overrideFirst", inPlace := ["internal/bytealg.IndexByteString", "internal/bytealg.IndexString"], unfollowed := true, recurses := true, named := ["internal/bytealg.MaxLen"], apart := false, narrowed := true }
def OverrideFirstUptoSaid : Prop := overrideFirstUptoRow.holds Tryz.pinned (OpenSpec.upto overrideFirstSpec)

/-- 'arbiterlaw09.OverrideGrows', WHERE WHAT IT READS IS OF BULK AT MOST 1048576: true; the input reads as it did. -/
def overrideGrowsUptoRow : OpenClaim := { program := "ytjlfnelihbdhjaagreat", sum := "906497a9b8a30d15d7f9faaa71210fa983c46e350206bc6fd0a5dc21e6c0cf01", func := "arbiter/arbiterlaw09.OverrideGrows", spec := "overrideGrows", inPlace := ["internal/bytealg.IndexByteString", "internal/bytealg.IndexString"], unfollowed := true, recurses := true, named := ["internal/bytealg.MaxLen"], apart := false, narrowed := true }
def OverrideGrowsUptoSaid : Prop := overrideGrowsUptoRow.holds Tryz.pinned (OpenSpec.upto overrideGrowsSpec)

/-- 'arbiterlaw11.ResolveMethods', WHERE WHAT IT READS IS OF BULK AT MOST 1048576: true; the input reads as it did. -/
def resolveMethodsUptoRow : OpenClaim := { program := "ytjlfnelihbdhjaagreat", sum := "906497a9b8a30d15d7f9faaa71210fa983c46e350206bc6fd0a5dc21e6c0cf01", func := "arbiter/arbiterlaw11.ResolveMethods", spec := "resolveMethods", inPlace := ["internal/bytealg.IndexByteString", "internal/bytealg.IndexString"], unfollowed := true, recurses := true, named := ["internal/bytealg.MaxLen"], apart := false, narrowed := true }
def ResolveMethodsUptoSaid : Prop := resolveMethodsUptoRow.holds Tryz.pinned (OpenSpec.upto resolveMethodsSpec)

/-- 'arbiterlaw12.ChooseCalls', WHERE WHAT IT READS IS OF BULK AT MOST 1048576: true; the input reads as it did. -/
def chooseCallsUptoRow : OpenClaim := { program := "ytjlfnelihbdhjaagreat", sum := "906497a9b8a30d15d7f9faaa71210fa983c46e350206bc6fd0a5dc21e6c0cf01", func := "arbiter/arbiterlaw12.ChooseCalls", spec := "chooseCalls", inPlace := ["internal/bytealg.IndexByteString", "internal/bytealg.IndexString"], unfollowed := true, recurses := true, named := ["internal/bytealg.MaxLen"], apart := false, narrowed := true }
def ChooseCallsUptoSaid : Prop := chooseCallsUptoRow.holds Tryz.pinned (OpenSpec.upto chooseCallsSpec)

/-- 'arbiterlaw12.ChoosePlays', WHERE WHAT IT READS IS OF BULK AT MOST 1048576: true; the input reads as it did. -/
def choosePlaysUptoRow : OpenClaim := { program := "ytjlfnelihbdhjaagreat", sum := "906497a9b8a30d15d7f9faaa71210fa983c46e350206bc6fd0a5dc21e6c0cf01", func := "arbiter/arbiterlaw12.ChoosePlays", spec := "choosePlays", inPlace := ["internal/bytealg.IndexByteString", "internal/bytealg.IndexString"], unfollowed := true, recurses := true, named := ["internal/bytealg.MaxLen"], apart := false, narrowed := true }
def ChoosePlaysUptoSaid : Prop := choosePlaysUptoRow.holds Tryz.pinned (OpenSpec.upto choosePlaysSpec)

/-- 'arbiterlaw13.VtableBuilds', WHERE WHAT IT READS IS OF BULK AT MOST 1048576: true; the input reads as it did. -/
def vtableBuildsUptoRow : OpenClaim := { program := "ytjlfnelihbdhjaagreat", sum := "906497a9b8a30d15d7f9faaa71210fa983c46e350206bc6fd0a5dc21e6c0cf01", func := "arbiter/arbiterlaw13.VtableBuilds", spec := "vtableBuilds", inPlace := ["internal/bytealg.IndexByteString", "internal/bytealg.IndexString"], unfollowed := true, recurses := true, named := ["internal/bytealg.MaxLen"], apart := false, narrowed := true }
def VtableBuildsUptoSaid : Prop := vtableBuildsUptoRow.holds Tryz.pinned (OpenSpec.upto vtableBuildsSpec)

/-- 'arbiterlaw13.VtablePlays', WHERE WHAT IT READS IS OF BULK AT MOST 1048576: true; the input reads as it did. -/
def vtablePlaysUptoRow : OpenClaim := { program := "ytjlfnelihbdhjaagreat", sum := "906497a9b8a30d15d7f9faaa71210fa983c46e350206bc6fd0a5dc21e6c0cf01", func := "arbiter/arbiterlaw13.VtablePlays", spec := "vtablePlays", inPlace := ["internal/bytealg.IndexByteString", "internal/bytealg.IndexString"], unfollowed := true, recurses := true, named := ["internal/bytealg.MaxLen"], apart := false, narrowed := true }
def VtablePlaysUptoSaid : Prop := vtablePlaysUptoRow.holds Tryz.pinned (OpenSpec.upto vtablePlaysSpec)

/-- 'arbiterlaw13.VtableFirst', WHERE WHAT IT READS IS OF BULK AT MOST 1048576: true; the input reads as it did. -/
def vtableFirstUptoRow : OpenClaim := { program := "ytjlfnelihbdhjaagreat", sum := "906497a9b8a30d15d7f9faaa71210fa983c46e350206bc6fd0a5dc21e6c0cf01", func := "arbiter/arbiterlaw13.VtableFirst", spec := "vtableFirst", inPlace := ["internal/bytealg.IndexByteString", "internal/bytealg.IndexString"], unfollowed := true, recurses := true, named := ["internal/bytealg.MaxLen"], apart := false, narrowed := true }
def VtableFirstUptoSaid : Prop := vtableFirstUptoRow.holds Tryz.pinned (OpenSpec.upto vtableFirstSpec)

/-- 'arbiterlaw13.VtableGrows', WHERE WHAT IT READS IS OF BULK AT MOST 1048576: true; the input reads as it did. -/
def vtableGrowsUptoRow : OpenClaim := { program := "ytjlfnelihbdhjaagreat", sum := "906497a9b8a30d15d7f9faaa71210fa983c46e350206bc6fd0a5dc21e6c0cf01", func := "arbiter/arbiterlaw13.VtableGrows", spec := "vtableGrows", inPlace := ["internal/bytealg.IndexByteString", "internal/bytealg.IndexString"], unfollowed := true, recurses := true, named := ["internal/bytealg.MaxLen"], apart := false, narrowed := true }
def VtableGrowsUptoSaid : Prop := vtableGrowsUptoRow.holds Tryz.pinned (OpenSpec.upto vtableGrowsSpec)

/-- 'arbiterlaw13.VtableOwn', WHERE WHAT IT READS IS OF BULK AT MOST 1048576: true; the input reads as it did. -/
def vtableOwnUptoRow : OpenClaim := { program := "ytjlfnelihbdhjaagreat", sum := "906497a9b8a30d15d7f9faaa71210fa983c46e350206bc6fd0a5dc21e6c0cf01", func := "arbiter/arbiterlaw13.VtableOwn", spec := "vtableOwn", inPlace := ["internal/bytealg.IndexByteString", "internal/bytealg.IndexString"], unfollowed := true, recurses := true, named := ["internal/bytealg.MaxLen"], apart := false, narrowed := true }
def VtableOwnUptoSaid : Prop := vtableOwnUptoRow.holds Tryz.pinned (OpenSpec.upto vtableOwnSpec)

/-- 'arbitertop.WholeSlots', WHERE WHAT IT READS IS OF BULK AT MOST 1048576: true; the input reads as it did. -/
def wholeSlotsUptoRow : OpenClaim := { program := "ytjlfnelihbdhjaagreat", sum := "906497a9b8a30d15d7f9faaa71210fa983c46e350206bc6fd0a5dc21e6c0cf01", func := "arbiter/arbitertop.WholeSlots", spec := "wholeSlots", inPlace := ["internal/bytealg.IndexByteString", "internal/bytealg.IndexString"], unfollowed := true, recurses := true, named := ["internal/bytealg.MaxLen"], apart := false, narrowed := true }
def WholeSlotsUptoSaid : Prop := wholeSlotsUptoRow.holds Tryz.pinned (OpenSpec.upto wholeSlotsSpec)

end Rows
end Go.Proofs.YtjlfnelihbdhjaaGreat
