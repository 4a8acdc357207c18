/-
  No cell of these rows narrows 'for every input' (looked for: loops, veiled, ifaces, maps, wideKeys, modest, calm, conditions, laid).
  DERIVED. THE GIVEN ROWS OF THIS SEAT. 5 by the template 'for every input the law returns true; each argument reads behind the call as it read before'; 0 by the template 'total and deterministic' (their statements: YtfjekhmnjfcbeaaGreatTotals.lean).
  GIVEN WITH THE SEED: the statements are not yours to turn. If you find one false, say at which input.
  Laid BY PROGRAM, IN A SANDBOX (cutbox-rows.mjs): the forced cells as the released guide's own fill.sh prints them over the translation ee112d9823a91a6b… (all of the seat's roots in one cut). By AI agents, Wed Nov 11 2026. No macro, syntax, notation, axiom, sorry.
-/
import Derived.Test.YtfjekhmnjfcbeaaGreatChecked
import GoSem.Claim
import GoSem.ClaimJoined
import GoSem.ClaimMapViews
import Derived.JoinedTies
import Derived.KernelRfl
namespace Go.Proofs.YtfjekhmnjfcbeaaGreat
/- THE CELL 'sum', in the pinned program and in every row, IS THE sha256 OF THE DUMP (.gsa) THAT YtfjekhmnjfcbeaaGreatProg.lean LOADS. Nothing in Lean hashes anything: it is a label: what it is worth is what the hold of that sum in a sandbox is worth. -/
noncomputable def Tryz.pinned : Pinned := { name := "ytfjekhmnjfcbeaagreat", sum := "ee112d9823a91a6bd271569b1d55a9584b6bf6ff10c640e76aa06c47ba85e844", checked := Tryz.checked }
namespace Rows
def none {H : Type} : Left H := { results := [], args := [] }

/-- 'arbiterlaw06.HierGrows': WHATEVER THE INPUT: true; the input reads as it did. -/
def hierGrowsSpec : ChangeSpec := { name := "hierGrows", fn := fun _ => fun
  | [d1, d2] => { results := [.lit (.bool true)], args := [d1, d2] }
  | _ => none }
def hierGrowsRow : OpenClaim := { program := "ytfjekhmnjfcbeaagreat", sum := "ee112d9823a91a6bd271569b1d55a9584b6bf6ff10c640e76aa06c47ba85e844", func := "arbiter/arbiterlaw06.HierGrows", spec := "hierGrows", inPlace := ["internal/bytealg.IndexByteString", "internal/bytealg.IndexString"], unfollowed := true, recurses := true, named := ["internal/bytealg.MaxLen"], apart := false }
def HierGrowsSaid : Prop := hierGrowsRow.holds Tryz.pinned (OpenSpec.ofChange hierGrowsSpec)

/-- ITS FALSE NEIGHBOUR: 'it returns false'. Refute it at one input. -/
def hierGrowsWrong : ChangeSpec := { name := "hierGrows", fn := fun _ => fun
  | [d1, d2] => { results := [.lit (.bool false)], args := [d1, d2] }
  | _ => none }
def HierGrowsWrongFalsely : Prop := hierGrowsRow.holds Tryz.pinned (OpenSpec.ofChange hierGrowsWrong)

/-- 'arbiterlaw06.HierKeeps': WHATEVER THE INPUT: true; the input reads as it did. -/
def hierKeepsSpec : ChangeSpec := { name := "hierKeeps", fn := fun _ => fun
  | [d1, d2] => { results := [.lit (.bool true)], args := [d1, d2] }
  | _ => none }
def hierKeepsRow : OpenClaim := { program := "ytfjekhmnjfcbeaagreat", sum := "ee112d9823a91a6bd271569b1d55a9584b6bf6ff10c640e76aa06c47ba85e844", func := "arbiter/arbiterlaw06.HierKeeps", spec := "hierKeeps", inPlace := ["internal/bytealg.IndexByteString", "internal/bytealg.IndexString"], unfollowed := true, recurses := true, named := ["internal/bytealg.MaxLen"], apart := false }
def HierKeepsSaid : Prop := hierKeepsRow.holds Tryz.pinned (OpenSpec.ofChange hierKeepsSpec)

/-- ITS FALSE NEIGHBOUR: 'it returns false'. Refute it at one input. -/
def hierKeepsWrong : ChangeSpec := { name := "hierKeeps", fn := fun _ => fun
  | [d1, d2] => { results := [.lit (.bool false)], args := [d1, d2] }
  | _ => none }
def HierKeepsWrongFalsely : Prop := hierKeepsRow.holds Tryz.pinned (OpenSpec.ofChange hierKeepsWrong)

/-- 'arbiterlaw09.OverrideKeeps': WHATEVER THE INPUT: true; the input reads as it did. -/
def overrideKeepsSpec : ChangeSpec := { name := "overrideKeeps", fn := fun _ => fun
  | [d1, d2] => { results := [.lit (.bool true)], args := [d1, d2] }
  | _ => none }
def overrideKeepsRow : OpenClaim := { program := "ytfjekhmnjfcbeaagreat", sum := "ee112d9823a91a6bd271569b1d55a9584b6bf6ff10c640e76aa06c47ba85e844", func := "arbiter/arbiterlaw09.OverrideKeeps", spec := "overrideKeeps", inPlace := ["internal/bytealg.IndexByteString", "internal/bytealg.IndexString"], unfollowed := true, recurses := true, named := ["internal/bytealg.MaxLen"], apart := false }
def OverrideKeepsSaid : Prop := overrideKeepsRow.holds Tryz.pinned (OpenSpec.ofChange overrideKeepsSpec)

/-- ITS FALSE NEIGHBOUR: 'it returns false'. Refute it at one input. -/
def overrideKeepsWrong : ChangeSpec := { name := "overrideKeeps", fn := fun _ => fun
  | [d1, d2] => { results := [.lit (.bool false)], args := [d1, d2] }
  | _ => none }
def OverrideKeepsWrongFalsely : Prop := overrideKeepsRow.holds Tryz.pinned (OpenSpec.ofChange overrideKeepsWrong)

/-- 'arbiterlaw10.MaxspecKeeps': WHATEVER THE INPUT: true; the input reads as it did. -/
def maxspecKeepsSpec : ChangeSpec := { name := "maxspecKeeps", fn := fun _ => fun
  | [d1, d2, d3, d4] => { results := [.lit (.bool true)], args := [d1, d2, d3, d4] }
  | _ => none }
def maxspecKeepsRow : OpenClaim := { program := "ytfjekhmnjfcbeaagreat", sum := "ee112d9823a91a6bd271569b1d55a9584b6bf6ff10c640e76aa06c47ba85e844", func := "arbiter/arbiterlaw10.MaxspecKeeps", spec := "maxspecKeeps", inPlace := ["internal/bytealg.IndexByteString", "internal/bytealg.IndexString"], unfollowed := true, recurses := true, named := ["internal/bytealg.MaxLen"], apart := false }
def MaxspecKeepsSaid : Prop := maxspecKeepsRow.holds Tryz.pinned (OpenSpec.ofChange maxspecKeepsSpec)

/-- ITS FALSE NEIGHBOUR: 'it returns false'. Refute it at one input. -/
def maxspecKeepsWrong : ChangeSpec := { name := "maxspecKeeps", fn := fun _ => fun
  | [d1, d2, d3, d4] => { results := [.lit (.bool false)], args := [d1, d2, d3, d4] }
  | _ => none }
def MaxspecKeepsWrongFalsely : Prop := maxspecKeepsRow.holds Tryz.pinned (OpenSpec.ofChange maxspecKeepsWrong)

/-- 'arbiterlaw15.DisplayKeeps': WHATEVER THE INPUT: true; the input reads as it did. -/
def displayKeepsSpec : ChangeSpec := { name := "displayKeeps", fn := fun _ => fun
  | [d1, d2] => { results := [.lit (.bool true)], args := [d1, d2] }
  | _ => none }
def displayKeepsRow : OpenClaim := { program := "ytfjekhmnjfcbeaagreat", sum := "ee112d9823a91a6bd271569b1d55a9584b6bf6ff10c640e76aa06c47ba85e844", func := "arbiter/arbiterlaw15.DisplayKeeps", spec := "displayKeeps", inPlace := ["internal/bytealg.IndexByteString", "internal/bytealg.IndexString"], unfollowed := true, recurses := true, named := ["internal/bytealg.MaxLen"], apart := false }
def DisplayKeepsSaid : Prop := displayKeepsRow.holds Tryz.pinned (OpenSpec.ofChange displayKeepsSpec)

/-- ITS FALSE NEIGHBOUR: 'it returns false'. Refute it at one input. -/
def displayKeepsWrong : ChangeSpec := { name := "displayKeeps", fn := fun _ => fun
  | [d1, d2] => { results := [.lit (.bool false)], args := [d1, d2] }
  | _ => none }
def DisplayKeepsWrongFalsely : Prop := displayKeepsRow.holds Tryz.pinned (OpenSpec.ofChange displayKeepsWrong)

/- THE SECOND FORM. 'bulk': how many values and letters a reading holds, each counted each time it is reached (what is shared counts as often as it is met; a slice's spare places count too). A statement '..UptoSaid' is the law's where the arguments, and the package variables that the reading takes, are together of bulk at most 1048576: NARROWER than '..Said'. Prove '..Said' where nothing that the law and all that it calls make is longer than what came in: it says more and counts as full. Else prove '..UptoSaid'. A law counts once. -/
mutual
def uptoBulk {H : Type} : DataW H → Nat
  | .lit (.string bytes) => bytes.length + 1
  | .lit _ => 1
  | .nil => 1
  | .ptr d => uptoBulk d + 1
  | .slice elems spare => uptoBulkAll elems + uptoBulkAll spare + 1
  | .agg parts => uptoBulkAll parts + 1
  | .iface _ d => uptoBulk d + 1
  | .map entries => uptoBulkEntries entries + 1
  | .held _ => 1
def uptoBulkAll {H : Type} : List (DataW H) → Nat
  | [] => 0
  | d :: r => uptoBulk d + uptoBulkAll r
def uptoBulkEntries {H : Type} : List (Lit × DataW H) → Nat
  | [] => 0
  | x :: r => uptoBulkEntry x + uptoBulkEntries r
def uptoBulkEntry {H : Type} : Lit × DataW H → Nat
  | (.string bytes, d) => bytes.length + uptoBulk d + 1
  | (_, d) => uptoBulk d + 1
 end
def uptoSmall : (H : Type) → List (DataW H) → Bool := fun _ ds => decide (uptoBulkAll ds ≤ 1048576)
def OpenSpec.upto (s : _root_.Go.ChangeSpec) : _root_.Go.OpenSpec := { _root_.Go.OpenSpec.ofChange s with cond := some uptoSmall }

/-- 'arbiterlaw06.HierGrows', WHERE WHAT IT READS IS OF BULK AT MOST 1048576: true; the input reads as it did. -/
def hierGrowsUptoRow : OpenClaim := { program := "ytfjekhmnjfcbeaagreat", sum := "ee112d9823a91a6bd271569b1d55a9584b6bf6ff10c640e76aa06c47ba85e844", func := "arbiter/arbiterlaw06.HierGrows", spec := "hierGrows", inPlace := ["internal/bytealg.IndexByteString", "internal/bytealg.IndexString"], unfollowed := true, recurses := true, named := ["internal/bytealg.MaxLen"], apart := false, narrowed := true }
def HierGrowsUptoSaid : Prop := hierGrowsUptoRow.holds Tryz.pinned (OpenSpec.upto hierGrowsSpec)

/-- 'arbiterlaw06.HierKeeps', WHERE WHAT IT READS IS OF BULK AT MOST 1048576: true; the input reads as it did. -/
def hierKeepsUptoRow : OpenClaim := { program := "ytfjekhmnjfcbeaagreat", sum := "ee112d9823a91a6bd271569b1d55a9584b6bf6ff10c640e76aa06c47ba85e844", func := "arbiter/arbiterlaw06.HierKeeps", spec := "hierKeeps", inPlace := ["internal/bytealg.IndexByteString", "internal/bytealg.IndexString"], unfollowed := true, recurses := true, named := ["internal/bytealg.MaxLen"], apart := false, narrowed := true }
def HierKeepsUptoSaid : Prop := hierKeepsUptoRow.holds Tryz.pinned (OpenSpec.upto hierKeepsSpec)

/-- 'arbiterlaw09.OverrideKeeps', WHERE WHAT IT READS IS OF BULK AT MOST 1048576: true; the input reads as it did. -/
def overrideKeepsUptoRow : OpenClaim := { program := "ytfjekhmnjfcbeaagreat", sum := "ee112d9823a91a6bd271569b1d55a9584b6bf6ff10c640e76aa06c47ba85e844", func := "arbiter/arbiterlaw09.OverrideKeeps", spec := "overrideKeeps", inPlace := ["internal/bytealg.IndexByteString", "internal/bytealg.IndexString"], unfollowed := true, recurses := true, named := ["internal/bytealg.MaxLen"], apart := false, narrowed := true }
def OverrideKeepsUptoSaid : Prop := overrideKeepsUptoRow.holds Tryz.pinned (OpenSpec.upto overrideKeepsSpec)

/-- 'arbiterlaw10.MaxspecKeeps', WHERE WHAT IT READS IS OF BULK AT MOST 1048576: true; the input reads as it did. -/
def maxspecKeepsUptoRow : OpenClaim := { program := "ytfjekhmnjfcbeaagreat", sum := "ee112d9823a91a6bd271569b1d55a9584b6bf6ff10c640e76aa06c47ba85e844", func := "arbiter/arbiterlaw10.MaxspecKeeps", spec := "maxspecKeeps", inPlace := ["internal/bytealg.IndexByteString", "internal/bytealg.IndexString"], unfollowed := true, recurses := true, named := ["internal/bytealg.MaxLen"], apart := false, narrowed := true }
def MaxspecKeepsUptoSaid : Prop := maxspecKeepsUptoRow.holds Tryz.pinned (OpenSpec.upto maxspecKeepsSpec)

/-- 'arbiterlaw15.DisplayKeeps', WHERE WHAT IT READS IS OF BULK AT MOST 1048576: true; the input reads as it did. -/
def displayKeepsUptoRow : OpenClaim := { program := "ytfjekhmnjfcbeaagreat", sum := "ee112d9823a91a6bd271569b1d55a9584b6bf6ff10c640e76aa06c47ba85e844", func := "arbiter/arbiterlaw15.DisplayKeeps", spec := "displayKeeps", inPlace := ["internal/bytealg.IndexByteString", "internal/bytealg.IndexString"], unfollowed := true, recurses := true, named := ["internal/bytealg.MaxLen"], apart := false, narrowed := true }
def DisplayKeepsUptoSaid : Prop := displayKeepsUptoRow.holds Tryz.pinned (OpenSpec.upto displayKeepsSpec)

end Rows
end Go.Proofs.YtfjekhmnjfcbeaaGreat
