/-
  No cell of these rows narrows 'for every input' (looked for: loops, veiled, ifaces, maps, wideKeys, modest, calm, conditions, laid).
  DERIVED. THE GIVEN ROWS OF THIS SEAT. 3 by the template 'for every input the law returns true; each argument reads behind the call as it read before'; 0 by the template 'total and deterministic' (their statements: YtjbmmmcjegjelaaGreatTotals.lean).
  GIVEN WITH THE SEED: the statements are not yours to turn. If you find one false, say at which input.
  Laid BY PROGRAM, IN A SANDBOX (cutbox-rows.mjs): the forced cells as the released guide's own fill.sh prints them over the translation 82fd4e3a5995ea10… (all of the seat's roots in one cut). By AI agents, Wed Nov 11 2026. No macro, syntax, notation, axiom, sorry.
-/
import Derived.Test.YtjbmmmcjegjelaaGreatChecked
import GoSem.Claim
import GoSem.ClaimJoined
import GoSem.ClaimMapViews
import Derived.JoinedTies
import Derived.KernelRfl
namespace Go.Proofs.YtjbmmmcjegjelaaGreat
/- THE CELL 'sum', in the pinned program and in every row, IS THE sha256 OF THE DUMP (.gsa) THAT YtjbmmmcjegjelaaGreatProg.lean LOADS. Nothing in Lean hashes anything: it is a label: what it is worth is what the hold of that sum in a sandbox is worth. -/
noncomputable def Tryz.pinned : Pinned := { name := "ytjbmmmcjegjelaagreat", sum := "82fd4e3a5995ea1000e6a50ea00558cdba7b25c22bd2d5e948302562e507675b", checked := Tryz.checked }
namespace Rows
def none {H : Type} : Left H := { results := [], args := [] }

/-- 'arbiterlaw13.VtableBuilds': WHATEVER THE INPUT: true; the input reads as it did. -/
def vtableBuildsSpec : ChangeSpec := { name := "vtableBuilds", fn := fun _ => fun
  | [d1, d2] => { results := [.lit (.bool true)], args := [d1, d2] }
  | _ => none }
def vtableBuildsRow : OpenClaim := { program := "ytjbmmmcjegjelaagreat", sum := "82fd4e3a5995ea1000e6a50ea00558cdba7b25c22bd2d5e948302562e507675b", func := "arbiter/arbiterlaw13.VtableBuilds", spec := "vtableBuilds", inPlace := ["internal/bytealg.IndexByteString", "internal/bytealg.IndexString"], unfollowed := true, recurses := true, named := ["internal/bytealg.MaxLen"], apart := false }
def VtableBuildsSaid : Prop := vtableBuildsRow.holds Tryz.pinned (OpenSpec.ofChange vtableBuildsSpec)

/-- ITS FALSE NEIGHBOUR: 'it returns false'. Refute it at one input. -/
def vtableBuildsWrong : ChangeSpec := { name := "vtableBuilds", fn := fun _ => fun
  | [d1, d2] => { results := [.lit (.bool false)], args := [d1, d2] }
  | _ => none }
def VtableBuildsWrongFalsely : Prop := vtableBuildsRow.holds Tryz.pinned (OpenSpec.ofChange vtableBuildsWrong)

/-- 'arbiterlaw13.VtablePlays': WHATEVER THE INPUT: true; the input reads as it did. -/
def vtablePlaysSpec : ChangeSpec := { name := "vtablePlays", fn := fun _ => fun
  | [d1, d2, d3] => { results := [.lit (.bool true)], args := [d1, d2, d3] }
  | _ => none }
def vtablePlaysRow : OpenClaim := { program := "ytjbmmmcjegjelaagreat", sum := "82fd4e3a5995ea1000e6a50ea00558cdba7b25c22bd2d5e948302562e507675b", func := "arbiter/arbiterlaw13.VtablePlays", spec := "vtablePlays", inPlace := ["internal/bytealg.IndexByteString", "internal/bytealg.IndexString"], unfollowed := true, recurses := true, named := ["internal/bytealg.MaxLen"], apart := false }
def VtablePlaysSaid : Prop := vtablePlaysRow.holds Tryz.pinned (OpenSpec.ofChange vtablePlaysSpec)

/-- ITS FALSE NEIGHBOUR: 'it returns false'. Refute it at one input. -/
def vtablePlaysWrong : ChangeSpec := { name := "vtablePlays", fn := fun _ => fun
  | [d1, d2, d3] => { results := [.lit (.bool false)], args := [d1, d2, d3] }
  | _ => none }
def VtablePlaysWrongFalsely : Prop := vtablePlaysRow.holds Tryz.pinned (OpenSpec.ofChange vtablePlaysWrong)

/-- 'arbiterlaw13.VtableKeeps': WHATEVER THE INPUT: true; the input reads as it did. -/
def vtableKeepsSpec : ChangeSpec := { name := "vtableKeeps", fn := fun _ => fun
  | [d1, d2] => { results := [.lit (.bool true)], args := [d1, d2] }
  | _ => none }
def vtableKeepsRow : OpenClaim := { program := "ytjbmmmcjegjelaagreat", sum := "82fd4e3a5995ea1000e6a50ea00558cdba7b25c22bd2d5e948302562e507675b", func := "arbiter/arbiterlaw13.VtableKeeps", spec := "vtableKeeps", inPlace := ["internal/bytealg.IndexByteString", "internal/bytealg.IndexString"], unfollowed := true, recurses := true, named := ["internal/bytealg.MaxLen"], apart := false }
def VtableKeepsSaid : Prop := vtableKeepsRow.holds Tryz.pinned (OpenSpec.ofChange vtableKeepsSpec)

/-- ITS FALSE NEIGHBOUR: 'it returns false'. Refute it at one input. -/
def vtableKeepsWrong : ChangeSpec := { name := "vtableKeeps", fn := fun _ => fun
  | [d1, d2] => { results := [.lit (.bool false)], args := [d1, d2] }
  | _ => none }
def VtableKeepsWrongFalsely : Prop := vtableKeepsRow.holds Tryz.pinned (OpenSpec.ofChange vtableKeepsWrong)

/- THE SECOND FORM. 'bulk': how many values and letters a reading holds, each counted each time it is reached (what is shared counts as often as it is met; a slice's spare places count too). A statement '..UptoSaid' is the law's where the arguments, and the package variables that the reading takes, are together of bulk at most 1048576: NARROWER than '..Said'. Prove '..Said' where nothing that the law and all that it calls make is longer than what came in: it says more and counts as full. Else prove '..UptoSaid'. A law counts once. -/
mutual
def uptoBulk {H : Type} : DataW H → Nat
  | .lit (.string bytes) => bytes.length + 1
  | .lit _ => 1
  | .nil => 1
  | .ptr d => uptoBulk d + 1
  | .slice elems spare => uptoBulkAll elems + uptoBulkAll spare + 1
  | .agg parts => uptoBulkAll parts + 1
  | .iface _ d => uptoBulk d + 1
  | .map entries => uptoBulkEntries entries + 1
  | .held _ => 1
def uptoBulkAll {H : Type} : List (DataW H) → Nat
  | [] => 0
  | d :: r => uptoBulk d + uptoBulkAll r
def uptoBulkEntries {H : Type} : List (Lit × DataW H) → Nat
  | [] => 0
  | x :: r => uptoBulkEntry x + uptoBulkEntries r
def uptoBulkEntry {H : Type} : Lit × DataW H → Nat
  | (.string bytes, d) => bytes.length + uptoBulk d + 1
  | (_, d) => uptoBulk d + 1
 end
def uptoSmall : (H : Type) → List (DataW H) → Bool := fun _ ds => decide (uptoBulkAll ds ≤ 1048576)
def OpenSpec.upto (s : _root_.Go.ChangeSpec) : _root_.Go.OpenSpec := { _root_.Go.OpenSpec.ofChange s with cond := some uptoSmall }

/-- 'arbiterlaw13.VtableBuilds', WHERE WHAT IT READS IS OF BULK AT MOST 1048576: true; the input reads as it did. -/
def vtableBuildsUptoRow : OpenClaim := { program := "ytjbmmmcjegjelaagreat", sum := "82fd4e3a5995ea1000e6a50ea00558cdba7b25c22bd2d5e948302562e507675b", func := "arbiter/arbiterlaw13.VtableBuilds", spec := "vtableBuilds", inPlace := ["internal/bytealg.IndexByteString", "internal/bytealg.IndexString"], unfollowed := true, recurses := true, named := ["internal/bytealg.MaxLen"], apart := false, narrowed := true }
def VtableBuildsUptoSaid : Prop := vtableBuildsUptoRow.holds Tryz.pinned (OpenSpec.upto vtableBuildsSpec)

/-- 'arbiterlaw13.VtablePlays', WHERE WHAT IT READS IS OF BULK AT MOST 1048576: true; the input reads as it did. -/
def vtablePlaysUptoRow : OpenClaim := { program := "ytjbmmmcjegjelaagreat", sum := "82fd4e3a5995ea1000e6a50ea00558cdba7b25c22bd2d5e948302562e507675b", func := "arbiter/arbiterlaw13.VtablePlays", spec := "vtablePlays", inPlace := ["internal/bytealg.IndexByteString", "internal/bytealg.IndexString"], unfollowed := true, recurses := true, named := ["internal/bytealg.MaxLen"], apart := false, narrowed := true }
def VtablePlaysUptoSaid : Prop := vtablePlaysUptoRow.holds Tryz.pinned (OpenSpec.upto vtablePlaysSpec)

/-- 'arbiterlaw13.VtableKeeps', WHERE WHAT IT READS IS OF BULK AT MOST 1048576: true; the input reads as it did. -/
def vtableKeepsUptoRow : OpenClaim := { program := "ytjbmmmcjegjelaagreat", sum := "82fd4e3a5995ea1000e6a50ea00558cdba7b25c22bd2d5e948302562e507675b", func := "arbiter/arbiterlaw13.VtableKeeps", spec := "vtableKeeps", inPlace := ["internal/bytealg.IndexByteString", "internal/bytealg.IndexString"], unfollowed := true, recurses := true, named := ["internal/bytealg.MaxLen"], apart := false, narrowed := true }
def VtableKeepsUptoSaid : Prop := vtableKeepsUptoRow.holds Tryz.pinned (OpenSpec.upto vtableKeepsSpec)

end Rows
end Go.Proofs.YtjbmmmcjegjelaaGreat
