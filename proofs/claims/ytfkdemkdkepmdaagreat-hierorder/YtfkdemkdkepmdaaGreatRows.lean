/-
  No cell of these rows narrows 'for every input' (looked for: loops, veiled, ifaces, maps, wideKeys, modest, calm, conditions, laid).
  DERIVED. THE GIVEN ROWS OF THIS SEAT. 6 by the template 'for every input the law returns true; each argument reads behind the call as it read before'; 0 by the template 'total and deterministic' (their statements: YtfkdemkdkepmdaaGreatTotals.lean).
  GIVEN WITH THE SEED: the statements are not yours to turn. If you find one false, say at which input.
  Laid BY PROGRAM, IN A SANDBOX (cutbox-rows.mjs): the forced cells as the released guide's own fill.sh prints them over the translation dd9419f032eec295… (all of the seat's roots in one cut). By AI agents, Wed Nov 11 2026. No macro, syntax, notation, axiom, sorry.
-/
import Derived.Test.YtfkdemkdkepmdaaGreatChecked
import GoSem.Claim
import GoSem.ClaimJoined
import GoSem.ClaimMapViews
import Derived.JoinedTies
import Derived.KernelRfl
namespace Go.Proofs.YtfkdemkdkepmdaaGreat
/- THE CELL 'sum', in the pinned program and in every row, IS THE sha256 OF THE DUMP (.gsa) THAT YtfkdemkdkepmdaaGreatProg.lean LOADS. Nothing in Lean hashes anything: it is a label: what it is worth is what the hold of that sum in a sandbox is worth. -/
noncomputable def Tryz.pinned : Pinned := { name := "ytfkdemkdkepmdaagreat", sum := "dd9419f032eec2958baecce818b9571ec9f2363be9655be2c250e6671678a4ab", checked := Tryz.checked }
namespace Rows
def none {H : Type} : Left H := { results := [], args := [] }

/-- 'arbiterlaw06.HierDefines': WHATEVER THE INPUT: true; the input reads as it did. -/
def hierDefinesSpec : ChangeSpec := { name := "hierDefines", fn := fun _ => fun
  | [d] => { results := [.lit (.bool true)], args := [d] }
  | _ => none }
def hierDefinesRow : OpenClaim := { program := "ytfkdemkdkepmdaagreat", sum := "dd9419f032eec2958baecce818b9571ec9f2363be9655be2c250e6671678a4ab", func := "arbiter/arbiterlaw06.HierDefines", spec := "hierDefines", inPlace := ["internal/bytealg.IndexByteString", "internal/bytealg.IndexString"], unfollowed := true, recurses := true, named := ["internal/bytealg.MaxLen"], apart := false }
def HierDefinesSaid : Prop := hierDefinesRow.holds Tryz.pinned (OpenSpec.ofChange hierDefinesSpec)

/-- ITS FALSE NEIGHBOUR: 'it returns false'. Refute it at one input. -/
def hierDefinesWrong : ChangeSpec := { name := "hierDefines", fn := fun _ => fun
  | [d] => { results := [.lit (.bool false)], args := [d] }
  | _ => none }
def HierDefinesWrongFalsely : Prop := hierDefinesRow.holds Tryz.pinned (OpenSpec.ofChange hierDefinesWrong)

/-- 'arbiterlaw06.HierAsks': WHATEVER THE INPUT: true; the input reads as it did. -/
def hierAsksSpec : ChangeSpec := { name := "hierAsks", fn := fun _ => fun
  | [d1, d2, d3, d4, d5] => { results := [.lit (.bool true)], args := [d1, d2, d3, d4, d5] }
  | _ => none }
def hierAsksRow : OpenClaim := { program := "ytfkdemkdkepmdaagreat", sum := "dd9419f032eec2958baecce818b9571ec9f2363be9655be2c250e6671678a4ab", func := "arbiter/arbiterlaw06.HierAsks", spec := "hierAsks", inPlace := ["internal/bytealg.IndexByteString", "internal/bytealg.IndexString"], unfollowed := true, recurses := true, named := ["internal/bytealg.MaxLen"], apart := false }
def HierAsksSaid : Prop := hierAsksRow.holds Tryz.pinned (OpenSpec.ofChange hierAsksSpec)

/-- ITS FALSE NEIGHBOUR: 'it returns false'. Refute it at one input. -/
def hierAsksWrong : ChangeSpec := { name := "hierAsks", fn := fun _ => fun
  | [d1, d2, d3, d4, d5] => { results := [.lit (.bool false)], args := [d1, d2, d3, d4, d5] }
  | _ => none }
def HierAsksWrongFalsely : Prop := hierAsksRow.holds Tryz.pinned (OpenSpec.ofChange hierAsksWrong)

/-- 'arbiterlaw06.HierOrder': WHATEVER THE INPUT: true; the input reads as it did. -/
def hierOrderSpec : ChangeSpec := { name := "hierOrder", fn := fun _ => fun
  | [d] => { results := [.lit (.bool true)], args := [d] }
  | _ => none }
def hierOrderRow : OpenClaim := { program := "ytfkdemkdkepmdaagreat", sum := "dd9419f032eec2958baecce818b9571ec9f2363be9655be2c250e6671678a4ab", func := "arbiter/arbiterlaw06.HierOrder", spec := "hierOrder", inPlace := ["internal/bytealg.IndexByteString", "internal/bytealg.IndexString"], unfollowed := true, recurses := true, named := ["internal/bytealg.MaxLen"], apart := false }
def HierOrderSaid : Prop := hierOrderRow.holds Tryz.pinned (OpenSpec.ofChange hierOrderSpec)

/-- ITS FALSE NEIGHBOUR: 'it returns false'. Refute it at one input. -/
def hierOrderWrong : ChangeSpec := { name := "hierOrder", fn := fun _ => fun
  | [d] => { results := [.lit (.bool false)], args := [d] }
  | _ => none }
def HierOrderWrongFalsely : Prop := hierOrderRow.holds Tryz.pinned (OpenSpec.ofChange hierOrderWrong)

/-- 'arbiterlaw06.HierGrows': WHATEVER THE INPUT: true; the input reads as it did. -/
def hierGrowsSpec : ChangeSpec := { name := "hierGrows", fn := fun _ => fun
  | [d1, d2] => { results := [.lit (.bool true)], args := [d1, d2] }
  | _ => none }
def hierGrowsRow : OpenClaim := { program := "ytfkdemkdkepmdaagreat", sum := "dd9419f032eec2958baecce818b9571ec9f2363be9655be2c250e6671678a4ab", func := "arbiter/arbiterlaw06.HierGrows", spec := "hierGrows", inPlace := ["internal/bytealg.IndexByteString", "internal/bytealg.IndexString"], unfollowed := true, recurses := true, named := ["internal/bytealg.MaxLen"], apart := false }
def HierGrowsSaid : Prop := hierGrowsRow.holds Tryz.pinned (OpenSpec.ofChange hierGrowsSpec)

/-- ITS FALSE NEIGHBOUR: 'it returns false'. Refute it at one input. -/
def hierGrowsWrong : ChangeSpec := { name := "hierGrows", fn := fun _ => fun
  | [d1, d2] => { results := [.lit (.bool false)], args := [d1, d2] }
  | _ => none }
def HierGrowsWrongFalsely : Prop := hierGrowsRow.holds Tryz.pinned (OpenSpec.ofChange hierGrowsWrong)

/-- 'arbiterlaw06.HierKeeps': WHATEVER THE INPUT: true; the input reads as it did. -/
def hierKeepsSpec : ChangeSpec := { name := "hierKeeps", fn := fun _ => fun
  | [d1, d2] => { results := [.lit (.bool true)], args := [d1, d2] }
  | _ => none }
def hierKeepsRow : OpenClaim := { program := "ytfkdemkdkepmdaagreat", sum := "dd9419f032eec2958baecce818b9571ec9f2363be9655be2c250e6671678a4ab", func := "arbiter/arbiterlaw06.HierKeeps", spec := "hierKeeps", inPlace := ["internal/bytealg.IndexByteString", "internal/bytealg.IndexString"], unfollowed := true, recurses := true, named := ["internal/bytealg.MaxLen"], apart := false }
def HierKeepsSaid : Prop := hierKeepsRow.holds Tryz.pinned (OpenSpec.ofChange hierKeepsSpec)

/-- ITS FALSE NEIGHBOUR: 'it returns false'. Refute it at one input. -/
def hierKeepsWrong : ChangeSpec := { name := "hierKeeps", fn := fun _ => fun
  | [d1, d2] => { results := [.lit (.bool false)], args := [d1, d2] }
  | _ => none }
def HierKeepsWrongFalsely : Prop := hierKeepsRow.holds Tryz.pinned (OpenSpec.ofChange hierKeepsWrong)

/-- 'arbiterlaw06.HierNil': WHATEVER THE INPUT: true; the input reads as it did. -/
def hierNilSpec : ChangeSpec := { name := "hierNil", fn := fun _ => fun
  | [] => { results := [.lit (.bool true)], args := [] }
  | _ => none }
def hierNilRow : OpenClaim := { program := "ytfkdemkdkepmdaagreat", sum := "dd9419f032eec2958baecce818b9571ec9f2363be9655be2c250e6671678a4ab", func := "arbiter/arbiterlaw06.HierNil", spec := "hierNil", inPlace := ["internal/bytealg.IndexByteString", "internal/bytealg.IndexString"], unfollowed := true, recurses := true, named := ["internal/bytealg.MaxLen"], apart := false }
def HierNilSaid : Prop := hierNilRow.holds Tryz.pinned (OpenSpec.ofChange hierNilSpec)

/-- ITS FALSE NEIGHBOUR: 'it returns false'. Refute it at one input. -/
def hierNilWrong : ChangeSpec := { name := "hierNil", fn := fun _ => fun
  | [] => { results := [.lit (.bool false)], args := [] }
  | _ => none }
def HierNilWrongFalsely : Prop := hierNilRow.holds Tryz.pinned (OpenSpec.ofChange hierNilWrong)

/- THE SECOND FORM. 'bulk': how many values and letters a reading holds, each counted each time it is reached (what is shared counts as often as it is met; a slice's spare places count too). A statement '..UptoSaid' is the law's where the arguments, and the package variables that the reading takes, are together of bulk at most 1048576: NARROWER than '..Said'. Prove '..Said' where nothing that the law and all that it calls make is longer than what came in: it says more and counts as full. Else prove '..UptoSaid'. A law counts once. -/
mutual
def uptoBulk {H : Type} : DataW H → Nat
  | .lit (.string bytes) => bytes.length + 1
  | .lit _ => 1
  | .nil => 1
  | .ptr d => uptoBulk d + 1
  | .slice elems spare => uptoBulkAll elems + uptoBulkAll spare + 1
  | .agg parts => uptoBulkAll parts + 1
  | .iface _ d => uptoBulk d + 1
  | .map entries => uptoBulkEntries entries + 1
  | .held _ => 1
def uptoBulkAll {H : Type} : List (DataW H) → Nat
  | [] => 0
  | d :: r => uptoBulk d + uptoBulkAll r
def uptoBulkEntries {H : Type} : List (Lit × DataW H) → Nat
  | [] => 0
  | x :: r => uptoBulkEntry x + uptoBulkEntries r
def uptoBulkEntry {H : Type} : Lit × DataW H → Nat
  | (.string bytes, d) => bytes.length + uptoBulk d + 1
  | (_, d) => uptoBulk d + 1
 end
def uptoSmall : (H : Type) → List (DataW H) → Bool := fun _ ds => decide (uptoBulkAll ds ≤ 1048576)
def OpenSpec.upto (s : _root_.Go.ChangeSpec) : _root_.Go.OpenSpec := { _root_.Go.OpenSpec.ofChange s with cond := some uptoSmall }

/-- 'arbiterlaw06.HierDefines', WHERE WHAT IT READS IS OF BULK AT MOST 1048576: true; the input reads as it did. -/
def hierDefinesUptoRow : OpenClaim := { program := "ytfkdemkdkepmdaagreat", sum := "dd9419f032eec2958baecce818b9571ec9f2363be9655be2c250e6671678a4ab", func := "arbiter/arbiterlaw06.HierDefines", spec := "hierDefines", inPlace := ["internal/bytealg.IndexByteString", "internal/bytealg.IndexString"], unfollowed := true, recurses := true, named := ["internal/bytealg.MaxLen"], apart := false, narrowed := true }
def HierDefinesUptoSaid : Prop := hierDefinesUptoRow.holds Tryz.pinned (OpenSpec.upto hierDefinesSpec)

/-- 'arbiterlaw06.HierAsks', WHERE WHAT IT READS IS OF BULK AT MOST 1048576: true; the input reads as it did. -/
def hierAsksUptoRow : OpenClaim := { program := "ytfkdemkdkepmdaagreat", sum := "dd9419f032eec2958baecce818b9571ec9f2363be9655be2c250e6671678a4ab", func := "arbiter/arbiterlaw06.HierAsks", spec := "hierAsks", inPlace := ["internal/bytealg.IndexByteString", "internal/bytealg.IndexString"], unfollowed := true, recurses := true, named := ["internal/bytealg.MaxLen"], apart := false, narrowed := true }
def HierAsksUptoSaid : Prop := hierAsksUptoRow.holds Tryz.pinned (OpenSpec.upto hierAsksSpec)

/-- 'arbiterlaw06.HierOrder', WHERE WHAT IT READS IS OF BULK AT MOST 1048576: true; the input reads as it did. -/
def hierOrderUptoRow : OpenClaim := { program := "ytfkdemkdkepmdaagreat", sum := "dd9419f032eec2958baecce818b9571ec9f2363be9655be2c250e6671678a4ab", func := "arbiter/arbiterlaw06.HierOrder", spec := "hierOrder", inPlace := ["internal/bytealg.IndexByteString", "internal/bytealg.IndexString"], unfollowed := true, recurses := true, named := ["internal/bytealg.MaxLen"], apart := false, narrowed := true }
def HierOrderUptoSaid : Prop := hierOrderUptoRow.holds Tryz.pinned (OpenSpec.upto hierOrderSpec)

/-- 'arbiterlaw06.HierGrows', WHERE WHAT IT READS IS OF BULK AT MOST 1048576: true; the input reads as it did. -/
def hierGrowsUptoRow : OpenClaim := { program := "ytfkdemkdkepmdaagreat", sum := "dd9419f032eec2958baecce818b9571ec9f2363be9655be2c250e6671678a4ab", func := "arbiter/arbiterlaw06.HierGrows", spec := "hierGrows", inPlace := ["internal/bytealg.IndexByteString", "internal/bytealg.IndexString"], unfollowed := true, recurses := true, named := ["internal/bytealg.MaxLen"], apart := false, narrowed := true }
def HierGrowsUptoSaid : Prop := hierGrowsUptoRow.holds Tryz.pinned (OpenSpec.upto hierGrowsSpec)

/-- 'arbiterlaw06.HierKeeps', WHERE WHAT IT READS IS OF BULK AT MOST 1048576: true; the input reads as it did. -/
def hierKeepsUptoRow : OpenClaim := { program := "ytfkdemkdkepmdaagreat", sum := "dd9419f032eec2958baecce818b9571ec9f2363be9655be2c250e6671678a4ab", func := "arbiter/arbiterlaw06.HierKeeps", spec := "hierKeeps", inPlace := ["internal/bytealg.IndexByteString", "internal/bytealg.IndexString"], unfollowed := true, recurses := true, named := ["internal/bytealg.MaxLen"], apart := false, narrowed := true }
def HierKeepsUptoSaid : Prop := hierKeepsUptoRow.holds Tryz.pinned (OpenSpec.upto hierKeepsSpec)

/-- 'arbiterlaw06.HierNil', WHERE WHAT IT READS IS OF BULK AT MOST 1048576: true; the input reads as it did. -/
def hierNilUptoRow : OpenClaim := { program := "ytfkdemkdkepmdaagreat", sum := "dd9419f032eec2958baecce818b9571ec9f2363be9655be2c250e6671678a4ab", func := "arbiter/arbiterlaw06.HierNil", spec := "hierNil", inPlace := ["internal/bytealg.IndexByteString", "internal/bytealg.IndexString"], unfollowed := true, recurses := true, named := ["internal/bytealg.MaxLen"], apart := false, narrowed := true }
def HierNilUptoSaid : Prop := hierNilUptoRow.holds Tryz.pinned (OpenSpec.upto hierNilSpec)

end Rows
end Go.Proofs.YtfkdemkdkepmdaaGreat
