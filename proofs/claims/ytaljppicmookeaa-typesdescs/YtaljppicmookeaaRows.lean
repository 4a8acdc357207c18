/-
  No cell of these rows narrows 'for every input' (looked for: loops, veiled, ifaces, maps, wideKeys, modest, calm, conditions, laid).
  DERIVED. THE GIVEN ROWS OF THIS SEAT. 5 by the template 'for every input the law returns true; each argument reads behind the call as it read before'; 0 by the template 'total and deterministic' (their statements: YtaljppicmookeaaTotals.lean).
  GIVEN WITH THE SEED: the statements are not yours to turn. If you find one false, say at which input.
  Laid BY PROGRAM, IN A SANDBOX (cutbox-rows.mjs): the forced cells as the released guide's own fill.sh prints them over the translation 469311f3c2f3febd… (all of the seat's roots in one cut). By AI agents, Wed Nov 11 2026. No macro, syntax, notation, axiom, sorry.
-/
import Derived.Test.YtaljppicmookeaaChecked
import GoSem.Claim
import GoSem.ClaimJoined
import GoSem.ClaimMapViews
import Derived.JoinedTies
import Derived.KernelRfl
namespace Go.Proofs.Ytaljppicmookeaa
/- THE CELL 'sum', in the pinned program and in every row, IS THE sha256 OF THE DUMP (.gsa) THAT YtaljppicmookeaaProg.lean LOADS. Nothing in Lean hashes anything: it is a label: what it is worth is what the hold of that sum in a sandbox is worth. -/
noncomputable def Try.pinned : Pinned := { name := "ytaljppicmookeaa", sum := "469311f3c2f3febd84f578e01ef6d4f81a2ec2c633bad976f0223aa035c62339", checked := Try.checked }
namespace Rows
def none {H : Type} : Left H := { results := [], args := [] }

/-- 'arbiterlaw02.TypesParse': WHATEVER THE INPUT: true; the input reads as it did. -/
def typesParseSpec : ChangeSpec := { name := "typesParse", fn := fun _ => fun
  | [d] => { results := [.lit (.bool true)], args := [d] }
  | _ => none }
def typesParseRow : OpenClaim := { program := "ytaljppicmookeaa", sum := "469311f3c2f3febd84f578e01ef6d4f81a2ec2c633bad976f0223aa035c62339", func := "arbiter/arbiterlaw02.TypesParse", spec := "typesParse", inPlace := ["internal/bytealg.IndexByteString", "internal/bytealg.IndexString"], unfollowed := true, recurses := true, named := ["internal/bytealg.MaxLen"], apart := false }
def TypesParseSaid : Prop := typesParseRow.holds Try.pinned (OpenSpec.ofChange typesParseSpec)

/-- ITS FALSE NEIGHBOUR: 'it returns false'. Refute it at one input. -/
def typesParseWrong : ChangeSpec := { name := "typesParse", fn := fun _ => fun
  | [d] => { results := [.lit (.bool false)], args := [d] }
  | _ => none }
def TypesParseWrongFalsely : Prop := typesParseRow.holds Try.pinned (OpenSpec.ofChange typesParseWrong)

/-- 'arbiterlaw02.TypesWrite': WHATEVER THE INPUT: true; the input reads as it did. -/
def typesWriteSpec : ChangeSpec := { name := "typesWrite", fn := fun _ => fun
  | [d] => { results := [.lit (.bool true)], args := [d] }
  | _ => none }
def typesWriteRow : OpenClaim := { program := "ytaljppicmookeaa", sum := "469311f3c2f3febd84f578e01ef6d4f81a2ec2c633bad976f0223aa035c62339", func := "arbiter/arbiterlaw02.TypesWrite", spec := "typesWrite", inPlace := ["internal/bytealg.IndexByteString", "internal/bytealg.IndexString", "internal/abi.NoEscape", "internal/bytealg.MakeNoZero"], named := ["internal/bytealg.MaxLen"], apart := false }
def TypesWriteSaid : Prop := typesWriteRow.holds Try.pinned (OpenSpec.ofChange typesWriteSpec)

/-- ITS FALSE NEIGHBOUR: 'it returns false'. Refute it at one input. -/
def typesWriteWrong : ChangeSpec := { name := "typesWrite", fn := fun _ => fun
  | [d] => { results := [.lit (.bool false)], args := [d] }
  | _ => none }
def TypesWriteWrongFalsely : Prop := typesWriteRow.holds Try.pinned (OpenSpec.ofChange typesWriteWrong)

/-- 'arbiterlaw02.TypesDescs': WHATEVER THE INPUT: true; the input reads as it did. -/
def typesDescsSpec : ChangeSpec := { name := "typesDescs", fn := fun _ => fun
  | [d] => { results := [.lit (.bool true)], args := [d] }
  | _ => none }
def typesDescsRow : OpenClaim := { program := "ytaljppicmookeaa", sum := "469311f3c2f3febd84f578e01ef6d4f81a2ec2c633bad976f0223aa035c62339", func := "arbiter/arbiterlaw02.TypesDescs", spec := "typesDescs", inPlace := ["internal/bytealg.IndexByteString", "internal/bytealg.IndexString", "internal/abi.NoEscape", "internal/bytealg.MakeNoZero"], unfollowed := true, recurses := true, named := ["internal/bytealg.MaxLen"], apart := false }
def TypesDescsSaid : Prop := typesDescsRow.holds Try.pinned (OpenSpec.ofChange typesDescsSpec)

/-- ITS FALSE NEIGHBOUR: 'it returns false'. Refute it at one input. -/
def typesDescsWrong : ChangeSpec := { name := "typesDescs", fn := fun _ => fun
  | [d] => { results := [.lit (.bool false)], args := [d] }
  | _ => none }
def TypesDescsWrongFalsely : Prop := typesDescsRow.holds Try.pinned (OpenSpec.ofChange typesDescsWrong)

/-- 'arbiterlaw02.TypesBack': WHATEVER THE INPUT: true; the input reads as it did. -/
def typesBackSpec : ChangeSpec := { name := "typesBack", fn := fun _ => fun
  | [d] => { results := [.lit (.bool true)], args := [d] }
  | _ => none }
def typesBackRow : OpenClaim := { program := "ytaljppicmookeaa", sum := "469311f3c2f3febd84f578e01ef6d4f81a2ec2c633bad976f0223aa035c62339", func := "arbiter/arbiterlaw02.TypesBack", spec := "typesBack", inPlace := ["internal/bytealg.IndexByteString", "internal/bytealg.IndexString", "internal/abi.NoEscape", "internal/bytealg.MakeNoZero"], named := ["internal/bytealg.MaxLen"], apart := false }
def TypesBackSaid : Prop := typesBackRow.holds Try.pinned (OpenSpec.ofChange typesBackSpec)

/-- ITS FALSE NEIGHBOUR: 'it returns false'. Refute it at one input. -/
def typesBackWrong : ChangeSpec := { name := "typesBack", fn := fun _ => fun
  | [d] => { results := [.lit (.bool false)], args := [d] }
  | _ => none }
def TypesBackWrongFalsely : Prop := typesBackRow.holds Try.pinned (OpenSpec.ofChange typesBackWrong)

/-- 'arbiterlaw02.TypesTexts': WHATEVER THE INPUT: true; the input reads as it did. -/
def typesTextsSpec : ChangeSpec := { name := "typesTexts", fn := fun _ => fun
  | [d] => { results := [.lit (.bool true)], args := [d] }
  | _ => none }
def typesTextsRow : OpenClaim := { program := "ytaljppicmookeaa", sum := "469311f3c2f3febd84f578e01ef6d4f81a2ec2c633bad976f0223aa035c62339", func := "arbiter/arbiterlaw02.TypesTexts", spec := "typesTexts", inPlace := ["internal/bytealg.IndexByteString", "internal/bytealg.IndexString", "internal/abi.NoEscape", "internal/bytealg.MakeNoZero"], unfollowed := true, recurses := true, named := ["internal/bytealg.MaxLen"], apart := false }
def TypesTextsSaid : Prop := typesTextsRow.holds Try.pinned (OpenSpec.ofChange typesTextsSpec)

/-- ITS FALSE NEIGHBOUR: 'it returns false'. Refute it at one input. -/
def typesTextsWrong : ChangeSpec := { name := "typesTexts", fn := fun _ => fun
  | [d] => { results := [.lit (.bool false)], args := [d] }
  | _ => none }
def TypesTextsWrongFalsely : Prop := typesTextsRow.holds Try.pinned (OpenSpec.ofChange typesTextsWrong)

/- THE SECOND FORM. 'bulk': how many values and letters a reading holds, each counted each time it is reached (what is shared counts as often as it is met; a slice's spare places count too). A statement '..UptoSaid' is the law's where the arguments, and the package variables that the reading takes, are together of bulk at most 1048576: NARROWER than '..Said'. Prove '..Said' where nothing that the law and all that it calls make is longer than what came in: it says more and counts as full. Else prove '..UptoSaid'. A law counts once. -/
mutual
def uptoBulk {H : Type} : DataW H → Nat
  | .lit (.string bytes) => bytes.length + 1
  | .lit _ => 1
  | .nil => 1
  | .ptr d => uptoBulk d + 1
  | .slice elems spare => uptoBulkAll elems + uptoBulkAll spare + 1
  | .agg parts => uptoBulkAll parts + 1
  | .iface _ d => uptoBulk d + 1
  | .map entries => uptoBulkEntries entries + 1
  | .held _ => 1
def uptoBulkAll {H : Type} : List (DataW H) → Nat
  | [] => 0
  | d :: r => uptoBulk d + uptoBulkAll r
def uptoBulkEntries {H : Type} : List (Lit × DataW H) → Nat
  | [] => 0
  | x :: r => uptoBulkEntry x + uptoBulkEntries r
def uptoBulkEntry {H : Type} : Lit × DataW H → Nat
  | (.string bytes, d) => bytes.length + uptoBulk d + 1
  | (_, d) => uptoBulk d + 1
 end
def uptoSmall : (H : Type) → List (DataW H) → Bool := fun _ ds => decide (uptoBulkAll ds ≤ 1048576)
def OpenSpec.upto (s : _root_.Go.ChangeSpec) : _root_.Go.OpenSpec := { _root_.Go.OpenSpec.ofChange s with cond := some uptoSmall }

/-- 'arbiterlaw02.TypesParse', WHERE WHAT IT READS IS OF BULK AT MOST 1048576: true; the input reads as it did. -/
def typesParseUptoRow : OpenClaim := { program := "ytaljppicmookeaa", sum := "469311f3c2f3febd84f578e01ef6d4f81a2ec2c633bad976f0223aa035c62339", func := "arbiter/arbiterlaw02.TypesParse", spec := "typesParse", inPlace := ["internal/bytealg.IndexByteString", "internal/bytealg.IndexString"], unfollowed := true, recurses := true, named := ["internal/bytealg.MaxLen"], apart := false, narrowed := true }
def TypesParseUptoSaid : Prop := typesParseUptoRow.holds Try.pinned (OpenSpec.upto typesParseSpec)

/-- 'arbiterlaw02.TypesWrite', WHERE WHAT IT READS IS OF BULK AT MOST 1048576: true; the input reads as it did. -/
def typesWriteUptoRow : OpenClaim := { program := "ytaljppicmookeaa", sum := "469311f3c2f3febd84f578e01ef6d4f81a2ec2c633bad976f0223aa035c62339", func := "arbiter/arbiterlaw02.TypesWrite", spec := "typesWrite", inPlace := ["internal/bytealg.IndexByteString", "internal/bytealg.IndexString", "internal/abi.NoEscape", "internal/bytealg.MakeNoZero"], named := ["internal/bytealg.MaxLen"], apart := false, narrowed := true }
def TypesWriteUptoSaid : Prop := typesWriteUptoRow.holds Try.pinned (OpenSpec.upto typesWriteSpec)

/-- 'arbiterlaw02.TypesDescs', WHERE WHAT IT READS IS OF BULK AT MOST 1048576: true; the input reads as it did. -/
def typesDescsUptoRow : OpenClaim := { program := "ytaljppicmookeaa", sum := "469311f3c2f3febd84f578e01ef6d4f81a2ec2c633bad976f0223aa035c62339", func := "arbiter/arbiterlaw02.TypesDescs", spec := "typesDescs", inPlace := ["internal/bytealg.IndexByteString", "internal/bytealg.IndexString", "internal/abi.NoEscape", "internal/bytealg.MakeNoZero"], unfollowed := true, recurses := true, named := ["internal/bytealg.MaxLen"], apart := false, narrowed := true }
def TypesDescsUptoSaid : Prop := typesDescsUptoRow.holds Try.pinned (OpenSpec.upto typesDescsSpec)

/-- 'arbiterlaw02.TypesBack', WHERE WHAT IT READS IS OF BULK AT MOST 1048576: true; the input reads as it did. -/
def typesBackUptoRow : OpenClaim := { program := "ytaljppicmookeaa", sum := "469311f3c2f3febd84f578e01ef6d4f81a2ec2c633bad976f0223aa035c62339", func := "arbiter/arbiterlaw02.TypesBack", spec := "typesBack", inPlace := ["internal/bytealg.IndexByteString", "internal/bytealg.IndexString", "internal/abi.NoEscape", "internal/bytealg.MakeNoZero"], named := ["internal/bytealg.MaxLen"], apart := false, narrowed := true }
def TypesBackUptoSaid : Prop := typesBackUptoRow.holds Try.pinned (OpenSpec.upto typesBackSpec)

/-- 'arbiterlaw02.TypesTexts', WHERE WHAT IT READS IS OF BULK AT MOST 1048576: true; the input reads as it did. -/
def typesTextsUptoRow : OpenClaim := { program := "ytaljppicmookeaa", sum := "469311f3c2f3febd84f578e01ef6d4f81a2ec2c633bad976f0223aa035c62339", func := "arbiter/arbiterlaw02.TypesTexts", spec := "typesTexts", inPlace := ["internal/bytealg.IndexByteString", "internal/bytealg.IndexString", "internal/abi.NoEscape", "internal/bytealg.MakeNoZero"], unfollowed := true, recurses := true, named := ["internal/bytealg.MaxLen"], apart := false, narrowed := true }
def TypesTextsUptoSaid : Prop := typesTextsUptoRow.holds Try.pinned (OpenSpec.upto typesTextsSpec)

end Rows
end Go.Proofs.Ytaljppicmookeaa
