/-
  No cell of these rows narrows 'for every input' (looked for: loops, veiled, ifaces, maps, wideKeys, modest, calm, conditions, laid).
  DERIVED. THE GIVEN ROWS OF THIS SEAT. 6 by the template 'for every input the law returns true; each argument reads behind the call as it read before'; 0 by the template 'total and deterministic' (their statements: YtmafkabjjibcbaaGreatTotals.lean).
  GIVEN WITH THE SEED: the statements are not yours to turn. If you find one false, say at which input.
  Laid BY PROGRAM, IN A SANDBOX (cutbox-rows.mjs): the forced cells as the released guide's own fill.sh prints them over the translation 8a7cd844a38bbab2… (all of the seat's roots in one cut). By AI agents, Wed Nov 11 2026. No macro, syntax, notation, axiom, sorry.
-/
import Derived.Test.YtmafkabjjibcbaaGreatChecked
import GoSem.Claim
import GoSem.ClaimJoined
import GoSem.ClaimMapViews
import Derived.JoinedTies
import Derived.KernelRfl
namespace Go.Proofs.YtmafkabjjibcbaaGreat
/- THE CELL 'sum', in the pinned program and in every row, IS THE sha256 OF THE DUMP (.gsa) THAT YtmafkabjjibcbaaGreatProg.lean LOADS. Nothing in Lean hashes anything: it is a label: what it is worth is what the hold of that sum in a sandbox is worth. -/
noncomputable def Tryz.pinned : Pinned := { name := "ytmafkabjjibcbaagreat", sum := "8a7cd844a38bbab22cd2d5eff853cdb291081d9ee800bae0b9948c6cf6163006", checked := Tryz.checked }
namespace Rows
def none {H : Type} : Left H := { results := [], args := [] }

/-- 'arbiterlaw14.ItableKeeps': WHATEVER THE INPUT: true; the input reads as it did. -/
def itableKeepsSpec : ChangeSpec := { name := "itableKeeps", fn := fun _ => fun
  | [d1, d2] => { results := [.lit (.bool true)], args := [d1, d2] }
  | _ => none }
def itableKeepsRow : OpenClaim := { program := "ytmafkabjjibcbaagreat", sum := "8a7cd844a38bbab22cd2d5eff853cdb291081d9ee800bae0b9948c6cf6163006", func := "arbiter/arbiterlaw14.ItableKeeps", spec := "itableKeeps", inPlace := ["internal/bytealg.IndexByteString", "internal/bytealg.IndexString"], unfollowed := true, recurses := true, named := ["internal/bytealg.MaxLen"], apart := false }
def ItableKeepsSaid : Prop := itableKeepsRow.holds Tryz.pinned (OpenSpec.ofChange itableKeepsSpec)

/-- ITS FALSE NEIGHBOUR: 'it returns false'. Refute it at one input. -/
def itableKeepsWrong : ChangeSpec := { name := "itableKeeps", fn := fun _ => fun
  | [d1, d2] => { results := [.lit (.bool false)], args := [d1, d2] }
  | _ => none }
def ItableKeepsWrongFalsely : Prop := itableKeepsRow.holds Tryz.pinned (OpenSpec.ofChange itableKeepsWrong)

/-- 'arbiterlaw14.ItableBuilds': WHATEVER THE INPUT: true; the input reads as it did. -/
def itableBuildsSpec : ChangeSpec := { name := "itableBuilds", fn := fun _ => fun
  | [d1, d2] => { results := [.lit (.bool true)], args := [d1, d2] }
  | _ => none }
def itableBuildsRow : OpenClaim := { program := "ytmafkabjjibcbaagreat", sum := "8a7cd844a38bbab22cd2d5eff853cdb291081d9ee800bae0b9948c6cf6163006", func := "arbiter/arbiterlaw14.ItableBuilds", spec := "itableBuilds", inPlace := ["internal/bytealg.IndexByteString", "internal/bytealg.IndexString"], unfollowed := true, recurses := true, named := ["internal/bytealg.MaxLen"], apart := false }
def ItableBuildsSaid : Prop := itableBuildsRow.holds Tryz.pinned (OpenSpec.ofChange itableBuildsSpec)

/-- ITS FALSE NEIGHBOUR: 'it returns false'. Refute it at one input. -/
def itableBuildsWrong : ChangeSpec := { name := "itableBuilds", fn := fun _ => fun
  | [d1, d2] => { results := [.lit (.bool false)], args := [d1, d2] }
  | _ => none }
def ItableBuildsWrongFalsely : Prop := itableBuildsRow.holds Tryz.pinned (OpenSpec.ofChange itableBuildsWrong)

/-- 'arbiterlaw14.ItableLooks': WHATEVER THE INPUT: true; the input reads as it did. -/
def itableLooksSpec : ChangeSpec := { name := "itableLooks", fn := fun _ => fun
  | [d1, d2, d3] => { results := [.lit (.bool true)], args := [d1, d2, d3] }
  | _ => none }
def itableLooksRow : OpenClaim := { program := "ytmafkabjjibcbaagreat", sum := "8a7cd844a38bbab22cd2d5eff853cdb291081d9ee800bae0b9948c6cf6163006", func := "arbiter/arbiterlaw14.ItableLooks", spec := "itableLooks", inPlace := ["internal/bytealg.IndexByteString", "internal/bytealg.IndexString"], unfollowed := true, recurses := true, named := ["internal/bytealg.MaxLen"], apart := false }
def ItableLooksSaid : Prop := itableLooksRow.holds Tryz.pinned (OpenSpec.ofChange itableLooksSpec)

/-- ITS FALSE NEIGHBOUR: 'it returns false'. Refute it at one input. -/
def itableLooksWrong : ChangeSpec := { name := "itableLooks", fn := fun _ => fun
  | [d1, d2, d3] => { results := [.lit (.bool false)], args := [d1, d2, d3] }
  | _ => none }
def ItableLooksWrongFalsely : Prop := itableLooksRow.holds Tryz.pinned (OpenSpec.ofChange itableLooksWrong)

/-- 'arbiterlaw12.ChoosePlays': WHATEVER THE INPUT: true; the input reads as it did. -/
def choosePlaysSpec : ChangeSpec := { name := "choosePlays", fn := fun _ => fun
  | [d1, d2, d3, d4, d5] => { results := [.lit (.bool true)], args := [d1, d2, d3, d4, d5] }
  | _ => none }
def choosePlaysRow : OpenClaim := { program := "ytmafkabjjibcbaagreat", sum := "8a7cd844a38bbab22cd2d5eff853cdb291081d9ee800bae0b9948c6cf6163006", func := "arbiter/arbiterlaw12.ChoosePlays", spec := "choosePlays", inPlace := ["internal/bytealg.IndexByteString", "internal/bytealg.IndexString"], unfollowed := true, recurses := true, named := ["internal/bytealg.MaxLen"], apart := false }
def ChoosePlaysSaid : Prop := choosePlaysRow.holds Tryz.pinned (OpenSpec.ofChange choosePlaysSpec)

/-- ITS FALSE NEIGHBOUR: 'it returns false'. Refute it at one input. -/
def choosePlaysWrong : ChangeSpec := { name := "choosePlays", fn := fun _ => fun
  | [d1, d2, d3, d4, d5] => { results := [.lit (.bool false)], args := [d1, d2, d3, d4, d5] }
  | _ => none }
def ChoosePlaysWrongFalsely : Prop := choosePlaysRow.holds Tryz.pinned (OpenSpec.ofChange choosePlaysWrong)

/-- 'arbiterlaw12.ChooseCalls': WHATEVER THE INPUT: true; the input reads as it did. -/
def chooseCallsSpec : ChangeSpec := { name := "chooseCalls", fn := fun _ => fun
  | [d1, d2, d3, d4, d5] => { results := [.lit (.bool true)], args := [d1, d2, d3, d4, d5] }
  | _ => none }
def chooseCallsRow : OpenClaim := { program := "ytmafkabjjibcbaagreat", sum := "8a7cd844a38bbab22cd2d5eff853cdb291081d9ee800bae0b9948c6cf6163006", func := "arbiter/arbiterlaw12.ChooseCalls", spec := "chooseCalls", inPlace := ["internal/bytealg.IndexByteString", "internal/bytealg.IndexString"], unfollowed := true, recurses := true, named := ["internal/bytealg.MaxLen"], apart := false }
def ChooseCallsSaid : Prop := chooseCallsRow.holds Tryz.pinned (OpenSpec.ofChange chooseCallsSpec)

/-- ITS FALSE NEIGHBOUR: 'it returns false'. Refute it at one input. -/
def chooseCallsWrong : ChangeSpec := { name := "chooseCalls", fn := fun _ => fun
  | [d1, d2, d3, d4, d5] => { results := [.lit (.bool false)], args := [d1, d2, d3, d4, d5] }
  | _ => none }
def ChooseCallsWrongFalsely : Prop := chooseCallsRow.holds Tryz.pinned (OpenSpec.ofChange chooseCallsWrong)

/-- 'arbiterlaw06.HierKeeps': WHATEVER THE INPUT: true; the input reads as it did. -/
def hierKeepsSpec : ChangeSpec := { name := "hierKeeps", fn := fun _ => fun
  | [d1, d2] => { results := [.lit (.bool true)], args := [d1, d2] }
  | _ => none }
def hierKeepsRow : OpenClaim := { program := "ytmafkabjjibcbaagreat", sum := "8a7cd844a38bbab22cd2d5eff853cdb291081d9ee800bae0b9948c6cf6163006", func := "arbiter/arbiterlaw06.HierKeeps", spec := "hierKeeps", inPlace := ["internal/bytealg.IndexByteString", "internal/bytealg.IndexString"], unfollowed := true, recurses := true, named := ["internal/bytealg.MaxLen"], apart := false }
def HierKeepsSaid : Prop := hierKeepsRow.holds Tryz.pinned (OpenSpec.ofChange hierKeepsSpec)

/-- ITS FALSE NEIGHBOUR: 'it returns false'. Refute it at one input. -/
def hierKeepsWrong : ChangeSpec := { name := "hierKeeps", fn := fun _ => fun
  | [d1, d2] => { results := [.lit (.bool false)], args := [d1, d2] }
  | _ => none }
def HierKeepsWrongFalsely : Prop := hierKeepsRow.holds Tryz.pinned (OpenSpec.ofChange hierKeepsWrong)

/- THE SECOND FORM. 'bulk': how many values and letters a reading holds, each counted each time it is reached (what is shared counts as often as it is met; a slice's spare places count too). A statement '..UptoSaid' is the law's where the arguments, and the package variables that the reading takes, are together of bulk at most 1048576: NARROWER than '..Said'. Prove '..Said' where nothing that the law and all that it calls make is longer than what came in: it says more and counts as full. Else prove '..UptoSaid'. A law counts once. -/
mutual
def uptoBulk {H : Type} : DataW H → Nat
  | .lit (.string bytes) => bytes.length + 1
  | .lit _ => 1
  | .nil => 1
  | .ptr d => uptoBulk d + 1
  | .slice elems spare => uptoBulkAll elems + uptoBulkAll spare + 1
  | .agg parts => uptoBulkAll parts + 1
  | .iface _ d => uptoBulk d + 1
  | .map entries => uptoBulkEntries entries + 1
  | .held _ => 1
def uptoBulkAll {H : Type} : List (DataW H) → Nat
  | [] => 0
  | d :: r => uptoBulk d + uptoBulkAll r
def uptoBulkEntries {H : Type} : List (Lit × DataW H) → Nat
  | [] => 0
  | x :: r => uptoBulkEntry x + uptoBulkEntries r
def uptoBulkEntry {H : Type} : Lit × DataW H → Nat
  | (.string bytes, d) => bytes.length + uptoBulk d + 1
  | (_, d) => uptoBulk d + 1
 end
def uptoSmall : (H : Type) → List (DataW H) → Bool := fun _ ds => decide (uptoBulkAll ds ≤ 1048576)
def OpenSpec.upto (s : _root_.Go.ChangeSpec) : _root_.Go.OpenSpec := { _root_.Go.OpenSpec.ofChange s with cond := some uptoSmall }

/-- 'arbiterlaw14.ItableKeeps', WHERE WHAT IT READS IS OF BULK AT MOST 1048576: true; the input reads as it did. -/
def itableKeepsUptoRow : OpenClaim := { program := "ytmafkabjjibcbaagreat", sum := "8a7cd844a38bbab22cd2d5eff853cdb291081d9ee800bae0b9948c6cf6163006", func := "arbiter/arbiterlaw14.ItableKeeps", spec := "itableKeeps", inPlace := ["internal/bytealg.IndexByteString", "internal/bytealg.IndexString"], unfollowed := true, recurses := true, named := ["internal/bytealg.MaxLen"], apart := false, narrowed := true }
def ItableKeepsUptoSaid : Prop := itableKeepsUptoRow.holds Tryz.pinned (OpenSpec.upto itableKeepsSpec)

/-- 'arbiterlaw14.ItableBuilds', WHERE WHAT IT READS IS OF BULK AT MOST 1048576: true; the input reads as it did. -/
def itableBuildsUptoRow : OpenClaim := { program := "ytmafkabjjibcbaagreat", sum := "8a7cd844a38bbab22cd2d5eff853cdb291081d9ee800bae0b9948c6cf6163006", func := "arbiter/arbiterlaw14.ItableBuilds", spec := "itableBuilds", inPlace := ["internal/bytealg.IndexByteString", "internal/bytealg.IndexString"], unfollowed := true, recurses := true, named := ["internal/bytealg.MaxLen"], apart := false, narrowed := true }
def ItableBuildsUptoSaid : Prop := itableBuildsUptoRow.holds Tryz.pinned (OpenSpec.upto itableBuildsSpec)

/-- 'arbiterlaw14.ItableLooks', WHERE WHAT IT READS IS OF BULK AT MOST 1048576: true; the input reads as it did. -/
def itableLooksUptoRow : OpenClaim := { program := "ytmafkabjjibcbaagreat", sum := "8a7cd844a38bbab22cd2d5eff853cdb291081d9ee800bae0b9948c6cf6163006", func := "arbiter/arbiterlaw14.ItableLooks", spec := "itableLooks", inPlace := ["internal/bytealg.IndexByteString", "internal/bytealg.IndexString"], unfollowed := true, recurses := true, named := ["internal/bytealg.MaxLen"], apart := false, narrowed := true }
def ItableLooksUptoSaid : Prop := itableLooksUptoRow.holds Tryz.pinned (OpenSpec.upto itableLooksSpec)

/-- 'arbiterlaw12.ChoosePlays', WHERE WHAT IT READS IS OF BULK AT MOST 1048576: true; the input reads as it did. -/
def choosePlaysUptoRow : OpenClaim := { program := "ytmafkabjjibcbaagreat", sum := "8a7cd844a38bbab22cd2d5eff853cdb291081d9ee800bae0b9948c6cf6163006", func := "arbiter/arbiterlaw12.ChoosePlays", spec := "choosePlays", inPlace := ["internal/bytealg.IndexByteString", "internal/bytealg.IndexString"], unfollowed := true, recurses := true, named := ["internal/bytealg.MaxLen"], apart := false, narrowed := true }
def ChoosePlaysUptoSaid : Prop := choosePlaysUptoRow.holds Tryz.pinned (OpenSpec.upto choosePlaysSpec)

/-- 'arbiterlaw12.ChooseCalls', WHERE WHAT IT READS IS OF BULK AT MOST 1048576: true; the input reads as it did. -/
def chooseCallsUptoRow : OpenClaim := { program := "ytmafkabjjibcbaagreat", sum := "8a7cd844a38bbab22cd2d5eff853cdb291081d9ee800bae0b9948c6cf6163006", func := "arbiter/arbiterlaw12.ChooseCalls", spec := "chooseCalls", inPlace := ["internal/bytealg.IndexByteString", "internal/bytealg.IndexString"], unfollowed := true, recurses := true, named := ["internal/bytealg.MaxLen"], apart := false, narrowed := true }
def ChooseCallsUptoSaid : Prop := chooseCallsUptoRow.holds Tryz.pinned (OpenSpec.upto chooseCallsSpec)

/-- 'arbiterlaw06.HierKeeps', WHERE WHAT IT READS IS OF BULK AT MOST 1048576: true; the input reads as it did. -/
def hierKeepsUptoRow : OpenClaim := { program := "ytmafkabjjibcbaagreat", sum := "8a7cd844a38bbab22cd2d5eff853cdb291081d9ee800bae0b9948c6cf6163006", func := "arbiter/arbiterlaw06.HierKeeps", spec := "hierKeeps", inPlace := ["internal/bytealg.IndexByteString", "internal/bytealg.IndexString"], unfollowed := true, recurses := true, named := ["internal/bytealg.MaxLen"], apart := false, narrowed := true }
def HierKeepsUptoSaid : Prop := hierKeepsUptoRow.holds Tryz.pinned (OpenSpec.upto hierKeepsSpec)

end Rows
end Go.Proofs.YtmafkabjjibcbaaGreat
