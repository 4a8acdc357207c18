/-
  No cell of these rows narrows 'for every input' (looked for: loops, veiled, ifaces, maps, wideKeys, modest, calm, conditions, laid).
  DERIVED. THE GIVEN ROWS OF THIS SEAT. 4 by the template 'for every input the law returns true; each argument reads behind the call as it read before'; 0 by the template 'total and deterministic' (their statements: YtaphlhcenelkbaaTotals.lean).
  GIVEN WITH THE SEED: the statements are not yours to turn. If you find one false, say at which input.
  Laid BY PROGRAM, IN A SANDBOX (cutbox-rows.mjs): the forced cells as the released guide's own fill.sh prints them over the translation bb19db7b4467e27f… (all of the seat's roots in one cut). By AI agents, Wed Nov 11 2026. No macro, syntax, notation, axiom, sorry.
-/
import Derived.Test.YtaphlhcenelkbaaChecked
import GoSem.Claim
import GoSem.ClaimJoined
import GoSem.ClaimMapViews
import Derived.JoinedTies
import Derived.KernelRfl
namespace Go.Proofs.Ytaphlhcenelkbaa
/- THE CELL 'sum', in the pinned program and in every row, IS THE sha256 OF THE DUMP (.gsa) THAT YtaphlhcenelkbaaProg.lean LOADS. Nothing in Lean hashes anything: it is a label: what it is worth is what the hold of that sum in a sandbox is worth. -/
noncomputable def Try.pinned : Pinned := { name := "ytaphlhcenelkbaa", sum := "bb19db7b4467e27f6ce2ebfdab003a6016d48d5e7afaaada14ac3960f6b003c9", checked := Try.checked }
namespace Rows
def none {H : Type} : Left H := { results := [], args := [] }

/-- 'arbiterlaw21.StackPlays': WHATEVER THE INPUT: true; the input reads as it did. -/
def stackPlaysSpec : ChangeSpec := { name := "stackPlays", fn := fun _ => fun
  | [d] => { results := [.lit (.bool true)], args := [d] }
  | _ => none }
def stackPlaysRow : OpenClaim := { program := "ytaphlhcenelkbaa", sum := "bb19db7b4467e27f6ce2ebfdab003a6016d48d5e7afaaada14ac3960f6b003c9", func := "arbiter/arbiterlaw21.StackPlays", spec := "stackPlays", apart := false }
def StackPlaysSaid : Prop := stackPlaysRow.holds Try.pinned (OpenSpec.ofChange stackPlaysSpec)

/-- ITS FALSE NEIGHBOUR: 'it returns false'. Refute it at one input. -/
def stackPlaysWrong : ChangeSpec := { name := "stackPlays", fn := fun _ => fun
  | [d] => { results := [.lit (.bool false)], args := [d] }
  | _ => none }
def StackPlaysWrongFalsely : Prop := stackPlaysRow.holds Try.pinned (OpenSpec.ofChange stackPlaysWrong)

/-- 'arbiterlaw21.StackLast': WHATEVER THE INPUT: true; the input reads as it did. -/
def stackLastSpec : ChangeSpec := { name := "stackLast", fn := fun _ => fun
  | [d1, d2, d3, d4] => { results := [.lit (.bool true)], args := [d1, d2, d3, d4] }
  | _ => none }
def stackLastRow : OpenClaim := { program := "ytaphlhcenelkbaa", sum := "bb19db7b4467e27f6ce2ebfdab003a6016d48d5e7afaaada14ac3960f6b003c9", func := "arbiter/arbiterlaw21.StackLast", spec := "stackLast", apart := false }
def StackLastSaid : Prop := stackLastRow.holds Try.pinned (OpenSpec.ofChange stackLastSpec)

/-- ITS FALSE NEIGHBOUR: 'it returns false'. Refute it at one input. -/
def stackLastWrong : ChangeSpec := { name := "stackLast", fn := fun _ => fun
  | [d1, d2, d3, d4] => { results := [.lit (.bool false)], args := [d1, d2, d3, d4] }
  | _ => none }
def StackLastWrongFalsely : Prop := stackLastRow.holds Try.pinned (OpenSpec.ofChange stackLastWrong)

/-- 'arbiterlaw21.StackWords': WHATEVER THE INPUT: true; the input reads as it did. -/
def stackWordsSpec : ChangeSpec := { name := "stackWords", fn := fun _ => fun
  | [d1, d2] => { results := [.lit (.bool true)], args := [d1, d2] }
  | _ => none }
def stackWordsRow : OpenClaim := { program := "ytaphlhcenelkbaa", sum := "bb19db7b4467e27f6ce2ebfdab003a6016d48d5e7afaaada14ac3960f6b003c9", func := "arbiter/arbiterlaw21.StackWords", spec := "stackWords", apart := false }
def StackWordsSaid : Prop := stackWordsRow.holds Try.pinned (OpenSpec.ofChange stackWordsSpec)

/-- ITS FALSE NEIGHBOUR: 'it returns false'. Refute it at one input. -/
def stackWordsWrong : ChangeSpec := { name := "stackWords", fn := fun _ => fun
  | [d1, d2] => { results := [.lit (.bool false)], args := [d1, d2] }
  | _ => none }
def StackWordsWrongFalsely : Prop := stackWordsRow.holds Try.pinned (OpenSpec.ofChange stackWordsWrong)

/-- 'arbiterlaw21.StackNil': WHATEVER THE INPUT: true; the input reads as it did. -/
def stackNilSpec : ChangeSpec := { name := "stackNil", fn := fun _ => fun
  | [] => { results := [.lit (.bool true)], args := [] }
  | _ => none }
def stackNilRow : OpenClaim := { program := "ytaphlhcenelkbaa", sum := "bb19db7b4467e27f6ce2ebfdab003a6016d48d5e7afaaada14ac3960f6b003c9", func := "arbiter/arbiterlaw21.StackNil", spec := "stackNil", apart := false }
def StackNilSaid : Prop := stackNilRow.holds Try.pinned (OpenSpec.ofChange stackNilSpec)

/-- ITS FALSE NEIGHBOUR: 'it returns false'. Refute it at one input. -/
def stackNilWrong : ChangeSpec := { name := "stackNil", fn := fun _ => fun
  | [] => { results := [.lit (.bool false)], args := [] }
  | _ => none }
def StackNilWrongFalsely : Prop := stackNilRow.holds Try.pinned (OpenSpec.ofChange stackNilWrong)

/- THE SECOND FORM. 'bulk': how many values and letters a reading holds, each counted each time it is reached (what is shared counts as often as it is met; a slice's spare places count too). A statement '..UptoSaid' is the law's where the arguments, and the package variables that the reading takes, are together of bulk at most 1048576: NARROWER than '..Said'. Prove '..Said' where nothing that the law and all that it calls make is longer than what came in: it says more and counts as full. Else prove '..UptoSaid'. A law counts once. -/
mutual
def uptoBulk {H : Type} : DataW H → Nat
  | .lit (.string bytes) => bytes.length + 1
  | .lit _ => 1
  | .nil => 1
  | .ptr d => uptoBulk d + 1
  | .slice elems spare => uptoBulkAll elems + uptoBulkAll spare + 1
  | .agg parts => uptoBulkAll parts + 1
  | .iface _ d => uptoBulk d + 1
  | .map entries => uptoBulkEntries entries + 1
  | .held _ => 1
def uptoBulkAll {H : Type} : List (DataW H) → Nat
  | [] => 0
  | d :: r => uptoBulk d + uptoBulkAll r
def uptoBulkEntries {H : Type} : List (Lit × DataW H) → Nat
  | [] => 0
  | x :: r => uptoBulkEntry x + uptoBulkEntries r
def uptoBulkEntry {H : Type} : Lit × DataW H → Nat
  | (.string bytes, d) => bytes.length + uptoBulk d + 1
  | (_, d) => uptoBulk d + 1
 end
def uptoSmall : (H : Type) → List (DataW H) → Bool := fun _ ds => decide (uptoBulkAll ds ≤ 1048576)
def OpenSpec.upto (s : _root_.Go.ChangeSpec) : _root_.Go.OpenSpec := { _root_.Go.OpenSpec.ofChange s with cond := some uptoSmall }

/-- 'arbiterlaw21.StackPlays', WHERE WHAT IT READS IS OF BULK AT MOST 1048576: true; the input reads as it did. -/
def stackPlaysUptoRow : OpenClaim := { program := "ytaphlhcenelkbaa", sum := "bb19db7b4467e27f6ce2ebfdab003a6016d48d5e7afaaada14ac3960f6b003c9", func := "arbiter/arbiterlaw21.StackPlays", spec := "stackPlays", apart := false, narrowed := true }
def StackPlaysUptoSaid : Prop := stackPlaysUptoRow.holds Try.pinned (OpenSpec.upto stackPlaysSpec)

/-- 'arbiterlaw21.StackLast', WHERE WHAT IT READS IS OF BULK AT MOST 1048576: true; the input reads as it did. -/
def stackLastUptoRow : OpenClaim := { program := "ytaphlhcenelkbaa", sum := "bb19db7b4467e27f6ce2ebfdab003a6016d48d5e7afaaada14ac3960f6b003c9", func := "arbiter/arbiterlaw21.StackLast", spec := "stackLast", apart := false, narrowed := true }
def StackLastUptoSaid : Prop := stackLastUptoRow.holds Try.pinned (OpenSpec.upto stackLastSpec)

/-- 'arbiterlaw21.StackWords', WHERE WHAT IT READS IS OF BULK AT MOST 1048576: true; the input reads as it did. -/
def stackWordsUptoRow : OpenClaim := { program := "ytaphlhcenelkbaa", sum := "bb19db7b4467e27f6ce2ebfdab003a6016d48d5e7afaaada14ac3960f6b003c9", func := "arbiter/arbiterlaw21.StackWords", spec := "stackWords", apart := false, narrowed := true }
def StackWordsUptoSaid : Prop := stackWordsUptoRow.holds Try.pinned (OpenSpec.upto stackWordsSpec)

/-- 'arbiterlaw21.StackNil', WHERE WHAT IT READS IS OF BULK AT MOST 1048576: true; the input reads as it did. -/
def stackNilUptoRow : OpenClaim := { program := "ytaphlhcenelkbaa", sum := "bb19db7b4467e27f6ce2ebfdab003a6016d48d5e7afaaada14ac3960f6b003c9", func := "arbiter/arbiterlaw21.StackNil", spec := "stackNil", apart := false, narrowed := true }
def StackNilUptoSaid : Prop := stackNilUptoRow.holds Try.pinned (OpenSpec.upto stackNilSpec)

end Rows
end Go.Proofs.Ytaphlhcenelkbaa
