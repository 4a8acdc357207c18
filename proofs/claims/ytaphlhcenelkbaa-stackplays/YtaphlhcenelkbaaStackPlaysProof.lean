/- StackPlays: a stack asked by a script answers as the document says, with its frames, words and operands at each step, for every script. -/
import Derived.Test.YtaphlhcenelkbaaRows
import Derived.Test.YtaphlhcenelkbaaSkZ
import Derived.Lib.SmallJoins
import Derived.WalkKit
import Derived.ProofKit
import Derived.OpenShut
import Derived.Carry
namespace Go.Proofs.Ytaphlhcenelkbaa
open Go.ChangeShapes Go.WideShapes Go.ChangeAt Go.RowKit Go.Joins

theorem stackPlays_own : ownKnob Try.prog.godebug = none := by kernel_rfl
theorem stackPlays_laidOut : laidOutB Try.prog = true := by kernel_rfl
/-- a list among the arguments -/
theorem stackPlays_lstP {H : Type} {enc : TypeId × Value → H} {W : World} {v0 : Value} {d : DataW H} {p : List MemPlace} (hv : v0.cells.toList = [v0]) (h : DataW.Trod enc Try.prog W 0 (fun _ => true) true 22 v0 d p) : ∃ l : List OpS, IsOpsS W v0 l := by
  obtain ⟨fuel, hf⟩ := h
  obtain ⟨v, l, e, r⟩ := read_opss hf
  rw [hv] at e
  simp at e
  subst e
  exact ⟨l, r⟩

set_option linter.unusedVariables false in
set_option maxRecDepth 100000 in
theorem stackPlays_lifted (os : Os) (started : os.Started) (H : Type) (enc : TypeId × Value → H) :
    ReturnsInHanded {} Try.checked os 3 .any (Rows.stackPlaysSpec.pre6 enc Try.prog Try.f3 Rows.stackPlaysRow.domain false) (Rows.stackPlaysSpec.post enc Try.prog Try.f3 false true false false) := by
  refine returnsInHanded_of_change (C := Try.checked) stackPlays_own started (by kernel_rfl) Try.func3
    (ChangeSpec.witness6 (enc := enc) (C := Try.checked) false ⟨#[], #[.slice none 0 0], []⟩ 8 (by kernel_rfl) (by kernel_rfl) (by kernel_rfl) (by kernel_rfl)) ?_
  intro W base args ds gs before hval0 hW hcnd _
  have hval : ∀ (j : Nat) t v, Try.f3.params[j]? = some t → args[j]? = some v → Value.okWide Try.prog W .any base t v := hval0
  have hW' := hW
  obtain ⟨p, q, hA0, hV, rfl, hfz, hnd⟩ := hW
  have hA : DataW.TrodAll enc Try.prog W 0 (fun _ => true) true Try.f3.params.toList args.toList ds p := hA0
  rw [Try.params3] at hA hval
  obtain ⟨v0, d0, rfl, rfl, h0⟩ := trodAll_one hA
  obtain ⟨rfl, rfl⟩ := trodVars_none hV
  have k0 := h0
  have lt0 : ∀ x ∈ p, x.block < W.heap.size := by obtain ⟨m, hm⟩ := k0; exact DataW.trod_lt m _ _ _ hm
  have hs0 := hval 0 22 v0 rfl rfl
  obtain ⟨l0, hl0⟩ := stackPlays_lstP (by obtain ⟨ao, n1, n2, rfl⟩ := okWide_slice Try.underlying22 hs0; rfl) h0
  clear hA0 hval0
  simp only [List.append_nil] at hW'
  refine (StackPlays_any v0 l0 W hl0).mono fun e W' ⟨he, bel⟩ => ?_
  subst he
  exact ⟨_, rfl, _, _, _, [], _, [], hW', trodAll_mk1 (shut_bool Try.underlying4 _), trodAll_mk1 (Below.trod stackPlays_laidOut (by kernel_rfl) (of_decide_eq_true (by kernel_rfl)) k0 bel lt0), rfl, bel.frame _, fun h => by cases h⟩

theorem stackPlays_and {a b : Bool} (h1 : a = true) (h2 : b = true) : (a && b) = true := by rw [h1, h2]; rfl
theorem stackPlays_k2 : mapsRowed Try.prog = true := by kernel_rfl
theorem stackPlays_k10 : (Rows.stackPlaysRow.inPlace == Try.prog.inPlace 3) = true := by kernel_rfl
theorem stackPlays_k11 : (Rows.stackPlaysRow.unfollowed == Try.prog.unfollowed 3) = true := by kernel_rfl
theorem stackPlays_k12 : (Rows.stackPlaysRow.recurses == Try.prog.recurses 3) = true := by kernel_rfl
theorem stackPlays_k13 : (Rows.stackPlaysRow.named == Try.prog.varsNamed 3) = true := by kernel_rfl
/-- the row's facts of the program, one by one: each is cheap, all at once are not -/
theorem stackPlays_closed : joinedFacts Try.prog 3 Try.f3 Rows.stackPlaysSpec Rows.stackPlaysRow = true := by
  unfold joinedFacts
  refine stackPlays_and (stackPlays_and (stackPlays_and (stackPlays_and (stackPlays_and (stackPlays_and (stackPlays_and (stackPlays_and (stackPlays_and (stackPlays_and (stackPlays_and (stackPlays_and (stackPlays_and (stackPlays_and (stackPlays_and (stackPlays_and (stackPlays_and (stackPlays_and (stackPlays_and (stackPlays_and (stackPlays_and (stackPlays_and (stackPlays_and (stackPlays_and (stackPlays_and (stackPlays_and (stackPlays_and (stackPlays_and (stackPlays_and (stackPlays_and (stackPlays_and ?_ stackPlays_laidOut) stackPlays_k2) ?_) ?_) ?_) ?_) ?_) ?_) stackPlays_k10) stackPlays_k11) stackPlays_k12) stackPlays_k13) ?_) ?_) ?_) ?_) ?_) ?_) ?_) ?_) ?_) ?_) ?_) ?_) ?_) ?_) ?_) ?_) ?_) ?_) ?_
  all_goals kernel_rfl
theorem stackPlays_over : Rows.stackPlaysRow.holds Try.pinned (OpenSpec.ofChange Rows.stackPlaysSpec) :=
  OpenClaim.holds_of_wide 3 Try.f3 rfl rfl rfl rfl rfl rfl rfl ⟨rfl, rfl, rfl, rfl, rfl⟩ rfl rfl rfl rfl rfl (by kernel_rfl) Try.func3 stackPlays_closed
    (of_decide_eq_true (by kernel_rfl)) (by unfold Func.isWrapper; first | (rw [if_pos (by decide +kernel)]; kernel_rfl) | (rw [if_neg (by decide +kernel)]; exact ⟨rfl, rfl⟩))
    (fun os started H enc _ => stackPlays_lifted os started H enc)

/-- THE STATEMENT -/
theorem stackPlays_holds : Rows.StackPlaysSaid :=
  stackPlays_over
#print axioms stackPlays_holds

end Go.Proofs.Ytaphlhcenelkbaa
