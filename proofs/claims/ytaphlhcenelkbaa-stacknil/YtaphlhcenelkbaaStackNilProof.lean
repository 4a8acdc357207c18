/- StackNil: every call on a nil stack answers as the document says, at every run. -/
import Derived.Test.YtaphlhcenelkbaaRows
import Derived.Test.YtaphlhcenelkbaaSkL
import Derived.Lib.SmallJoins
import Derived.WalkKit
import Derived.ProofKit
import Derived.OpenShut
import Derived.Carry
namespace Go.Proofs.Ytaphlhcenelkbaa
open Go.ChangeShapes Go.WideShapes Go.ChangeAt Go.RowKit Go.Joins

theorem stackNil_own : ownKnob Try.prog.godebug = none := by kernel_rfl
theorem stackNil_laidOut : laidOutB Try.prog = true := by kernel_rfl

set_option linter.unusedVariables false in
set_option maxRecDepth 100000 in
theorem stackNil_lifted (os : Os) (started : os.Started) (H : Type) (enc : TypeId × Value → H) :
    ReturnsInHanded {} Try.checked os 6 .any (Rows.stackNilSpec.pre6 enc Try.prog Try.f6 Rows.stackNilRow.domain false) (Rows.stackNilSpec.post enc Try.prog Try.f6 false true false false) := by
  refine returnsInHanded_of_change (C := Try.checked) stackNil_own started (by kernel_rfl) Try.func6
    (ChangeSpec.witness6 (enc := enc) (C := Try.checked) false ⟨#[], #[], []⟩ 8 (by kernel_rfl) (by kernel_rfl) (by kernel_rfl) (by kernel_rfl)) ?_
  intro W base args ds gs before hval0 hW hcnd _
  have hval : ∀ (j : Nat) t v, Try.f6.params[j]? = some t → args[j]? = some v → Value.okWide Try.prog W .any base t v := hval0
  have hW' := hW
  obtain ⟨p, q, hA0, hV, rfl, hfz, hnd⟩ := hW
  have hA : DataW.TrodAll enc Try.prog W 0 (fun _ => true) true Try.f6.params.toList args.toList ds p := hA0
  rw [Try.params6] at hA
  obtain ⟨h1, rfl, rfl⟩ := trodAll_nil hA
  obtain rfl : args = #[] := by cases args; simp_all
  obtain ⟨rfl, rfl⟩ := trodVars_none hV
  clear hA0 hval0
  simp only [List.append_nil] at hW'
  refine (StackNil_any W).mono fun e W' ⟨he, bel⟩ => ?_
  subst he
  exact ⟨_, rfl, _, _, _, [], [], [], hW', trodAll_mk1 (shut_bool Try.underlying4 _), trodAll_mk0, rfl, bel.frame _, fun h => by cases h⟩

theorem stackNil_and {a b : Bool} (h1 : a = true) (h2 : b = true) : (a && b) = true := by rw [h1, h2]; rfl
theorem stackNil_k2 : mapsRowed Try.prog = true := by kernel_rfl
theorem stackNil_k10 : (Rows.stackNilRow.inPlace == Try.prog.inPlace 6) = true := by kernel_rfl
theorem stackNil_k11 : (Rows.stackNilRow.unfollowed == Try.prog.unfollowed 6) = true := by kernel_rfl
theorem stackNil_k12 : (Rows.stackNilRow.recurses == Try.prog.recurses 6) = true := by kernel_rfl
theorem stackNil_k13 : (Rows.stackNilRow.named == Try.prog.varsNamed 6) = true := by kernel_rfl
/-- the row's facts of the program, one by one: each is cheap, all at once are not -/
theorem stackNil_closed : joinedFacts Try.prog 6 Try.f6 Rows.stackNilSpec Rows.stackNilRow = true := by
  unfold joinedFacts
  refine stackNil_and (stackNil_and (stackNil_and (stackNil_and (stackNil_and (stackNil_and (stackNil_and (stackNil_and (stackNil_and (stackNil_and (stackNil_and (stackNil_and (stackNil_and (stackNil_and (stackNil_and (stackNil_and (stackNil_and (stackNil_and (stackNil_and (stackNil_and (stackNil_and (stackNil_and (stackNil_and (stackNil_and (stackNil_and (stackNil_and (stackNil_and (stackNil_and (stackNil_and (stackNil_and (stackNil_and ?_ stackNil_laidOut) stackNil_k2) ?_) ?_) ?_) ?_) ?_) ?_) stackNil_k10) stackNil_k11) stackNil_k12) stackNil_k13) ?_) ?_) ?_) ?_) ?_) ?_) ?_) ?_) ?_) ?_) ?_) ?_) ?_) ?_) ?_) ?_) ?_) ?_) ?_
  all_goals kernel_rfl
theorem stackNil_over : Rows.stackNilRow.holds Try.pinned (OpenSpec.ofChange Rows.stackNilSpec) :=
  OpenClaim.holds_of_wide 6 Try.f6 rfl rfl rfl rfl rfl rfl rfl ⟨rfl, rfl, rfl, rfl, rfl⟩ rfl rfl rfl rfl rfl (by kernel_rfl) Try.func6 stackNil_closed
    (of_decide_eq_true (by kernel_rfl)) (by unfold Func.isWrapper; first | (rw [if_pos (by decide +kernel)]; kernel_rfl) | (rw [if_neg (by decide +kernel)]; exact ⟨rfl, rfl⟩))
    (fun os started H enc _ => stackNil_lifted os started H enc)

/-- THE STATEMENT -/
theorem stackNil_holds : Rows.StackNilSaid :=
  stackNil_over
#print axioms stackNil_holds

end Go.Proofs.Ytaphlhcenelkbaa
