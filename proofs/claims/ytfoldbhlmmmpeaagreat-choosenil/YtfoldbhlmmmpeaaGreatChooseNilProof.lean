/- ChooseNil: what package choose answers of a nil world is ErrArg (P12.1 to P12.4, R6), and in a new world Virtual of Object's method 1 for the class 0 is that method: the law returns true. No condition; it takes no argument. -/
import Derived.Test.YtfoldbhlmmmpeaaGreatRows
import Derived.Test.YtfoldbhlmmmpeaaGreatChN
import Derived.Lib.SmallJoins
import Derived.WalkKit
import Derived.ProofKit
import Derived.OpenShut
import Derived.Carry
namespace Go.Proofs.YtfoldbhlmmmpeaaGreat
open Go.ChangeShapes Go.WideShapes Go.ChangeAt Go.RowKit Go.Joins

theorem chooseNil_own : ownKnob Tryz.prog.godebug = none := by kernel_rfl
theorem chooseNil_laidOut : laidOutB Tryz.prog = true := by kernel_rfl

set_option linter.unusedVariables false in
set_option maxRecDepth 100000 in
theorem chooseNil_lifted (os : Os) (started : os.Started) (H : Type) (enc : TypeId × Value → H) :
    ReturnsInHanded {} Tryz.checked os 13 .any (Rows.chooseNilSpec.pre6 enc Tryz.prog Tryz.f13 Rows.chooseNilRow.domain false) (Rows.chooseNilSpec.post enc Tryz.prog Tryz.f13 false true false false) := by
  refine returnsInHanded_of_change (C := Tryz.checked) chooseNil_own started (by kernel_rfl) Tryz.func13
    (ChangeSpec.witness6 (enc := enc) (C := Tryz.checked) false ⟨#[], #[], []⟩ 8 (by kernel_rfl) (by kernel_rfl) (by kernel_rfl) (by kernel_rfl)) ?_
  intro W base args ds gs before hval0 hW hcnd _
  have hval : ∀ (j : Nat) t v, Tryz.f13.params[j]? = some t → args[j]? = some v → Value.okWide Tryz.prog W .any base t v := hval0
  have hW' := hW
  obtain ⟨p, q, hA0, hV, rfl, hfz, hnd⟩ := hW
  have hA : DataW.TrodAll enc Tryz.prog W 0 (fun _ => true) true Tryz.f13.params.toList args.toList ds p := hA0
  rw [Tryz.params13] at hA
  obtain ⟨h1, rfl, rfl⟩ := trodAll_nil hA
  obtain rfl : args = #[] := by cases args; simp_all
  obtain ⟨rfl, rfl⟩ := trodVars_none hV
  clear hA0 hval0
  simp only [List.append_nil] at hW'
  refine (ChooseNil_any W).mono fun e W' ⟨he, bel⟩ => ?_
  subst he
  exact ⟨_, rfl, _, _, _, [], [], [], hW', trodAll_mk1 (shut_bool Tryz.underlying4 _), trodAll_mk0, rfl, bel.frame _, fun h => by cases h⟩

theorem chooseNil_and {a b : Bool} (h1 : a = true) (h2 : b = true) : (a && b) = true := by rw [h1, h2]; rfl
theorem chooseNil_k2 : mapsRowed Tryz.prog = true := by kernel_rfl
theorem chooseNil_k10 : (Rows.chooseNilRow.inPlace == Tryz.prog.inPlace 13) = true := by kernel_rfl
theorem chooseNil_k11 : (Rows.chooseNilRow.unfollowed == Tryz.prog.unfollowed 13) = true := by kernel_rfl
theorem chooseNil_k12 : (Rows.chooseNilRow.recurses == Tryz.prog.recurses 13) = true := by kernel_rfl
theorem chooseNil_k13 : (Rows.chooseNilRow.named == Tryz.prog.varsNamed 13) = true := by kernel_rfl
/-- the row's facts of the program, one by one: each is cheap, all at once are not -/
theorem chooseNil_closed : joinedFacts Tryz.prog 13 Tryz.f13 Rows.chooseNilSpec Rows.chooseNilRow = true := by
  unfold joinedFacts
  refine chooseNil_and (chooseNil_and (chooseNil_and (chooseNil_and (chooseNil_and (chooseNil_and (chooseNil_and (chooseNil_and (chooseNil_and (chooseNil_and (chooseNil_and (chooseNil_and (chooseNil_and (chooseNil_and (chooseNil_and (chooseNil_and (chooseNil_and (chooseNil_and (chooseNil_and (chooseNil_and (chooseNil_and (chooseNil_and (chooseNil_and (chooseNil_and (chooseNil_and (chooseNil_and (chooseNil_and (chooseNil_and (chooseNil_and (chooseNil_and (chooseNil_and ?_ chooseNil_laidOut) chooseNil_k2) ?_) ?_) ?_) ?_) ?_) ?_) chooseNil_k10) chooseNil_k11) chooseNil_k12) chooseNil_k13) ?_) ?_) ?_) ?_) ?_) ?_) ?_) ?_) ?_) ?_) ?_) ?_) ?_) ?_) ?_) ?_) ?_) ?_) ?_
  all_goals kernel_rfl
theorem chooseNil_over : Rows.chooseNilRow.holds Tryz.pinned (OpenSpec.ofChange Rows.chooseNilSpec) :=
  OpenClaim.holds_of_wide 13 Tryz.f13 rfl rfl rfl rfl rfl rfl rfl ⟨rfl, rfl, rfl, rfl, rfl⟩ rfl rfl rfl rfl rfl (by kernel_rfl) Tryz.func13 chooseNil_closed
    (of_decide_eq_true (by kernel_rfl)) (by unfold Func.isWrapper; first | (rw [if_pos (by decide +kernel)]; kernel_rfl) | (rw [if_neg (by decide +kernel)]; exact ⟨rfl, rfl⟩))
    (fun os started H enc _ => chooseNil_lifted os started H enc)

/-- THE STATEMENT -/
theorem chooseNil_holds : Rows.ChooseNilSaid :=
  chooseNil_over
#print axioms chooseNil_holds

end Go.Proofs.YtfoldbhlmmmpeaaGreat
