/- TallyNil: what a nil tally answers (P16.2 to P16.6, R6): the law returns true; it starts no goroutine on its way. No condition; it takes no argument. -/
import Derived.Test.YtackhimnjnnpfaaRows
import Derived.Test.YtackhimnjnnpfaaTaD
import Derived.Lib.SmallJoins
import Derived.Conc.LeavingOf
import Derived.Leaving
import Derived.WalkKit
import Derived.ProofKit
import Derived.OpenShut
import Derived.Carry
namespace Go.Proofs.Ytackhimnjnnpfaa
open Go.ChangeShapes Go.WideShapes Go.ChangeAt Go.RowKit Go.Joins

theorem tallyNil_own : ownKnob Try.prog.godebug = none := by kernel_rfl
theorem tallyNil_laidOut : laidOutB Try.prog = true := by kernel_rfl

set_option linter.unusedVariables false in
set_option maxRecDepth 100000 in
theorem tallyNil_lifted (os : Os) (started : os.Started) (H : Type) (enc : TypeId × Value → H) :
    ReturnsInHanded {} Try.checked os 6 .any (Rows.tallyNilSpec.pre6 enc Try.prog Try.f6 Rows.tallyNilRow.domain false) (Rows.tallyNilSpec.post enc Try.prog Try.f6 false true false false) := by
  refine returnsInHanded_of_change (C := Try.checked) tallyNil_own started (by kernel_rfl) Try.func6
    (ChangeSpec.witness6 (enc := enc) (C := Try.checked) false ⟨#[], #[], []⟩ 8 (by kernel_rfl) (by kernel_rfl) (by kernel_rfl) (by kernel_rfl)) ?_
  intro W base args ds gs before hval0 hW hcnd _
  have hval : ∀ (j : Nat) t v, Try.f6.params[j]? = some t → args[j]? = some v → Value.okWide Try.prog W .any base t v := hval0
  have hW' := hW
  obtain ⟨p, q, hA0, hV, rfl, hfz, hnd⟩ := hW
  have hA : DataW.TrodAll enc Try.prog W 0 (fun _ => true) true Try.f6.params.toList args.toList ds p := hA0
  rw [Try.params6] at hA
  obtain ⟨h1, rfl, rfl⟩ := trodAll_nil hA
  obtain rfl : args = #[] := by cases args; simp_all
  obtain ⟨rfl, rfl⟩ := trodVars_none hV
  clear hA0 hval0
  simp only [List.append_nil] at hW'
  refine (TallyNil_any W).mono fun e W' ⟨he, bel⟩ => ?_
  subst he
  exact ⟨_, rfl, _, _, _, [], [], [], hW', trodAll_mk1 (shut_bool Try.underlying4 _), trodAll_mk0, rfl, bel.frame _, fun h => by cases h⟩

/-- a call in whose run no other goroutine is: all the more is everybody leaving -/
theorem tallyNil_leaves {a : Assume} {C : Checked} {os : Os} {f : FuncId} {r : Reach} {Pre : World → Array Value → Prop} {Post : World → Array Value → Value → World → Prop} (h : ReturnsInHanded a C os f r Pre Post) : ReturnsInLeavingWide a C os f r Pre Post :=
  fun enter => ReturnsInOpen.mono (fun _ _ _ x => ⟨x.2.1, onlyLeaving_of_quiet x.1, x.2.2⟩) (fun _ x => x) (h enter)
theorem tallyNil_and {a b : Bool} (h1 : a = true) (h2 : b = true) : (a && b) = true := by rw [h1, h2]; rfl
theorem tallyNil_k2 : mapsRowed Try.prog = true := by kernel_rfl
theorem tallyNil_k10 : (Rows.tallyNilRow.inPlace == Try.prog.inPlace 6) = true := by kernel_rfl
theorem tallyNil_k11 : (Rows.tallyNilRow.unfollowed == Try.prog.unfollowed 6) = true := by kernel_rfl
theorem tallyNil_k12 : (Rows.tallyNilRow.recurses == Try.prog.recurses 6) = true := by kernel_rfl
theorem tallyNil_k13 : (Rows.tallyNilRow.named == Try.prog.varsNamed 6) = true := by kernel_rfl
/-- the row's facts of the program, one by one: each is cheap, all at once are not -/
theorem tallyNil_closed : joinedFacts Try.prog 6 Try.f6 Rows.tallyNilSpec Rows.tallyNilRow = true := by
  unfold joinedFacts
  refine tallyNil_and (tallyNil_and (tallyNil_and (tallyNil_and (tallyNil_and (tallyNil_and (tallyNil_and (tallyNil_and (tallyNil_and (tallyNil_and (tallyNil_and (tallyNil_and (tallyNil_and (tallyNil_and (tallyNil_and (tallyNil_and (tallyNil_and (tallyNil_and (tallyNil_and (tallyNil_and (tallyNil_and (tallyNil_and (tallyNil_and (tallyNil_and (tallyNil_and (tallyNil_and (tallyNil_and (tallyNil_and (tallyNil_and (tallyNil_and (tallyNil_and ?_ tallyNil_laidOut) tallyNil_k2) ?_) ?_) ?_) ?_) ?_) ?_) tallyNil_k10) tallyNil_k11) tallyNil_k12) tallyNil_k13) ?_) ?_) ?_) ?_) ?_) ?_) ?_) ?_) ?_) ?_) ?_) ?_) ?_) ?_) ?_) ?_) ?_) ?_) ?_
  all_goals kernel_rfl
theorem tallyNil_over : Rows.tallyNilRow.holds Try.pinned (OpenSpec.ofChange Rows.tallyNilSpec) :=
  OpenClaim.holds_of_wide_leaving 6 Try.f6 rfl rfl rfl rfl rfl rfl rfl ⟨rfl, rfl, rfl, rfl, rfl⟩ rfl rfl rfl rfl rfl (by kernel_rfl) Try.func6 tallyNil_closed
    (of_decide_eq_true (by kernel_rfl)) (by unfold Func.isWrapper; first | (rw [if_pos (by decide +kernel)]; kernel_rfl) | (rw [if_neg (by decide +kernel)]; exact ⟨rfl, rfl⟩))
    (fun os started H enc _ => tallyNil_leaves (tallyNil_lifted os started H enc))

/-- THE STATEMENT -/
theorem tallyNil_holds : Rows.TallyNilSaid :=
  tallyNil_over
#print axioms tallyNil_holds

end Go.Proofs.Ytackhimnjnnpfaa
