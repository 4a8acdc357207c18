/- HierClosure: for every list of classes, whatever comes of each when it arrives: in the closure of each class of the world that is built each interface stands behind all those that it extends; a closure begins with the superclass's, and has each of the class's own interfaces, and their closures, and nothing else (P6.4): the law returns true, and the list reads as it did. No condition. -/
import Derived.Test.YtfkdemkdkepmdabGreatRows
import Derived.Test.YtfkdemkdkepmdabGreatLawCl
import Derived.WalkKit
import Derived.ProofKit
import Derived.OpenShut
import Derived.Carry
namespace Go.Proofs.YtfkdemkdkepmdabGreat
open Go.ChangeShapes Go.WideShapes Go.ChangeAt Go.RowKit

theorem hierClosure_own : ownKnob Tryz.prog.godebug = none := by kernel_rfl
theorem hierClosure_laidOut : laidOutB Tryz.prog = true := by kernel_rfl

/-- a list of classes among the arguments -/
theorem arg_clss {H : Type} {enc : TypeId × Value → H} {W : World} {v0 : Value} {d : DataW H} {p : List MemPlace} (hv : v0.cells.toList = [v0]) (h : DataW.Trod enc Tryz.prog W 0 (fun _ => true) true 22 v0 d p) : ∃ l : List Cls, IsClss W v0 l := by
  obtain ⟨fuel, hf⟩ := h
  obtain ⟨v, l, e, r⟩ := read_clss hf
  rw [hv] at e
  simp at e
  subst e
  exact ⟨l, r⟩

set_option linter.unusedVariables false in
set_option maxRecDepth 100000 in
theorem hierClosure_lifted (os : Os) (started : os.Started) (H : Type) (enc : TypeId × Value → H) :
    ReturnsInHanded {} Tryz.checked os 3 .any (Rows.hierClosureSpec.pre6 enc Tryz.prog Tryz.f3 Rows.hierClosureRow.domain false) (Rows.hierClosureSpec.post enc Tryz.prog Tryz.f3 false true false false) := by
  refine returnsInHanded_of_change (C := Tryz.checked) hierClosure_own started (by kernel_rfl) Tryz.func3
    (ChangeSpec.witness6 (enc := enc) (C := Tryz.checked) false ⟨#[], #[.slice none 0 0], []⟩ 8 (by kernel_rfl) (by kernel_rfl) (by kernel_rfl) (by kernel_rfl)) ?_
  intro W base args ds gs before hval0 hW hcnd _
  have hval : ∀ (j : Nat) t v, Tryz.f3.params[j]? = some t → args[j]? = some v → Value.okWide Tryz.prog W .any base t v := hval0
  have hW' := hW
  obtain ⟨p, q, hA0, hV, rfl, hfz, hnd⟩ := hW
  have hA : DataW.TrodAll enc Tryz.prog W 0 (fun _ => true) true Tryz.f3.params.toList args.toList ds p := hA0
  rw [Tryz.params3] at hA hval
  obtain ⟨v0, d0, rfl, rfl, h0⟩ := trodAll_one hA
  obtain ⟨rfl, rfl⟩ := trodVars_none hV
  have k0 := h0
  have lt0 : ∀ x ∈ p, x.block < W.heap.size := by obtain ⟨m, hm⟩ := k0; exact DataW.trod_lt m _ _ _ hm
  have hs0 := hval 0 22 v0 rfl rfl
  obtain ⟨l, hl⟩ := arg_clss (by obtain ⟨ao, n1, n2, rfl⟩ := okWide_slice Tryz.underlying22 hs0; rfl) h0
  clear hA0 hval0
  simp only [List.append_nil] at hW'
  refine (HierClosure_any v0 l W hl).mono fun e W' ⟨he, bel⟩ => ?_
  subst he
  exact ⟨_, rfl, _, _, _, [], _, [], hW', trodAll_mk1 (shut_bool Tryz.underlying4 _), trodAll_mk1 (Below.trod hierClosure_laidOut (by kernel_rfl) (of_decide_eq_true (by kernel_rfl)) k0 bel lt0), rfl, bel.frame _, fun h => by cases h⟩

theorem hierClosure_over : Rows.hierClosureRow.holds Tryz.pinned (OpenSpec.ofChange Rows.hierClosureSpec) :=
  OpenClaim.holds_of_wide 3 Tryz.f3 rfl rfl rfl rfl rfl rfl rfl ⟨rfl, rfl, rfl, rfl, rfl⟩ rfl rfl rfl rfl rfl (by kernel_rfl) Tryz.func3 (by kernel_rfl)
    (of_decide_eq_true (by kernel_rfl)) (by unfold Func.isWrapper; first | (rw [if_pos (by decide +kernel)]; kernel_rfl) | (rw [if_neg (by decide +kernel)]; exact ⟨rfl, rfl⟩))
    (fun os started H enc _ => hierClosure_lifted os started H enc)

/-- THE STATEMENT -/
theorem hierClosure_holds : Rows.HierClosureSaid :=
  hierClosure_over
#print axioms hierClosure_holds

end Go.Proofs.YtfkdemkdkepmdabGreat
