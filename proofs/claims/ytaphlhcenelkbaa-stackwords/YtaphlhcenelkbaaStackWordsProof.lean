/- StackWords: frames of one kind fit until the next would pass the bound, and give back their words when they are left, for every two numbers. -/
import Derived.Test.YtaphlhcenelkbaaRows
import Derived.Test.YtaphlhcenelkbaaSkM
import Derived.Lib.SmallJoins
import Derived.WalkKit
import Derived.ProofKit
import Derived.OpenShut
import Derived.Carry
namespace Go.Proofs.Ytaphlhcenelkbaa
open Go.ChangeShapes Go.WideShapes Go.ChangeAt Go.RowKit Go.Joins

theorem stackWords_own : ownKnob Try.prog.godebug = none := by kernel_rfl
theorem stackWords_laidOut : laidOutB Try.prog = true := by kernel_rfl

set_option linter.unusedVariables false in
set_option maxRecDepth 100000 in
theorem stackWords_lifted (os : Os) (started : os.Started) (H : Type) (enc : TypeId × Value → H) :
    ReturnsInHanded {} Try.checked os 5 .any (Rows.stackWordsSpec.pre6 enc Try.prog Try.f5 Rows.stackWordsRow.domain false) (Rows.stackWordsSpec.post enc Try.prog Try.f5 false true false false) := by
  refine returnsInHanded_of_change (C := Try.checked) stackWords_own started (by kernel_rfl) Try.func5
    (ChangeSpec.witness6 (enc := enc) (C := Try.checked) false ⟨#[], #[.int .i64 0, .int .i64 0], []⟩ 8 (by kernel_rfl) (by kernel_rfl) (by kernel_rfl) (by kernel_rfl)) ?_
  intro W base args ds gs before hval0 hW hcnd _
  have hval : ∀ (j : Nat) t v, Try.f5.params[j]? = some t → args[j]? = some v → Value.okWide Try.prog W .any base t v := hval0
  have hW' := hW
  obtain ⟨p, q, hA0, hV, rfl, hfz, hnd⟩ := hW
  have hA : DataW.TrodAll enc Try.prog W 0 (fun _ => true) true Try.f5.params.toList args.toList ds p := hA0
  rw [Try.params5] at hA hval
  obtain ⟨v0, vs0, d0, ds0, p0, q0, hargs, rfl, rfl, h0, r0⟩ := trodAll_cons hA
  obtain ⟨v1, vs1, d1, ds1, p1, q1, rfl, rfl, rfl, h1, r1⟩ := trodAll_cons r0
  obtain ⟨rfl, rfl, rfl⟩ := trodAll_nil r1
  obtain rfl : args = #[v0, v1] := by rw [← Array.toList_inj]; exact hargs
  obtain ⟨rfl, rfl⟩ := trodVars_none hV
  have k0 := h0
  have lt0 : ∀ x ∈ p0, x.block < W.heap.size := by obtain ⟨m, hm⟩ := k0; exact DataW.trod_lt m _ _ _ hm
  have hs0 := hval 0 3 v0 rfl rfl
  have k1 := h1
  have lt1 : ∀ x ∈ p1, x.block < W.heap.size := by obtain ⟨m, hm⟩ := k1; exact DataW.trod_lt m _ _ _ hm
  have hs1 := hval 1 3 v1 rfl rfl
  obtain ⟨n0, rfl⟩ := okWide_int Try.underlying3 hs0
  obtain ⟨n1, rfl⟩ := okWide_int Try.underlying3 hs1
  clear hA0 hval0
  simp only [List.append_nil] at hW'
  refine (StackWords_any n0 n1 W).mono fun e W' ⟨he, bel⟩ => ?_
  subst he
  have tr := (trodAll_cons_mk (Below.trod stackWords_laidOut (by kernel_rfl) (of_decide_eq_true (by kernel_rfl)) k0 bel lt0) (trodAll_mk1 (Below.trod stackWords_laidOut (by kernel_rfl) (of_decide_eq_true (by kernel_rfl)) k1 bel lt1)))
  try simp only [List.append_nil] at tr
  exact ⟨_, rfl, _, _, _, [], _, [], hW', trodAll_mk1 (shut_bool Try.underlying4 _), tr, rfl, bel.frame _, fun h => by cases h⟩

theorem stackWords_and {a b : Bool} (h1 : a = true) (h2 : b = true) : (a && b) = true := by rw [h1, h2]; rfl
theorem stackWords_k2 : mapsRowed Try.prog = true := by kernel_rfl
theorem stackWords_k10 : (Rows.stackWordsRow.inPlace == Try.prog.inPlace 5) = true := by kernel_rfl
theorem stackWords_k11 : (Rows.stackWordsRow.unfollowed == Try.prog.unfollowed 5) = true := by kernel_rfl
theorem stackWords_k12 : (Rows.stackWordsRow.recurses == Try.prog.recurses 5) = true := by kernel_rfl
theorem stackWords_k13 : (Rows.stackWordsRow.named == Try.prog.varsNamed 5) = true := by kernel_rfl
/-- the row's facts of the program, one by one: each is cheap, all at once are not -/
theorem stackWords_closed : joinedFacts Try.prog 5 Try.f5 Rows.stackWordsSpec Rows.stackWordsRow = true := by
  unfold joinedFacts
  refine stackWords_and (stackWords_and (stackWords_and (stackWords_and (stackWords_and (stackWords_and (stackWords_and (stackWords_and (stackWords_and (stackWords_and (stackWords_and (stackWords_and (stackWords_and (stackWords_and (stackWords_and (stackWords_and (stackWords_and (stackWords_and (stackWords_and (stackWords_and (stackWords_and (stackWords_and (stackWords_and (stackWords_and (stackWords_and (stackWords_and (stackWords_and (stackWords_and (stackWords_and (stackWords_and (stackWords_and ?_ stackWords_laidOut) stackWords_k2) ?_) ?_) ?_) ?_) ?_) ?_) stackWords_k10) stackWords_k11) stackWords_k12) stackWords_k13) ?_) ?_) ?_) ?_) ?_) ?_) ?_) ?_) ?_) ?_) ?_) ?_) ?_) ?_) ?_) ?_) ?_) ?_) ?_
  all_goals kernel_rfl
theorem stackWords_over : Rows.stackWordsRow.holds Try.pinned (OpenSpec.ofChange Rows.stackWordsSpec) :=
  OpenClaim.holds_of_wide 5 Try.f5 rfl rfl rfl rfl rfl rfl rfl ⟨rfl, rfl, rfl, rfl, rfl⟩ rfl rfl rfl rfl rfl (by kernel_rfl) Try.func5 stackWords_closed
    (of_decide_eq_true (by kernel_rfl)) (by unfold Func.isWrapper; first | (rw [if_pos (by decide +kernel)]; kernel_rfl) | (rw [if_neg (by decide +kernel)]; exact ⟨rfl, rfl⟩))
    (fun os started H enc _ => stackWords_lifted os started H enc)

/-- THE STATEMENT -/
theorem stackWords_holds : Rows.StackWordsSaid :=
  stackWords_over
#print axioms stackWords_holds

end Go.Proofs.Ytaphlhcenelkbaa
