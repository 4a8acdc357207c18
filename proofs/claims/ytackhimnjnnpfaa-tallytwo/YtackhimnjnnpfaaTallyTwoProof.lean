/- TallyTwo: whatever the four numbers, the law returns true: two tallies know nothing of each other; what is added and taken off again leaves nothing; Most answers the greater number (P16.2, P16.4). No condition. -/
import Derived.Test.YtackhimnjnnpfaaRows
import Derived.Test.YtackhimnjnnpfaaTaC
import Derived.Lib.SmallJoins
import Derived.WalkKit
import Derived.ProofKit
import Derived.OpenShut
import Derived.Carry
namespace Go.Proofs.Ytackhimnjnnpfaa
open Go.ChangeShapes Go.WideShapes Go.ChangeAt Go.RowKit Go.Joins

theorem tallyTwo_own : ownKnob Try.prog.godebug = none := by kernel_rfl
theorem tallyTwo_laidOut : laidOutB Try.prog = true := by kernel_rfl

set_option linter.unusedVariables false in
set_option maxRecDepth 100000 in
theorem tallyTwo_lifted (os : Os) (started : os.Started) (H : Type) (enc : TypeId × Value → H) :
    ReturnsInHanded {} Try.checked os 5 .any (Rows.tallyTwoSpec.pre6 enc Try.prog Try.f5 Rows.tallyTwoRow.domain false) (Rows.tallyTwoSpec.post enc Try.prog Try.f5 false true false false) := by
  refine returnsInHanded_of_change (C := Try.checked) tallyTwo_own started (by kernel_rfl) Try.func5
    (ChangeSpec.witness6 (enc := enc) (C := Try.checked) false ⟨#[], #[.int .i64 0, .int .i64 0, .int .i64 0, .int .i64 0], []⟩ 8 (by kernel_rfl) (by kernel_rfl) (by kernel_rfl) (by kernel_rfl)) ?_
  intro W base args ds gs before hval0 hW hcnd _
  have hval : ∀ (j : Nat) t v, Try.f5.params[j]? = some t → args[j]? = some v → Value.okWide Try.prog W .any base t v := hval0
  have hW' := hW
  obtain ⟨p, q, hA0, hV, rfl, hfz, hnd⟩ := hW
  have hA : DataW.TrodAll enc Try.prog W 0 (fun _ => true) true Try.f5.params.toList args.toList ds p := hA0
  rw [Try.params5] at hA hval
  obtain ⟨v0, vs0, d0, ds0, p0, q0, hargs, rfl, rfl, h0, r0⟩ := trodAll_cons hA
  obtain ⟨v1, vs1, d1, ds1, p1, q1, rfl, rfl, rfl, h1, r1⟩ := trodAll_cons r0
  obtain ⟨v2, vs2, d2, ds2, p2, q2, rfl, rfl, rfl, h2, r2⟩ := trodAll_cons r1
  obtain ⟨v3, vs3, d3, ds3, p3, q3, rfl, rfl, rfl, h3, r3⟩ := trodAll_cons r2
  obtain ⟨rfl, rfl, rfl⟩ := trodAll_nil r3
  obtain rfl : args = #[v0, v1, v2, v3] := by rw [← Array.toList_inj]; exact hargs
  obtain ⟨rfl, rfl⟩ := trodVars_none hV
  have k0 := h0
  have lt0 : ∀ x ∈ p0, x.block < W.heap.size := by obtain ⟨m, hm⟩ := k0; exact DataW.trod_lt m _ _ _ hm
  have hs0 := hval 0 3 v0 rfl rfl
  have k1 := h1
  have lt1 : ∀ x ∈ p1, x.block < W.heap.size := by obtain ⟨m, hm⟩ := k1; exact DataW.trod_lt m _ _ _ hm
  have hs1 := hval 1 3 v1 rfl rfl
  have k2 := h2
  have lt2 : ∀ x ∈ p2, x.block < W.heap.size := by obtain ⟨m, hm⟩ := k2; exact DataW.trod_lt m _ _ _ hm
  have hs2 := hval 2 3 v2 rfl rfl
  have k3 := h3
  have lt3 : ∀ x ∈ p3, x.block < W.heap.size := by obtain ⟨m, hm⟩ := k3; exact DataW.trod_lt m _ _ _ hm
  have hs3 := hval 3 3 v3 rfl rfl
  obtain ⟨n0, rfl⟩ := okWide_int Try.underlying3 hs0
  obtain ⟨n1, rfl⟩ := okWide_int Try.underlying3 hs1
  obtain ⟨n2, rfl⟩ := okWide_int Try.underlying3 hs2
  have w2 : -9223372036854775808 ≤ n2 ∧ n2 ≤ 9223372036854775807 := by
    obtain ⟨u, eu, _, wu⟩ := DataW.trod_int Try.underlying3 h2.choose_spec
    obtain rfl : n2 = u := by simpa [Value.cells] using eu
    simp [Lit.wf] at wu
    have m1 : IntKind.i64.min = -9223372036854775808 := by decide
    have m2 : IntKind.i64.max = 9223372036854775807 := by decide
    omega
  obtain ⟨n3, rfl⟩ := okWide_int Try.underlying3 hs3
  have w3 : -9223372036854775808 ≤ n3 ∧ n3 ≤ 9223372036854775807 := by
    obtain ⟨u, eu, _, wu⟩ := DataW.trod_int Try.underlying3 h3.choose_spec
    obtain rfl : n3 = u := by simpa [Value.cells] using eu
    simp [Lit.wf] at wu
    have m1 : IntKind.i64.min = -9223372036854775808 := by decide
    have m2 : IntKind.i64.max = 9223372036854775807 := by decide
    omega
  clear hA0 hval0
  simp only [List.append_nil] at hW'
  refine (TallyTwo_any n0 n1 n2 n3 w2 w3 W).mono fun e W' ⟨he, bel⟩ => ?_
  subst he
  have tr := (trodAll_cons_mk (Below.trod tallyTwo_laidOut (by kernel_rfl) (of_decide_eq_true (by kernel_rfl)) k0 bel lt0) ((trodAll_cons_mk (Below.trod tallyTwo_laidOut (by kernel_rfl) (of_decide_eq_true (by kernel_rfl)) k1 bel lt1) ((trodAll_cons_mk (Below.trod tallyTwo_laidOut (by kernel_rfl) (of_decide_eq_true (by kernel_rfl)) k2 bel lt2) (trodAll_mk1 (Below.trod tallyTwo_laidOut (by kernel_rfl) (of_decide_eq_true (by kernel_rfl)) k3 bel lt3)))))))
  try simp only [List.append_nil] at tr
  exact ⟨_, rfl, _, _, _, [], _, [], hW', trodAll_mk1 (shut_bool Try.underlying4 _), tr, rfl, bel.frame _, fun h => by cases h⟩

theorem tallyTwo_and {a b : Bool} (h1 : a = true) (h2 : b = true) : (a && b) = true := by rw [h1, h2]; rfl
theorem tallyTwo_k2 : mapsRowed Try.prog = true := by kernel_rfl
theorem tallyTwo_k10 : (Rows.tallyTwoRow.inPlace == Try.prog.inPlace 5) = true := by kernel_rfl
theorem tallyTwo_k11 : (Rows.tallyTwoRow.unfollowed == Try.prog.unfollowed 5) = true := by kernel_rfl
theorem tallyTwo_k12 : (Rows.tallyTwoRow.recurses == Try.prog.recurses 5) = true := by kernel_rfl
theorem tallyTwo_k13 : (Rows.tallyTwoRow.named == Try.prog.varsNamed 5) = true := by kernel_rfl
/-- the row's facts of the program, one by one: each is cheap, all at once are not -/
theorem tallyTwo_closed : joinedFacts Try.prog 5 Try.f5 Rows.tallyTwoSpec Rows.tallyTwoRow = true := by
  unfold joinedFacts
  refine tallyTwo_and (tallyTwo_and (tallyTwo_and (tallyTwo_and (tallyTwo_and (tallyTwo_and (tallyTwo_and (tallyTwo_and (tallyTwo_and (tallyTwo_and (tallyTwo_and (tallyTwo_and (tallyTwo_and (tallyTwo_and (tallyTwo_and (tallyTwo_and (tallyTwo_and (tallyTwo_and (tallyTwo_and (tallyTwo_and (tallyTwo_and (tallyTwo_and (tallyTwo_and (tallyTwo_and (tallyTwo_and (tallyTwo_and (tallyTwo_and (tallyTwo_and (tallyTwo_and (tallyTwo_and (tallyTwo_and ?_ tallyTwo_laidOut) tallyTwo_k2) ?_) ?_) ?_) ?_) ?_) ?_) tallyTwo_k10) tallyTwo_k11) tallyTwo_k12) tallyTwo_k13) ?_) ?_) ?_) ?_) ?_) ?_) ?_) ?_) ?_) ?_) ?_) ?_) ?_) ?_) ?_) ?_) ?_) ?_) ?_
  all_goals kernel_rfl
theorem tallyTwo_over : Rows.tallyTwoRow.holds Try.pinned (OpenSpec.ofChange Rows.tallyTwoSpec) :=
  OpenClaim.holds_of_wide 5 Try.f5 rfl rfl rfl rfl rfl rfl rfl ⟨rfl, rfl, rfl, rfl, rfl⟩ rfl rfl rfl rfl rfl (by kernel_rfl) Try.func5 tallyTwo_closed
    (of_decide_eq_true (by kernel_rfl)) (by unfold Func.isWrapper; first | (rw [if_pos (by decide +kernel)]; kernel_rfl) | (rw [if_neg (by decide +kernel)]; exact ⟨rfl, rfl⟩))
    (fun os started H enc _ => tallyTwo_lifted os started H enc)

/-- THE STATEMENT -/
theorem tallyTwo_holds : Rows.TallyTwoSaid :=
  tallyTwo_over
#print axioms tallyTwo_holds

end Go.Proofs.Ytackhimnjnnpfaa
