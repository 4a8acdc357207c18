/- StackLast: what is put last is taken first, and a frame that was entered and left again leaves the one below as it was, for all numbers, values and things done. -/
import Derived.Test.YtaphlhcenelkbaaRows
import Derived.Test.YtaphlhcenelkbaaSkR
import Derived.Lib.SmallJoins
import Derived.WalkKit
import Derived.ProofKit
import Derived.OpenShut
import Derived.Carry
namespace Go.Proofs.Ytaphlhcenelkbaa
open Go.ChangeShapes Go.WideShapes Go.ChangeAt Go.RowKit Go.Joins

theorem stackLast_own : ownKnob Try.prog.godebug = none := by kernel_rfl
theorem stackLast_laidOut : laidOutB Try.prog = true := by kernel_rfl
/-- a list among the arguments -/
theorem stackLast_lstP {H : Type} {enc : TypeId × Value → H} {W : World} {v0 : Value} {d : DataW H} {p : List MemPlace} (hv : v0.cells.toList = [v0]) (h : DataW.Trod enc Try.prog W 0 (fun _ => true) true 22 v0 d p) : ∃ l : List OpS, IsOpsS W v0 l := by
  obtain ⟨fuel, hf⟩ := h
  obtain ⟨v, l, e, r⟩ := read_opss hf
  rw [hv] at e
  simp at e
  subst e
  exact ⟨l, r⟩
/-- a list among the arguments -/
theorem stackLast_lstW {H : Type} {enc : TypeId × Value → H} {W : World} {v0 : Value} {d : DataW H} {p : List MemPlace} (hv : v0.cells.toList = [v0]) (h : DataW.Trod enc Try.prog W 0 (fun _ => true) true 38 v0 d p) : ∃ l : List (Bool × Int), IsVals W v0 l := by
  obtain ⟨fuel, hf⟩ := h
  obtain ⟨v, l, e, r⟩ := read_vals hf
  rw [hv] at e
  simp at e
  subst e
  exact ⟨l, r⟩

set_option linter.unusedVariables false in
set_option maxRecDepth 100000 in
theorem stackLast_lifted (os : Os) (started : os.Started) (H : Type) (enc : TypeId × Value → H) :
    ReturnsInHanded {} Try.checked os 4 .any (Rows.stackLastSpec.pre6 enc Try.prog Try.f4 Rows.stackLastRow.domain false) (Rows.stackLastSpec.post enc Try.prog Try.f4 false true false false) := by
  refine returnsInHanded_of_change (C := Try.checked) stackLast_own started (by kernel_rfl) Try.func4
    (ChangeSpec.witness6 (enc := enc) (C := Try.checked) false ⟨#[], #[.int .i64 0, .int .i64 0, .slice none 0 0, .slice none 0 0], []⟩ 8 (by kernel_rfl) (by kernel_rfl) (by kernel_rfl) (by kernel_rfl)) ?_
  intro W base args ds gs before hval0 hW hcnd _
  have hval : ∀ (j : Nat) t v, Try.f4.params[j]? = some t → args[j]? = some v → Value.okWide Try.prog W .any base t v := hval0
  have hW' := hW
  obtain ⟨p, q, hA0, hV, rfl, hfz, hnd⟩ := hW
  have hA : DataW.TrodAll enc Try.prog W 0 (fun _ => true) true Try.f4.params.toList args.toList ds p := hA0
  rw [Try.params4] at hA hval
  obtain ⟨v0, vs0, d0, ds0, p0, q0, hargs, rfl, rfl, h0, r0⟩ := trodAll_cons hA
  obtain ⟨v1, vs1, d1, ds1, p1, q1, rfl, rfl, rfl, h1, r1⟩ := trodAll_cons r0
  obtain ⟨v2, vs2, d2, ds2, p2, q2, rfl, rfl, rfl, h2, r2⟩ := trodAll_cons r1
  obtain ⟨v3, vs3, d3, ds3, p3, q3, rfl, rfl, rfl, h3, r3⟩ := trodAll_cons r2
  obtain ⟨rfl, rfl, rfl⟩ := trodAll_nil r3
  obtain rfl : args = #[v0, v1, v2, v3] := by rw [← Array.toList_inj]; exact hargs
  obtain ⟨rfl, rfl⟩ := trodVars_none hV
  have k0 := h0
  have lt0 : ∀ x ∈ p0, x.block < W.heap.size := by obtain ⟨m, hm⟩ := k0; exact DataW.trod_lt m _ _ _ hm
  have hs0 := hval 0 3 v0 rfl rfl
  have k1 := h1
  have lt1 : ∀ x ∈ p1, x.block < W.heap.size := by obtain ⟨m, hm⟩ := k1; exact DataW.trod_lt m _ _ _ hm
  have hs1 := hval 1 3 v1 rfl rfl
  have k2 := h2
  have lt2 : ∀ x ∈ p2, x.block < W.heap.size := by obtain ⟨m, hm⟩ := k2; exact DataW.trod_lt m _ _ _ hm
  have hs2 := hval 2 38 v2 rfl rfl
  have k3 := h3
  have lt3 : ∀ x ∈ p3, x.block < W.heap.size := by obtain ⟨m, hm⟩ := k3; exact DataW.trod_lt m _ _ _ hm
  have hs3 := hval 3 22 v3 rfl rfl
  obtain ⟨n0, rfl⟩ := okWide_int Try.underlying3 hs0
  obtain ⟨n1, rfl⟩ := okWide_int Try.underlying3 hs1
  obtain ⟨l2, hl2⟩ := stackLast_lstW (by obtain ⟨ao, n1, n2, rfl⟩ := okWide_slice Try.underlying38 hs2; rfl) h2
  obtain ⟨l3, hl3⟩ := stackLast_lstP (by obtain ⟨ao, n1, n2, rfl⟩ := okWide_slice Try.underlying22 hs3; rfl) h3
  clear hA0 hval0
  simp only [List.append_nil] at hW'
  refine (StackLast_any n0 n1 v2 l2 v3 l3 W hl2 hl3).mono fun e W' ⟨he, bel⟩ => ?_
  subst he
  have tr := (trodAll_cons_mk (Below.trod stackLast_laidOut (by kernel_rfl) (of_decide_eq_true (by kernel_rfl)) k0 bel lt0) ((trodAll_cons_mk (Below.trod stackLast_laidOut (by kernel_rfl) (of_decide_eq_true (by kernel_rfl)) k1 bel lt1) ((trodAll_cons_mk (Below.trod stackLast_laidOut (by kernel_rfl) (of_decide_eq_true (by kernel_rfl)) k2 bel lt2) (trodAll_mk1 (Below.trod stackLast_laidOut (by kernel_rfl) (of_decide_eq_true (by kernel_rfl)) k3 bel lt3)))))))
  try simp only [List.append_nil] at tr
  exact ⟨_, rfl, _, _, _, [], _, [], hW', trodAll_mk1 (shut_bool Try.underlying4 _), tr, rfl, bel.frame _, fun h => by cases h⟩

theorem stackLast_and {a b : Bool} (h1 : a = true) (h2 : b = true) : (a && b) = true := by rw [h1, h2]; rfl
theorem stackLast_k2 : mapsRowed Try.prog = true := by kernel_rfl
theorem stackLast_k10 : (Rows.stackLastRow.inPlace == Try.prog.inPlace 4) = true := by kernel_rfl
theorem stackLast_k11 : (Rows.stackLastRow.unfollowed == Try.prog.unfollowed 4) = true := by kernel_rfl
theorem stackLast_k12 : (Rows.stackLastRow.recurses == Try.prog.recurses 4) = true := by kernel_rfl
theorem stackLast_k13 : (Rows.stackLastRow.named == Try.prog.varsNamed 4) = true := by kernel_rfl
/-- the row's facts of the program, one by one: each is cheap, all at once are not -/
theorem stackLast_closed : joinedFacts Try.prog 4 Try.f4 Rows.stackLastSpec Rows.stackLastRow = true := by
  unfold joinedFacts
  refine stackLast_and (stackLast_and (stackLast_and (stackLast_and (stackLast_and (stackLast_and (stackLast_and (stackLast_and (stackLast_and (stackLast_and (stackLast_and (stackLast_and (stackLast_and (stackLast_and (stackLast_and (stackLast_and (stackLast_and (stackLast_and (stackLast_and (stackLast_and (stackLast_and (stackLast_and (stackLast_and (stackLast_and (stackLast_and (stackLast_and (stackLast_and (stackLast_and (stackLast_and (stackLast_and (stackLast_and ?_ stackLast_laidOut) stackLast_k2) ?_) ?_) ?_) ?_) ?_) ?_) stackLast_k10) stackLast_k11) stackLast_k12) stackLast_k13) ?_) ?_) ?_) ?_) ?_) ?_) ?_) ?_) ?_) ?_) ?_) ?_) ?_) ?_) ?_) ?_) ?_) ?_) ?_
  all_goals kernel_rfl
theorem stackLast_over : Rows.stackLastRow.holds Try.pinned (OpenSpec.ofChange Rows.stackLastSpec) :=
  OpenClaim.holds_of_wide 4 Try.f4 rfl rfl rfl rfl rfl rfl rfl ⟨rfl, rfl, rfl, rfl, rfl⟩ rfl rfl rfl rfl rfl (by kernel_rfl) Try.func4 stackLast_closed
    (of_decide_eq_true (by kernel_rfl)) (by unfold Func.isWrapper; first | (rw [if_pos (by decide +kernel)]; kernel_rfl) | (rw [if_neg (by decide +kernel)]; exact ⟨rfl, rfl⟩))
    (fun os started H enc _ => stackLast_lifted os started H enc)

/-- THE STATEMENT -/
theorem stackLast_holds : Rows.StackLastSaid :=
  stackLast_over
#print axioms stackLast_holds

end Go.Proofs.Ytaphlhcenelkbaa
