/- CachePlays: a cache of any capacity and the document's, asked by any script, answer the same, entry by entry (P18.1 to P18.5); the lists of keys are new memory (R4): the law returns true. No condition. -/
import Derived.Test.YtdjmjdlolhfejaaRows
import Derived.Test.YtdjmjdlolhfejaaKbM
import Derived.Lib.SmallJoins
import Derived.WalkKit
import Derived.ProofKit
import Derived.OpenShut
import Derived.Carry
namespace Go.Proofs.Ytdjmjdlolhfejaa
open Go.ChangeShapes Go.WideShapes Go.ChangeAt Go.RowKit Go.Joins

theorem cachePlays_own : ownKnob Try.prog.godebug = none := by kernel_rfl
theorem cachePlays_laidOut : laidOutB Try.prog = true := by kernel_rfl
/-- a list among the arguments -/
theorem cachePlays_lstO {H : Type} {enc : TypeId × Value → H} {W : World} {v0 : Value} {d : DataW H} {p : List MemPlace} (hv : v0.cells.toList = [v0]) (h : DataW.Trod enc Try.prog W 0 (fun _ => true) true 22 v0 d p) : ∃ l : List OpI, IsOps W v0 l := by
  obtain ⟨fuel, hf⟩ := h
  obtain ⟨v, l, e, r⟩ := read_ops hf
  rw [hv] at e
  simp at e
  subst e
  exact ⟨l, r⟩

set_option linter.unusedVariables false in
set_option maxRecDepth 100000 in
theorem cachePlays_lifted (os : Os) (started : os.Started) (H : Type) (enc : TypeId × Value → H) :
    ReturnsInHanded {} Try.checked os 3 .any (Rows.cachePlaysSpec.pre6 enc Try.prog Try.f3 Rows.cachePlaysRow.domain false) (Rows.cachePlaysSpec.post enc Try.prog Try.f3 false true false false) := by
  refine returnsInHanded_of_change (C := Try.checked) cachePlays_own started (by kernel_rfl) Try.func3
    (ChangeSpec.witness6 (enc := enc) (C := Try.checked) false ⟨#[], #[.int .i64 0, .slice none 0 0], []⟩ 8 (by kernel_rfl) (by kernel_rfl) (by kernel_rfl) (by kernel_rfl)) ?_
  intro W base args ds gs before hval0 hW hcnd _
  have hval : ∀ (j : Nat) t v, Try.f3.params[j]? = some t → args[j]? = some v → Value.okWide Try.prog W .any base t v := hval0
  have hW' := hW
  obtain ⟨p, q, hA0, hV, rfl, hfz, hnd⟩ := hW
  have hA : DataW.TrodAll enc Try.prog W 0 (fun _ => true) true Try.f3.params.toList args.toList ds p := hA0
  rw [Try.params3] at hA hval
  obtain ⟨v0, vs0, d0, ds0, p0, q0, hargs, rfl, rfl, h0, r0⟩ := trodAll_cons hA
  obtain ⟨v1, vs1, d1, ds1, p1, q1, rfl, rfl, rfl, h1, r1⟩ := trodAll_cons r0
  obtain ⟨rfl, rfl, rfl⟩ := trodAll_nil r1
  obtain rfl : args = #[v0, v1] := by rw [← Array.toList_inj]; exact hargs
  obtain ⟨rfl, rfl⟩ := trodVars_none hV
  have k0 := h0
  have lt0 : ∀ x ∈ p0, x.block < W.heap.size := by obtain ⟨m, hm⟩ := k0; exact DataW.trod_lt m _ _ _ hm
  have hs0 := hval 0 3 v0 rfl rfl
  have k1 := h1
  have lt1 : ∀ x ∈ p1, x.block < W.heap.size := by obtain ⟨m, hm⟩ := k1; exact DataW.trod_lt m _ _ _ hm
  have hs1 := hval 1 22 v1 rfl rfl
  obtain ⟨n0, rfl⟩ := okWide_int Try.underlying3 hs0
  obtain ⟨l1, hl1⟩ := cachePlays_lstO (by obtain ⟨ao, n1, n2, rfl⟩ := okWide_slice Try.underlying22 hs1; rfl) h1
  clear hA0 hval0
  simp only [List.append_nil] at hW'
  refine (CachePlays_any n0 v1 l1 W hl1).mono fun e W' ⟨he, bel⟩ => ?_
  subst he
  have tr := (trodAll_cons_mk (Below.trod cachePlays_laidOut (by kernel_rfl) (of_decide_eq_true (by kernel_rfl)) k0 bel lt0) (trodAll_mk1 (Below.trod cachePlays_laidOut (by kernel_rfl) (of_decide_eq_true (by kernel_rfl)) k1 bel lt1)))
  try simp only [List.append_nil] at tr
  exact ⟨_, rfl, _, _, _, [], _, [], hW', trodAll_mk1 (shut_bool Try.underlying4 _), tr, rfl, bel.frame _, fun h => by cases h⟩

theorem cachePlays_and {a b : Bool} (h1 : a = true) (h2 : b = true) : (a && b) = true := by rw [h1, h2]; rfl
theorem cachePlays_k2 : mapsRowed Try.prog = true := by kernel_rfl
theorem cachePlays_k10 : (Rows.cachePlaysRow.inPlace == Try.prog.inPlace 3) = true := by kernel_rfl
theorem cachePlays_k11 : (Rows.cachePlaysRow.unfollowed == Try.prog.unfollowed 3) = true := by kernel_rfl
theorem cachePlays_k12 : (Rows.cachePlaysRow.recurses == Try.prog.recurses 3) = true := by kernel_rfl
theorem cachePlays_k13 : (Rows.cachePlaysRow.named == Try.prog.varsNamed 3) = true := by kernel_rfl
/-- the row's facts of the program, one by one: each is cheap, all at once are not -/
theorem cachePlays_closed : joinedFacts Try.prog 3 Try.f3 Rows.cachePlaysSpec Rows.cachePlaysRow = true := by
  unfold joinedFacts
  refine cachePlays_and (cachePlays_and (cachePlays_and (cachePlays_and (cachePlays_and (cachePlays_and (cachePlays_and (cachePlays_and (cachePlays_and (cachePlays_and (cachePlays_and (cachePlays_and (cachePlays_and (cachePlays_and (cachePlays_and (cachePlays_and (cachePlays_and (cachePlays_and (cachePlays_and (cachePlays_and (cachePlays_and (cachePlays_and (cachePlays_and (cachePlays_and (cachePlays_and (cachePlays_and (cachePlays_and (cachePlays_and (cachePlays_and (cachePlays_and (cachePlays_and ?_ cachePlays_laidOut) cachePlays_k2) ?_) ?_) ?_) ?_) ?_) ?_) cachePlays_k10) cachePlays_k11) cachePlays_k12) cachePlays_k13) ?_) ?_) ?_) ?_) ?_) ?_) ?_) ?_) ?_) ?_) ?_) ?_) ?_) ?_) ?_) ?_) ?_) ?_) ?_
  all_goals kernel_rfl
theorem cachePlays_over : Rows.cachePlaysRow.holds Try.pinned (OpenSpec.ofChange Rows.cachePlaysSpec) :=
  OpenClaim.holds_of_wide 3 Try.f3 rfl rfl rfl rfl rfl rfl rfl ⟨rfl, rfl, rfl, rfl, rfl⟩ rfl rfl rfl rfl rfl (by kernel_rfl) Try.func3 cachePlays_closed
    (of_decide_eq_true (by kernel_rfl)) (by unfold Func.isWrapper; first | (rw [if_pos (by decide +kernel)]; kernel_rfl) | (rw [if_neg (by decide +kernel)]; exact ⟨rfl, rfl⟩))
    (fun os started H enc _ => cachePlays_lifted os started H enc)

/-- THE STATEMENT -/
theorem cachePlays_holds : Rows.CachePlaysSaid :=
  cachePlays_over
#print axioms cachePlays_holds

end Go.Proofs.Ytdjmjdlolhfejaa
