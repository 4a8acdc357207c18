/-
  For every descriptor (any arguments, any answered type), the Go function arbiterlaw02.TypesDescs returns true: DescText answers what the document's answer answers and leaves the list that is handed in as it was, spare room included; a text that is written is parsed to the descriptor again, each time in new memory.
  The statement is 'Rows.TypesDescsSaid', for every input (no bound of our own).
-/
import Derived.Test.YtaljppicmookeaaDescArg
namespace Go.Proofs.Ytaljppicmookeaa
open Go.ChangeShapes Go.WideShapes Go.ChangeAt Go.RowKit

theorem typesDescs_own : ownKnob Try.prog.godebug = none := by kernel_rfl
theorem typesDescs_laidOut : laidOutB Try.prog = true := by kernel_rfl

set_option linter.unusedVariables false in
set_option maxRecDepth 100000 in
theorem typesDescs_lifted (os : Os) (started : os.Started) (H : Type) (enc : TypeId × Value → H) :
    ReturnsInHanded {} Try.checked os 5 .any (Rows.typesDescsSpec.pre6 enc Try.prog Try.f5 Rows.typesDescsRow.domain false) (Rows.typesDescsSpec.post enc Try.prog Try.f5 false true false false) := by
  refine returnsInHanded_of_change_sized (C := Try.checked) typesDescs_own started (by kernel_rfl) Try.func5
    (ChangeSpec.witness6 (enc := enc) (C := Try.checked) false ⟨#[], #[.agg #[.slice none 0 0, .bool false, .int .i64 0, .string ByteArray.empty]], []⟩ 8 (by kernel_rfl) (by kernel_rfl) (by kernel_rfl) (by kernel_rfl)) ?_
  intro W base args ds gs before hval0 hW hcnd hsz _
  have hval : ∀ (j : Nat) t v, Try.f5.params[j]? = some t → args[j]? = some v → Value.okWide Try.prog W .any base t v := hval0
  have hW' := hW
  obtain ⟨p, q, hA0, hV, rfl, hfz, hnd⟩ := hW
  have hA : DataW.TrodAll enc Try.prog W 0 (fun _ => true) true Try.f5.params.toList args.toList ds p := hA0
  have hsz1 : (DataW.weightsEach Try.prog (Try.f5.params.toList ++ Rows.typesDescsSpec.plain.varTypes Try.prog) (ds ++ gs)).all (· ≤ reachBytes) = true := hsz
  rw [Try.params5] at hA hval hsz1
  obtain ⟨v0, d0, rfl, rfl, h0⟩ := trodAll_one hA
  obtain ⟨rfl, rfl⟩ := trodVars_none hV
  have k0 := h0
  have lt0 : ∀ x ∈ p, x.block < W.heap.size := by obtain ⟨m, hm⟩ := k0; exact DataW.trod_lt m _ _ _ hm
  obtain ⟨v, ts, vb, rd, rn, rfl, r1, r2, r3, r4, r5⟩ := read_desc (hval 0 31 v0 rfl rfl) h0
  have hn := desc_reach (gs := []) (ts := Rows.typesDescsSpec.plain.varTypes Try.prog) hsz1 r5
  clear hA0 hval0
  simp only [List.append_nil] at hW'
  refine (typesDescs_walk v ts vb rd rn W r1 r2 r3 r4 hn).mono fun e W' ⟨he, bel⟩ => ?_
  subst he
  exact ⟨_, rfl, _, _, _, [], _, [], hW', trodAll_mk1 (shut_bool Try.underlying4 _), trodAll_mk1 (Below.trod typesDescs_laidOut (by kernel_rfl) (of_decide_eq_true (by kernel_rfl)) k0 bel lt0), rfl, bel.frame _, fun h => by cases h⟩

theorem typesDescs_over : Rows.typesDescsRow.holds Try.pinned (OpenSpec.ofChange Rows.typesDescsSpec) :=
  OpenClaim.holds_of_wide 5 Try.f5 rfl rfl rfl rfl rfl rfl rfl ⟨rfl, rfl, rfl, rfl, rfl⟩ rfl rfl rfl rfl rfl (by kernel_rfl) Try.func5 (by kernel_rfl)
    (of_decide_eq_true (by kernel_rfl)) (by unfold Func.isWrapper; first | (rw [if_pos (by decide +kernel)]; kernel_rfl) | (rw [if_neg (by decide +kernel)]; exact ⟨rfl, rfl⟩))
    (fun os started H enc _ => typesDescs_lifted os started H enc)

/-- THE STATEMENT -/
theorem typesDescs_holds : Rows.TypesDescsSaid :=
  typesDescs_over
#print axioms typesDescs_holds

end Go.Proofs.Ytaljppicmookeaa
