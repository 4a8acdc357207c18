/- Proved: for every class (any texts, ints and lists, of any length, with any spare room) the law ShapesSound answers true, and leaves what it was handed as it was, where the variables 'words' of packages code and flags and the library's table of powers of ten hold what their own initialisers lay (the card ties them to the program's text); math/bits' two tables are listed besides, and no run reads them. -/
import Derived.Test.YtfbhjfpkhofifaaDoorLawS
import Derived.Test.YtfbhjfpkhofifaaDoorArgC
import Derived.Test.YtfbhjfpkhofifaaDoorLaid
import Derived.Test.YtfbhjfpkhofifaaDoorFLaid
import Derived.Test.YtfbhjfpkhofifaaDoorCards
import Derived.Test.YtfbhjfpkhofifaaDoorTie
import Derived.ProofKit
import Derived.Lay
import Derived.SevenTiedAt
namespace Go.Proofs.YtfbhjfpkhofifaaDoor
open Go.RowKit Go.ChangeShapes Go.WideShapes Go.ChangeAt Go.ChangeMaps

theorem shapesSound_walk (c : Cls) (vi vm : Value) {W : World} (hi : IsStrs W vi c.ifs) (hm : IsMths W vm c.ms) (hw : ClsW c) (h1 : WordsIn W) (h2 : TenIn W) (h3 : Fl.WordsIn W) : Calls Tryd.prog 3 #[clsV c vi vm] W fun e w' => e = .returned (.bool true) ∧ Below W.heap.size W w' :=
  ShapesSound_any c vi vm W hi hm hw ⟨⟨h1, h2⟩, h3⟩

theorem shapesSound_own : ownKnob Tryd.prog.godebug = none := by kernel_rfl
theorem shapesSound_laidOut : laidOutB Tryd.prog = true := by kernel_rfl

set_option linter.unusedVariables false in
set_option maxRecDepth 100000 in
theorem shapesSound_lifted (os : Os) (started : os.Started) (H : Type) (enc : TypeId × Value → H) :
    ReturnsInHanded {} Tryd.checked os 3 .any (fun w args => (Rows.shapesSoundSpec.pre enc Tryd.prog Tryd.f3 [] false w args ∧ laidMetH Tryd.prog Rows.shapesSoundRow.laid w) ∧ sizedMet enc Tryd.prog Tryd.f3 (OpenSpec.ofChange Rows.shapesSoundSpec) false w args)
      (Rows.shapesSoundSpec.post enc Tryd.prog Tryd.f3 false true false false) := by
  refine returnsInHanded_of_change_and (C := Tryd.checked) (X := fun w _ => laidMetH Tryd.prog Rows.shapesSoundRow.laid w) (fun _ _ _ hh h => h.of_heap hh) shapesSound_own started (by kernel_rfl) Tryd.func3
    (ChangeSpec.witness_shaped (enc := enc) (C := Tryd.checked) (os := os) (X := fun w _ => laidMetH Tryd.prog Rows.shapesSoundRow.laid w) false (World.laidAll Tryd.prog os Rows.shapesSoundRow.laid) #[.agg #[.string ByteArray.empty, .string ByteArray.empty, .slice none 0 0, .int .i64 0, .int .i64 0, .slice none 0 0]] 8 (World.laidAll_os _ _ _)
      (World.shaped_of_ZipB (by kernel_rfl) (by kernel_rfl)) (by kernel_rfl) (by kernel_rfl) (by kernel_rfl)
      (by rw [MakeChecks.laidMetH_plain _ _ _ (by kernel_rfl)]; exact laidMet_laidAll _ (by kernel_rfl) (by kernel_rfl))) ?_
  intro W base args ds gs before hval0 hW _ hR hL _
  have hval : ∀ (j : Nat) t v, Tryd.f3.params[j]? = some t → args[j]? = some v → Value.okWide Tryd.prog W .any base t v := hval0
  have hW' := hW
  obtain ⟨p, q, hA0, hV, rfl, _, _⟩ := hW
  have hA : DataW.TrodAll enc Tryd.prog W 0 (fun _ => true) true Tryd.f3.params.toList args.toList ds p := hA0
  rw [Tryd.params3] at hA hval
  obtain ⟨v0, vs0, d0, ds0, p0, q0, hargs0, rfl, rfl, h0, r0⟩ := trodAll_cons hA
  obtain ⟨rfl, rfl, rfl⟩ := trodAll_nil r0
  obtain rfl : args = #[v0] := by cases args; simp_all
  obtain ⟨rfl, rfl⟩ := trodVars_none hV
  have k0 := h0
  have lt0 : ∀ x ∈ p0, x.block < W.heap.size := by obtain ⟨m, hm⟩ := k0; exact DataW.trod_lt m _ _ _ hm
  obtain ⟨c0, vi0, vm0, rfl, uI0, uM0, uW0⟩ := arg_cls (hval 0 25 v0 rfl rfl) h0
  rw [MakeChecks.laidMetH_plain _ _ _ (by kernel_rfl)] at hL
  have hF0 := words_in (Lib.laidMet.reads hL (n := "arbiter/code.words") (d := Rows.laid_arbiter_code_words) (by simp [Rows.shapesSoundRow]))
  have hF1 := ten_in (Lib.laidMet.reads hL (n := "internal/strconv.uint64pow10") (d := Rows.laid_internal_strconv_uint64pow10) (by simp [Rows.shapesSoundRow]))
  have hF2 := Fl.words_in (Lib.laidMet.reads hL (n := "arbiter/flags.words") (d := Rows.laid_arbiter_flags_words) (by simp [Rows.shapesSoundRow]))
  clear hL hA0 hval0
  refine (shapesSound_walk c0 vi0 vm0 uI0 uM0 uW0 hF0 hF1 hF2).mono fun e W' ⟨he, bel⟩ => ?_
  subst he
  exact ⟨_, rfl, _, _, _, [], _, [], hW', trodAll_mk1 (shut_bool Tryd.underlying4 _), trodAll_cons_mk (Below.trod shapesSound_laidOut (by kernel_rfl) (of_decide_eq_true (by kernel_rfl)) k0 bel lt0) trodAll_mk0, rfl, bel.frame _, fun h => by cases h⟩

theorem shapesSound_over : Rows.shapesSoundRow.holds Tryd.pinned (OpenSpec.ofChange Rows.shapesSoundSpec) :=
  OpenClaim.holds_of_wide 3 Tryd.f3 rfl rfl rfl rfl rfl rfl rfl ⟨rfl, rfl, rfl, rfl, rfl⟩ rfl rfl rfl rfl rfl (by kernel_rfl) Tryd.func3 (by kernel_rfl)
    (of_decide_eq_true (by kernel_rfl)) (by unfold Func.isWrapper; first | (rw [if_pos (by decide +kernel)]; kernel_rfl) | (rw [if_neg (by decide +kernel)]; exact ⟨rfl, rfl⟩))
    (fun os started H enc _ => shapesSound_lifted os started H enc)

/-- THE STATEMENT -/
theorem shapesSound_holds : Rows.ShapesSoundCardSaid :=
  Claim7.holds_tied_plain_at .later [] [.data, .data, .data, .data, .data] true (true, "5cf852fffa798de41516bec743357864b829f0c321a1dddc3c0167e0744b06d3") false shapesSound_over (fun _ h => by cases h) (by kernel_rfl) (fun _ h => by cases h) shapesSound_row_tie rfl ⟨rfl, rfl⟩ (by kernel_rfl) rfl
    (fun f fn hf hfn => by
      obtain rfl : f = 3 := Option.some.inj ((show Tryd.prog.funcNamed "arbiter/arbiterlaw05.ShapesSound" = some 3 by kernel_rfl).symm.trans hf) |>.symm
      obtain rfl : fn = Tryd.f3 := (Option.some.inj (Tryd.func3.symm.trans hfn)).symm
      exact ⟨by kernel_rfl, fun j t ht => by
        rw [Tryd.params3] at ht
        have hm : t ∈ [25] := by simpa using Array.mem_of_getElem? ht
        have hall : ([25].all fun u => !Tryd.prog.wantsStandIn u) = true := by kernel_rfl
        exact (show Tryd.prog.wantsStandIn t = false by simpa using List.all_eq_true.1 hall t hm)⟩)
    (by kernel_rfl)
#print axioms shapesSound_holds

end Go.Proofs.YtfbhjfpkhofifaaDoor
