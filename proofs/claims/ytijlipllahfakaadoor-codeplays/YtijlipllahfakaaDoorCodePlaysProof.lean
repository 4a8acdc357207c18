/- Proved: for every instruction (any two ints, any texts) the law CodePlays answers true, and leaves what it was handed as it was, where the package's variable 'words' and the library's table of powers of ten hold what their own initialisers lay (the card ties them to the program's text); math/bits' two tables are listed besides, and no run reads them. -/
import Derived.Test.YtijlipllahfakaaDoorLawP
import Derived.Test.YtijlipllahfakaaDoorArgI
import Derived.Test.YtijlipllahfakaaDoorLaid
import Derived.Test.YtijlipllahfakaaDoorCards
import Derived.Test.YtijlipllahfakaaDoorTie
import Derived.ProofKit
import Derived.Lay
import Derived.SevenTiedAt
namespace Go.Proofs.YtijlipllahfakaaDoor
open Go.RowKit Go.ChangeShapes Go.WideShapes Go.ChangeAt Go.ChangeMaps

theorem codePlays_walk (i : Ins) (hi : InsW i) (w : World) (h1 : WordsIn w) (h2 : TenIn w) : Calls Tryd.prog 3 #[insV i] w fun e w' => e = .returned (.bool true) ∧ Below w.heap.size w w' :=
  CodePlays_any i.op i.n hi.1.1 hi.1.2 i.t i.b i.c i.m i.d hi.2.1 hi.2.2.1 hi.2.2.2.1 hi.2.2.2.2 w ⟨h1, h2⟩

theorem codePlays_own : ownKnob Tryd.prog.godebug = none := by kernel_rfl
theorem codePlays_laidOut : laidOutB Tryd.prog = true := by kernel_rfl

set_option linter.unusedVariables false in
set_option maxRecDepth 100000 in
theorem codePlays_lifted (os : Os) (started : os.Started) (H : Type) (enc : TypeId × Value → H) :
    ReturnsInHanded {} Tryd.checked os 3 .any (fun w args => (Rows.codePlaysSpec.pre enc Tryd.prog Tryd.f3 [] false w args ∧ laidMetH Tryd.prog Rows.codePlaysRow.laid w) ∧ sizedMet enc Tryd.prog Tryd.f3 (OpenSpec.ofChange Rows.codePlaysSpec) false w args)
      (Rows.codePlaysSpec.post enc Tryd.prog Tryd.f3 false true false false) := by
  refine returnsInHanded_of_change_and (C := Tryd.checked) (X := fun w _ => laidMetH Tryd.prog Rows.codePlaysRow.laid w) (fun _ _ _ hh h => h.of_heap hh) codePlays_own started (by kernel_rfl) Tryd.func3
    (ChangeSpec.witness_shaped (enc := enc) (C := Tryd.checked) (os := os) (X := fun w _ => laidMetH Tryd.prog Rows.codePlaysRow.laid w) false (World.laidAll Tryd.prog os Rows.codePlaysRow.laid) #[.agg #[.int .i64 0, .int .i64 0, .string ByteArray.empty, .bool false, .string ByteArray.empty, .string ByteArray.empty, .string ByteArray.empty]] 8 (World.laidAll_os _ _ _)
      (World.shaped_of_ZipB (by kernel_rfl) (by kernel_rfl)) (by kernel_rfl) (by kernel_rfl) (by kernel_rfl)
      (by rw [MakeChecks.laidMetH_plain _ _ _ (by kernel_rfl)]; exact laidMet_laidAll _ (by kernel_rfl) (by kernel_rfl))) ?_
  intro W base args ds gs before hval0 hW _ hR hL _
  have hval : ∀ (j : Nat) t v, Tryd.f3.params[j]? = some t → args[j]? = some v → Value.okWide Tryd.prog W .any base t v := hval0
  have hW' := hW
  obtain ⟨p, q, hA0, hV, rfl, _, _⟩ := hW
  have hA : DataW.TrodAll enc Tryd.prog W 0 (fun _ => true) true Tryd.f3.params.toList args.toList ds p := hA0
  rw [Tryd.params3] at hA hval
  obtain ⟨v0, vs0, d0, ds0, p0, q0, hargs0, rfl, rfl, h0, r0⟩ := trodAll_cons hA
  obtain ⟨rfl, rfl, rfl⟩ := trodAll_nil r0
  obtain rfl : args = #[v0] := by cases args; simp_all
  obtain ⟨rfl, rfl⟩ := trodVars_none hV
  have k0 := h0
  have lt0 : ∀ x ∈ p0, x.block < W.heap.size := by obtain ⟨m, hm⟩ := k0; exact DataW.trod_lt m _ _ _ hm
  obtain ⟨i0, rfl, u0⟩ := arg_inst (hval 0 25 v0 rfl rfl) h0
  rw [MakeChecks.laidMetH_plain _ _ _ (by kernel_rfl)] at hL
  have hF0 := words_in (Lib.laidMet.reads hL (n := "arbiter/code.words") (d := Rows.laid_arbiter_code_words) (by simp [Rows.codePlaysRow]))
  have hF1 := ten_in (Lib.laidMet.reads hL (n := "internal/strconv.uint64pow10") (d := Rows.laid_internal_strconv_uint64pow10) (by simp [Rows.codePlaysRow]))
  clear hL hA0 hval0
  refine (codePlays_walk i0 u0 W hF0 hF1).mono fun e W' ⟨he, bel⟩ => ?_
  subst he
  exact ⟨_, rfl, _, _, _, [], _, [], hW', trodAll_mk1 (shut_bool Tryd.underlying4 _), trodAll_cons_mk (Below.trod codePlays_laidOut (by kernel_rfl) (of_decide_eq_true (by kernel_rfl)) k0 bel lt0) trodAll_mk0, rfl, bel.frame _, fun h => by cases h⟩

theorem codePlays_over : Rows.codePlaysRow.holds Tryd.pinned (OpenSpec.ofChange Rows.codePlaysSpec) :=
  OpenClaim.holds_of_wide 3 Tryd.f3 rfl rfl rfl rfl rfl rfl rfl ⟨rfl, rfl, rfl, rfl, rfl⟩ rfl rfl rfl rfl rfl (by kernel_rfl) Tryd.func3 (by kernel_rfl)
    (of_decide_eq_true (by kernel_rfl)) (by unfold Func.isWrapper; first | (rw [if_pos (by decide +kernel)]; kernel_rfl) | (rw [if_neg (by decide +kernel)]; exact ⟨rfl, rfl⟩))
    (fun os started H enc _ => codePlays_lifted os started H enc)

/-- THE STATEMENT -/
theorem codePlays_holds : Rows.CodePlaysCardSaid :=
  Claim7.holds_tied_plain_at .later [] [.data, .data, .data, .data] true (true, "e55e02564b72d465861a8de70d0fca1f71fe2c5b5ccef684c80d09ac78c6674e") true codePlays_over (fun _ h => by cases h) (by kernel_rfl) (fun _ h => by cases h) codePlays_row_tie rfl ⟨rfl, rfl⟩ (by kernel_rfl) rfl
    (fun f fn hf hfn => by
      obtain rfl : f = 3 := Option.some.inj ((show Tryd.prog.funcNamed "arbiter/arbiterlaw04.CodePlays" = some 3 by kernel_rfl).symm.trans hf) |>.symm
      obtain rfl : fn = Tryd.f3 := (Option.some.inj (Tryd.func3.symm.trans hfn)).symm
      exact ⟨by kernel_rfl, fun j t ht => by
        rw [Tryd.params3] at ht
        have hm : t ∈ [25] := by simpa using Array.mem_of_getElem? ht
        have hall : ([25].all fun u => !Tryd.prog.wantsStandIn u) = true := by kernel_rfl
        exact (show Tryd.prog.wantsStandIn t = false by simpa using List.all_eq_true.1 hall t hm)⟩)
    (by kernel_rfl)
#print axioms codePlays_holds

end Go.Proofs.YtijlipllahfakaaDoor
