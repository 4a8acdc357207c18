/- Proved: for every class and every two texts (any texts, ints and lists, of any length, with any spare room) the law ShapesPlays answers true, and leaves what it was handed as it was, where the variables 'words' of packages code and flags and the library's table of powers of ten hold what their own initialisers lay (the card ties them to the program's text); math/bits' two tables are listed besides, and no run reads them. -/
import Derived.Test.YtfbhjfpkhofifaaGreatDoorLawP5
import Derived.Test.YtfbhjfpkhofifaaGreatDoorArgC
import Derived.Test.YtfbhjfpkhofifaaGreatDoorLaid
import Derived.Test.YtfbhjfpkhofifaaGreatDoorFLaid
import Derived.Test.YtfbhjfpkhofifaaGreatDoorCards
import Derived.Test.YtfbhjfpkhofifaaGreatDoorTie
import Derived.ProofKit
import Derived.Lay
import Derived.SevenTiedAt
namespace Go.Proofs.YtfbhjfpkhofifaaGreatDoor
open Go.RowKit Go.ChangeShapes Go.WideShapes Go.ChangeAt Go.ChangeMaps

theorem shapesPlays_walk (c : Cls) (vi vm : Value) {W : World} (hi : IsStrs W vi c.ifs) (hm : IsMths W vm c.ms) (hw : ClsW c) (nm : ByteArray) (_ : nm.size ≤ maxLen) (ds : ByteArray) (_ : ds.size ≤ maxLen) (h1 : WordsIn W) (h2 : TenIn W) (h3 : Fl.WordsIn W) (_ : nm.size ≤ 140737488351232) (_ : ds.size ≤ 140737488351232) : Calls Tryz.prog 3 #[clsV c vi vm, .string nm, .string ds] W fun e w' => e = .returned (.bool true) ∧ Below W.heap.size W w' :=
  ShapesPlays_any c vi vm W hi hm hw nm ds ⟨⟨h1, h2⟩, h3⟩

theorem shapesPlays_own : ownKnob Tryz.prog.godebug = none := by kernel_rfl
theorem shapesPlays_laidOut : laidOutB Tryz.prog = true := by kernel_rfl

set_option linter.unusedVariables false in
set_option maxRecDepth 100000 in
theorem shapesPlays_lifted (os : Os) (started : os.Started) (H : Type) (enc : TypeId × Value → H) :
    ReturnsInHanded {} Tryz.checked os 3 .any (fun w args => (Rows.shapesPlaysSpec.pre enc Tryz.prog Tryz.f3 [] false w args ∧ laidMetH Tryz.prog Rows.shapesPlaysRow.laid w) ∧ sizedMet enc Tryz.prog Tryz.f3 (OpenSpec.ofChange Rows.shapesPlaysSpec) false w args)
      (Rows.shapesPlaysSpec.post enc Tryz.prog Tryz.f3 false true false false) := by
  refine returnsInHanded_of_change_and (C := Tryz.checked) (X := fun w _ => laidMetH Tryz.prog Rows.shapesPlaysRow.laid w) (fun _ _ _ hh h => h.of_heap hh) shapesPlays_own started (by kernel_rfl) Tryz.func3
    (ChangeSpec.witness_shaped (enc := enc) (C := Tryz.checked) (os := os) (X := fun w _ => laidMetH Tryz.prog Rows.shapesPlaysRow.laid w) false (World.laidAll Tryz.prog os Rows.shapesPlaysRow.laid) #[.agg #[.string ByteArray.empty, .string ByteArray.empty, .slice none 0 0, .int .i64 0, .int .i64 0, .slice none 0 0], .string ByteArray.empty, .string ByteArray.empty] 8 (World.laidAll_os _ _ _)
      (World.shaped_of_ZipB (by kernel_rfl) (by kernel_rfl)) (by kernel_rfl) (by kernel_rfl) (by kernel_rfl)
      (by rw [MakeChecks.laidMetH_plain _ _ _ (by kernel_rfl)]; exact laidMet_laidAll _ (by kernel_rfl) (by kernel_rfl))) ?_
  intro W base args ds gs before hval0 hW _ hR hL _
  have hval : ∀ (j : Nat) t v, Tryz.f3.params[j]? = some t → args[j]? = some v → Value.okWide Tryz.prog W .any base t v := hval0
  have hW' := hW
  obtain ⟨p, q, hA0, hV, rfl, _, _⟩ := hW
  have hA : DataW.TrodAll enc Tryz.prog W 0 (fun _ => true) true Tryz.f3.params.toList args.toList ds p := hA0
  rw [Tryz.params3] at hA hval
  obtain ⟨v0, vs0, d0, ds0, p0, q0, hargs0, rfl, rfl, h0, r0⟩ := trodAll_cons hA
  obtain ⟨v1, vs1, d1, ds1, p1, q1, hargs1, rfl, rfl, h1, r1⟩ := trodAll_cons r0
  obtain ⟨v2, vs2, d2, ds2, p2, q2, hargs2, rfl, rfl, h2, r2⟩ := trodAll_cons r1
  obtain ⟨rfl, rfl, rfl⟩ := trodAll_nil r2
  obtain rfl : args = #[v0, v1, v2] := by cases args; simp_all
  obtain ⟨rfl, rfl⟩ := trodVars_none hV
  have k0 := h0
  have lt0 : ∀ x ∈ p0, x.block < W.heap.size := by obtain ⟨m, hm⟩ := k0; exact DataW.trod_lt m _ _ _ hm
  obtain ⟨c0, vi0, vm0, rfl, uI0, uM0, uW0⟩ := arg_cls (hval 0 25 v0 rfl rfl) h0
  obtain ⟨a1, rfl, rfl, rfl, w1⟩ := open_string Tryz.underlying9 (hval 1 9 v1 rfl rfl) h1
  obtain ⟨a2, rfl, rfl, rfl, w2⟩ := open_string Tryz.underlying9 (hval 2 9 v2 rfl rfl) h2
  rw [MakeChecks.laidMetH_plain _ _ _ (by kernel_rfl)] at hL
  have hF0 := words_in (Lib.laidMet.reads hL (n := "arbiter/code.words") (d := Rows.laid_arbiter_code_words) (by simp [Rows.shapesPlaysRow]))
  have hF1 := ten_in (Lib.laidMet.reads hL (n := "internal/strconv.uint64pow10") (d := Rows.laid_internal_strconv_uint64pow10) (by simp [Rows.shapesPlaysRow]))
  have hF2 := Fl.words_in (Lib.laidMet.reads hL (n := "arbiter/flags.words") (d := Rows.laid_arbiter_flags_words) (by simp [Rows.shapesPlaysRow]))
  clear hL hA0 hval0
  have hZ1 : a1.size ≤ 140737488351232 := by
    have := sized_string (j := 1) (t := 9) hR (by simp [Tryz.params3]) rfl
    simpa [reachBytes] using this
  have hZ2 : a2.size ≤ 140737488351232 := by
    have := sized_string (j := 2) (t := 9) hR (by simp [Tryz.params3]) rfl
    simpa [reachBytes] using this
  refine (shapesPlays_walk c0 vi0 vm0 uI0 uM0 uW0 a1 w1 a2 w2 hF0 hF1 hF2 hZ1 hZ2).mono fun e W' ⟨he, bel⟩ => ?_
  subst he
  exact ⟨_, rfl, _, _, _, [], _, [], hW', trodAll_mk1 (shut_bool Tryz.underlying4 _), trodAll_cons_mk (Below.trod shapesPlays_laidOut (by kernel_rfl) (of_decide_eq_true (by kernel_rfl)) k0 bel lt0) (trodAll_cons_mk (shut_string Tryz.underlying9 w1) (trodAll_cons_mk (shut_string Tryz.underlying9 w2) trodAll_mk0)), rfl, bel.frame _, fun h => by cases h⟩

theorem shapesPlays_over : Rows.shapesPlaysRow.holds Tryz.pinned (OpenSpec.ofChange Rows.shapesPlaysSpec) :=
  OpenClaim.holds_of_wide 3 Tryz.f3 rfl rfl rfl rfl rfl rfl rfl ⟨rfl, rfl, rfl, rfl, rfl⟩ rfl rfl rfl rfl rfl (by kernel_rfl) Tryz.func3 (by kernel_rfl)
    (of_decide_eq_true (by kernel_rfl)) (by unfold Func.isWrapper; first | (rw [if_pos (by decide +kernel)]; kernel_rfl) | (rw [if_neg (by decide +kernel)]; exact ⟨rfl, rfl⟩))
    (fun os started H enc _ => shapesPlays_lifted os started H enc)

/-- THE STATEMENT -/
theorem shapesPlays_holds : Rows.ShapesPlaysCardSaid :=
  Claim7.holds_tied_plain_at .later [] [.data, .data, .data, .data, .data] true (true, "e2afab809662283f3a5ade8fe50a10d9adbccb673daa832941dfaad6c06e4073") true shapesPlays_over (fun _ h => by cases h) (by kernel_rfl) (fun _ h => by cases h) shapesPlays_row_tie rfl ⟨rfl, rfl⟩ (by kernel_rfl) rfl
    (fun f fn hf hfn => by
      obtain rfl : f = 3 := Option.some.inj ((show Tryz.prog.funcNamed "arbiter/arbiterlaw05.ShapesPlays" = some 3 by kernel_rfl).symm.trans hf) |>.symm
      obtain rfl : fn = Tryz.f3 := (Option.some.inj (Tryz.func3.symm.trans hfn)).symm
      exact ⟨by kernel_rfl, fun j t ht => by
        rw [Tryz.params3] at ht
        have hm : t ∈ [25, 9, 9] := by simpa using Array.mem_of_getElem? ht
        have hall : ([25, 9, 9].all fun u => !Tryz.prog.wantsStandIn u) = true := by kernel_rfl
        exact (show Tryz.prog.wantsStandIn t = false by simpa using List.all_eq_true.1 hall t hm)⟩)
    (by kernel_rfl)
#print axioms shapesPlays_holds

end Go.Proofs.YtfbhjfpkhofifaaGreatDoor
