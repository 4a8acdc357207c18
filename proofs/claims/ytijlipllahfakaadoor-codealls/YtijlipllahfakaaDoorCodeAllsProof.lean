/- Proved: for every list of instructions (any length, any spare room) and every int the law CodeAlls answers true, and leaves what it was handed as it was, where the package's variable 'words' and the library's table of powers of ten hold what their own initialisers lay (the card ties them to the program's text); math/bits' two tables are listed besides, and no run reads them. -/
import Derived.Test.YtijlipllahfakaaDoorLawF
import Derived.Test.YtijlipllahfakaaDoorArgI
import Derived.Test.YtijlipllahfakaaDoorLaid
import Derived.Test.YtijlipllahfakaaDoorCards
import Derived.Test.YtijlipllahfakaaDoorTie
import Derived.ProofKit
import Derived.Lay
import Derived.SevenTiedAt
namespace Go.Proofs.YtijlipllahfakaaDoor
open Go.RowKit

set_option maxRecDepth 100000 in
set_option maxHeartbeats 8000000 in
theorem CodeAlls_any (v : Value) (l : List Ins) {W : World} (h : IsInss W v l) (hsrc : (v = .slice none 0 0 ∧ l.length = 0) ∨ ∃ ad c, v = .slice (some ad) l.length c ∧ ∀ j u, (flatI l)[j]? = some u → W.cell? (ad.add j) = some u) (hok : ∀ i ∈ l, InsOK i) (locals : Int) (hG : GIn W) (hz : l.length * 88 ≤ 140737488351232) :
    Calls Tryd.prog 5 #[v, .int .i64 locals] W fun e w' => e = .returned (.bool true) ∧ Below W.heap.size W w' := by
  obtain ⟨i25, hi25, hz0, hz1, hz2⟩ := info_parts Tryd.info25
  have HA : Hid (∀ w, GIn w → _) := awake_any
  have HG : Hid (GIn W) := hG
  have HI : Hid (IsInss W v l) := h
  have HSRC : Hid (∀ w', Below W.heap.size W w' → (v = .slice none 0 0 ∧ l.length = 0) ∨ ∃ ad c, v = .slice (some ad) l.length c ∧ ∀ j u, (flatI l)[j]? = some u → w'.cell? (ad.add j) = some u) := fun w' hb => by
    rcases hsrc with h1 | ⟨ad, c, h1, h2⟩
    · exact .inl h1
    · exact .inr ⟨ad, c, h1, fun j u hj => (hb.cell (World.block_lt_of_cell? W _ (h2 j u hj))).trans (h2 j u hj)⟩
  have HFL : Hid _ := flatI_length l
  have HC : Hid (∀ (x : Value) (w : World), IsInss w x l → Calls Tryd.prog 23 #[x, .int .i64 locals] w fun e w' => e = .returned (.int .i64 (allE l locals)) ∧ Below w.heap.size w w') := fun x w hx => checkAll_any x l locals w hx hok
  have HR : Hid (∀ (x : Value) (w : World), IsInss w x l → Calls Tryd.prog 24 #[x, .int .i64 locals] w fun e w' => e = .returned (.int .i64 (allE l locals)) ∧ Below w.heap.size w w') := fun x w hx => rCheckAll_any x l locals w hx hok
  have HS : Hid (∀ (x y : Value) (w : World), IsInss w x l → IsInss w y l → Calls Tryd.prog 25 #[x, y] w fun e w' => e = .returned (.bool true) ∧ Below w.heap.size w w') := fun x y w hx hy => by
    have := rSameCode_any x y l l w hx hy
    rw [sameL_self] at this
    exact this
  obtain ⟨ao, cap0, rfl⟩ := inss_slice h
  generalize allE l locals = ae at *
  have hae : (ae == ae) = true := by simp
  clear h hsrc hok hG
  go_enter Tryd.func5, Tryd.ntmps5
  go_wp2_with (first
    | (go_at_call 8; refine (HA.out _ HG.out).mono ?_; rintro e w8 ⟨rfl, hb8⟩; have B8 : Hid (Below W.heap.size W w8) := hb8; clear hb8)
    | (at_builtin; refine wpList_append_opt _ rfl _ _ 40 rfl W.heap.size 25 i25 (.agg #[.int .i64 0, .int .i64 0, .string ⟨#[]⟩, .bool false, .string ⟨#[]⟩, .string ⟨#[]⟩, .string ⟨#[]⟩]) 7 88 Tryd.underlying40 hi25 hz0 hz1 hz2 rfl (by decide) _ _ _ rfl (empty_own w8 _ B8.out.size) (.slice ao l.length cap0) l.length (flatI l) rfl HFL.out ?c0 ?c2 ?c3 ?c4 ?c5 ?_))
  case c0 => exact HSRC.out _ (B8.out.alloc B8.out.size _)
  case c2 => exact flatI_one l
  case c3 => unfold maxLen; omega
  case c4 => omega
  case c5 => have := B8.out.size; simp; omega
  intro v1 wA ho1 hg1
  have BA : Hid (Below W.heap.size W wA) := (B8.out.alloc B8.out.size _).grown hg1 (by have := B8.out.size; simp; omega) (fun k e => by have := B8.out.size; simp [Value.ownBlock] at e; omega)
  have zA := BA.out.size
  clear hg1 B8 HSRC
  go_wp2_with (at_builtin; refine wpList_append_own _ rfl _ _ 40 rfl W.heap.size 25 i25 (.agg #[.int .i64 0, .int .i64 0, .string ⟨#[]⟩, .bool false, .string ⟨#[]⟩, .string ⟨#[]⟩, .string ⟨#[]⟩]) 7 88 Tryd.underlying40 hi25 hz0 hz1 hz2 rfl (by decide) _ _ _ rfl (ho1.alloc _) ⟨wA.heap.size, 0, none⟩ 2 2 [.int .i64 (-71), .int .i64 0, .string ⟨#[]⟩, .bool false, .string ⟨#[]⟩, .string ⟨#[]⟩, .string ⟨#[]⟩, .int .i64 (-72), .int .i64 0, .string ⟨#[]⟩, .bool false, .string ⟨#[]⟩, .string ⟨#[]⟩, .string ⟨#[]⟩] rfl rfl ?e1 ?e2 ?e3 ?e4 ?e5 ?_)
  case e1 => exact new_cells wA [.int .i64 (-71), .int .i64 0, .string ⟨#[]⟩, .bool false, .string ⟨#[]⟩, .string ⟨#[]⟩, .string ⟨#[]⟩, .int .i64 (-72), .int .i64 0, .string ⟨#[]⟩, .bool false, .string ⟨#[]⟩, .string ⟨#[]⟩, .string ⟨#[]⟩] 25
  case e2 => exact flatI_one marks
  case e3 => unfold maxLen; omega
  case e4 => omega
  case e5 => simp; omega
  intro v2 wB ho2 hg2 _
  obtain ⟨g, cap, rfl⟩ : ∃ g cap, v2 = .slice (some ⟨g, 0, none⟩) (l.length + 2) cap := by
    rcases ho2.2 with ⟨_, h0⟩ | ⟨g, cap, cur, q, _⟩
    · omega
    · exact ⟨g, cap, by rw [q]⟩
  have DS : Hid (Ws W l marks g cap wB) := by
    refine ⟨?_, (BA.out.alloc zA _).grown hg2 (by simp; omega) (fun k e => (ho1.lt k e).1)⟩
    have e : flatI (l ++ marks) = flatI l ++ [.int .i64 (-71), .int .i64 0, .string ⟨#[]⟩, .bool false, .string ⟨#[]⟩, .string ⟨#[]⟩, .string ⟨#[]⟩, .int .i64 (-72), .int .i64 0, .string ⟨#[]⟩, .bool false, .string ⟨#[]⟩, .string ⟨#[]⟩, .string ⟨#[]⟩] := by simp [flatI, marks, insC]
    rw [e]
    exact ho2
  clear ho1 ho2 hg2 BA zA
  obtain ⟨hcl, hcm⟩ := DS.out.caps
  simp only [marks, List.length_cons, List.length_nil] at hcl
  unfold maxLen at hcm
  obtain ⟨zB1, zB2⟩ := DS.out.size
  obtain ⟨p, hpn⟩ : ∃ p, p = l.length + 1 := ⟨_, rfl⟩
  have hp : (l.length : Int) + 1 = (p : Int) := by omega
  have hp2 : p < l.length + 2 := by omega
  have HPN : Hid _ := hpn
  have HM : Hid (∀ wr, Ws W l marks g cap wr → wr.cell? ⟨g, l.length * 7, none⟩ = some (.int .i64 (-71)) ∧ wr.cell? ⟨g, p * 7, none⟩ = some (.int .i64 (-72))) := fun wr h => by
    refine ⟨(h.cell l.length _ (by simp [marks]; rfl)).1, ?_⟩
    rw [hpn]
    exact (h.cell (l.length + 1) _ (by simp [marks]; rfl)).1
  clear hpn
  go_wp2_with (first
    | (go_at_call 23; refine (HC.out _ _ DS.out.inss).mono ?_; rintro e wC ⟨rfl, hbC⟩; have DC : Hid (Ws W l marks g cap wC) := DS.out.keep hbC; clear hbC)
    | (go_at_call 24; refine (HR.out _ _ (HI.out.keep DC.out.bel)).mono ?_; rintro e wD ⟨rfl, hbD⟩; have DD : Hid (Ws W l marks g cap wD) := DC.out.keep hbD; clear hbD)
    | (go_at_call 25; refine (HS.out _ _ _ DD.out.inss (HI.out.keep DD.out.bel)).mono ?_; rintro e wE ⟨rfl, hbE⟩; have DE : Hid (Ws W l marks g cap wE) := DD.out.keep hbE; clear hbE; obtain ⟨m1, m2⟩ := HM.out _ DE.out))
  go_ret
  exact ⟨rfl, DE.out.bel⟩

end Go.Proofs.YtijlipllahfakaaDoor

namespace Go.Proofs.YtijlipllahfakaaDoor
open Go.RowKit Go.ChangeShapes Go.WideShapes Go.ChangeAt Go.ChangeMaps

theorem codeAlls_walk (v : Value) (l : List Ins) {W : World} (h : IsInss W v l) (hv : (v = .slice none 0 0 ∧ l.length = 0) ∨ ∃ ad c, v = .slice (some ad) l.length c ∧ ∀ j u, (flatI l)[j]? = some u → W.cell? (ad.add j) = some u) (hok : ∀ i ∈ l, InsW i) (locals : Int) (_ : (Lit.int .i64 locals).wf = true) (h1 : WordsIn W) (h2 : TenIn W) (hz : l.length * 88 ≤ 140737488351232) : Calls Tryd.prog 5 #[v, .int .i64 locals] W fun e w' => e = .returned (.bool true) ∧ Below W.heap.size W w' :=
  CodeAlls_any v l h hv (fun i hi => (hok i hi).2) locals ⟨h1, h2⟩ hz

theorem codeAlls_own : ownKnob Tryd.prog.godebug = none := by kernel_rfl
theorem codeAlls_laidOut : laidOutB Tryd.prog = true := by kernel_rfl

set_option linter.unusedVariables false in
set_option maxRecDepth 100000 in
theorem codeAlls_lifted (os : Os) (started : os.Started) (H : Type) (enc : TypeId × Value → H) :
    ReturnsInHanded {} Tryd.checked os 5 .any (fun w args => (Rows.codeAllsSpec.pre enc Tryd.prog Tryd.f5 [] false w args ∧ laidMetH Tryd.prog Rows.codeAllsRow.laid w) ∧ sizedMet enc Tryd.prog Tryd.f5 (OpenSpec.ofChange Rows.codeAllsSpec) false w args)
      (Rows.codeAllsSpec.post enc Tryd.prog Tryd.f5 false true false false) := by
  refine returnsInHanded_of_change_and (C := Tryd.checked) (X := fun w _ => laidMetH Tryd.prog Rows.codeAllsRow.laid w) (fun _ _ _ hh h => h.of_heap hh) codeAlls_own started (by kernel_rfl) Tryd.func5
    (ChangeSpec.witness_shaped (enc := enc) (C := Tryd.checked) (os := os) (X := fun w _ => laidMetH Tryd.prog Rows.codeAllsRow.laid w) false (World.laidAll Tryd.prog os Rows.codeAllsRow.laid) #[.slice none 0 0, .int .i64 0] 8 (World.laidAll_os _ _ _)
      (World.shaped_of_ZipB (by kernel_rfl) (by kernel_rfl)) (by kernel_rfl) (by kernel_rfl) (by kernel_rfl)
      (by rw [MakeChecks.laidMetH_plain _ _ _ (by kernel_rfl)]; exact laidMet_laidAll _ (by kernel_rfl) (by kernel_rfl))) ?_
  intro W base args ds gs before hval0 hW _ hR hL _
  have hval : ∀ (j : Nat) t v, Tryd.f5.params[j]? = some t → args[j]? = some v → Value.okWide Tryd.prog W .any base t v := hval0
  have hW' := hW
  obtain ⟨p, q, hA0, hV, rfl, _, _⟩ := hW
  have hA : DataW.TrodAll enc Tryd.prog W 0 (fun _ => true) true Tryd.f5.params.toList args.toList ds p := hA0
  have hR1 : (DataW.weightsEach Tryd.prog (Tryd.f5.params.toList ++ Rows.codeAllsSpec.plain.varTypes Tryd.prog) (ds ++ gs)).all (· ≤ reachBytes) = true := hR
  rw [Tryd.params5] at hA hval hR1
  obtain ⟨v0, vs0, d0, ds0, p0, q0, hargs0, rfl, rfl, h0, r0⟩ := trodAll_cons hA
  obtain ⟨v1, vs1, d1, ds1, p1, q1, hargs1, rfl, rfl, h1, r1⟩ := trodAll_cons r0
  obtain ⟨rfl, rfl, rfl⟩ := trodAll_nil r1
  obtain rfl : args = #[v0, v1] := by cases args; simp_all
  obtain ⟨rfl, rfl⟩ := trodVars_none hV
  have k0 := h0
  have lt0 : ∀ x ∈ p0, x.block < W.heap.size := by obtain ⟨m, hm⟩ := k0; exact DataW.trod_lt m _ _ _ hm
  have hs0 := hval 0 40 v0 rfl rfl
  obtain ⟨l0, u0, x0, y0, z0⟩ := arg_inss (by obtain ⟨ao, n1, n2, rfl⟩ := okWide_slice Tryd.underlying40 hs0; rfl) h0
  obtain ⟨a1, rfl, rfl, rfl, w1⟩ := open_int Tryd.underlying3 (hval 1 3 v1 rfl rfl) h1
  rw [MakeChecks.laidMetH_plain _ _ _ (by kernel_rfl)] at hL
  have hF0 := words_in (Lib.laidMet.reads hL (n := "arbiter/code.words") (d := Rows.laid_arbiter_code_words) (by simp [Rows.codeAllsRow]))
  have hF1 := ten_in (Lib.laidMet.reads hL (n := "internal/strconv.uint64pow10") (d := Rows.laid_internal_strconv_uint64pow10) (by simp [Rows.codeAllsRow]))
  clear hL hA0 hval0
  have hZ0 := inss_reach hR1 z0
  refine (codeAlls_walk v0 l0 u0 x0 y0 a1 w1 hF0 hF1 hZ0).mono fun e W' ⟨he, bel⟩ => ?_
  subst he
  exact ⟨_, rfl, _, _, _, [], _, [], hW', trodAll_mk1 (shut_bool Tryd.underlying4 _), trodAll_cons_mk (Below.trod codeAlls_laidOut (by kernel_rfl) (of_decide_eq_true (by kernel_rfl)) k0 bel lt0) (trodAll_cons_mk (shut_int Tryd.underlying3 w1) trodAll_mk0), rfl, bel.frame _, fun h => by cases h⟩

theorem codeAlls_over : Rows.codeAllsRow.holds Tryd.pinned (OpenSpec.ofChange Rows.codeAllsSpec) :=
  OpenClaim.holds_of_wide 5 Tryd.f5 rfl rfl rfl rfl rfl rfl rfl ⟨rfl, rfl, rfl, rfl, rfl⟩ rfl rfl rfl rfl rfl (by kernel_rfl) Tryd.func5 (by kernel_rfl)
    (of_decide_eq_true (by kernel_rfl)) (by unfold Func.isWrapper; first | (rw [if_pos (by decide +kernel)]; kernel_rfl) | (rw [if_neg (by decide +kernel)]; exact ⟨rfl, rfl⟩))
    (fun os started H enc _ => codeAlls_lifted os started H enc)

/-- THE STATEMENT -/
theorem codeAlls_holds : Rows.CodeAllsCardSaid :=
  Claim7.holds_tied_plain_at .later [] [.data, .data, .data, .data] true (true, "e55e02564b72d465861a8de70d0fca1f71fe2c5b5ccef684c80d09ac78c6674e") true codeAlls_over (fun _ h => by cases h) (by kernel_rfl) (fun _ h => by cases h) codeAlls_row_tie rfl ⟨rfl, rfl⟩ (by kernel_rfl) rfl
    (fun f fn hf hfn => by
      obtain rfl : f = 5 := Option.some.inj ((show Tryd.prog.funcNamed "arbiter/arbiterlaw04.CodeAlls" = some 5 by kernel_rfl).symm.trans hf) |>.symm
      obtain rfl : fn = Tryd.f5 := (Option.some.inj (Tryd.func5.symm.trans hfn)).symm
      exact ⟨by kernel_rfl, fun j t ht => by
        rw [Tryd.params5] at ht
        have hm : t ∈ [40, 3] := by simpa using Array.mem_of_getElem? ht
        have hall : ([40, 3].all fun u => !Tryd.prog.wantsStandIn u) = true := by kernel_rfl
        exact (show Tryd.prog.wantsStandIn t = false by simpa using List.all_eq_true.1 hall t hm)⟩)
    (by kernel_rfl)
#print axioms codeAlls_holds

end Go.Proofs.YtijlipllahfakaaDoor

