/- ResolveGrows: for every list of classes, every class, every number and every reference: what Method answers is the same once the class has been given to Define, where it was neither a number out of range nor a class that is not there. No condition. -/
import Derived.Test.YtgppadlkollfaaaGreatRows
import Derived.Test.YtgppadlkollfaaaGreatLzE
import Derived.Test.YtgppadlkollfaaaGreatArgC
import Derived.Lib.SmallJoins
import Derived.WalkKit
import Derived.ProofKit
import Derived.OpenShut
import Derived.Carry
namespace Go.Proofs.YtgppadlkollfaaaGreat
open Go.ChangeShapes Go.WideShapes Go.ChangeAt Go.RowKit Go.Joins

theorem resolveGrows_own : ownKnob Tryz.prog.godebug = none := by kernel_rfl
theorem resolveGrows_laidOut : laidOutB Tryz.prog = true := by kernel_rfl
theorem resolveGrows_cR : Tryz.prog.cellsOf 63 = 4 := by kernel_rfl
/-- a list of classes among the arguments -/
theorem resolveGrows_clss {H : Type} {enc : TypeId × Value → H} {W : World} {v0 : Value} {d : DataW H} {p : List MemPlace} (hv : v0.cells.toList = [v0]) (h : DataW.Trod enc Tryz.prog W 0 (fun _ => true) true 22 v0 d p) : ∃ l : List Cls, IsClss W v0 l := by
  obtain ⟨fuel, hf⟩ := h
  obtain ⟨v, l, e, r⟩ := read_clss hf
  rw [hv] at e
  simp at e
  subst e
  exact ⟨l, r⟩

set_option linter.unusedVariables false in
set_option maxRecDepth 100000 in
theorem resolveGrows_lifted (os : Os) (started : os.Started) (H : Type) (enc : TypeId × Value → H) :
    ReturnsInHanded {} Tryz.checked os 11 .any (Rows.resolveGrowsSpec.pre6 enc Tryz.prog Tryz.f11 Rows.resolveGrowsRow.domain false) (Rows.resolveGrowsSpec.post enc Tryz.prog Tryz.f11 false true false false) := by
  refine returnsInHanded_of_change (C := Tryz.checked) resolveGrows_own started (by kernel_rfl) Tryz.func11
    (ChangeSpec.witness6 (enc := enc) (C := Tryz.checked) false ⟨#[], #[.slice none 0 0, .agg #[.string ByteArray.empty, .string ByteArray.empty, .slice none 0 0, .int .i64 0, .int .i64 0, .slice none 0 0], .int .i64 0, .agg #[.bool false, .string ByteArray.empty, .string ByteArray.empty, .string ByteArray.empty]], []⟩ 8 (by kernel_rfl) (by kernel_rfl) (by kernel_rfl) (by kernel_rfl)) ?_
  intro W base args ds gs before hval0 hW hcnd _
  have hval : ∀ (j : Nat) t v, Tryz.f11.params[j]? = some t → args[j]? = some v → Value.okWide Tryz.prog W .any base t v := hval0
  have hW' := hW
  obtain ⟨p, q, hA0, hV, rfl, hfz, hnd⟩ := hW
  have hA : DataW.TrodAll enc Tryz.prog W 0 (fun _ => true) true Tryz.f11.params.toList args.toList ds p := hA0
  rw [Tryz.params11] at hA hval
  obtain ⟨v0, vs0, d0, ds0, p0, q0, hargs, rfl, rfl, h0, r0⟩ := trodAll_cons hA
  obtain ⟨v1, vs1, d1, ds1, p1, q1, rfl, rfl, rfl, h1, r1⟩ := trodAll_cons r0
  obtain ⟨v2, vs2, d2, ds2, p2, q2, rfl, rfl, rfl, h2, r2⟩ := trodAll_cons r1
  obtain ⟨v3, vs3, d3, ds3, p3, q3, rfl, rfl, rfl, h3, r3⟩ := trodAll_cons r2
  obtain ⟨rfl, rfl, rfl⟩ := trodAll_nil r3
  obtain rfl : args = #[v0, v1, v2, v3] := by rw [← Array.toList_inj]; exact hargs
  obtain ⟨rfl, rfl⟩ := trodVars_none hV
  have k0 := h0
  have lt0 : ∀ x ∈ p0, x.block < W.heap.size := by obtain ⟨m, hm⟩ := k0; exact DataW.trod_lt m _ _ _ hm
  have hs0 := hval 0 22 v0 rfl rfl
  have k1 := h1
  have lt1 : ∀ x ∈ p1, x.block < W.heap.size := by obtain ⟨m, hm⟩ := k1; exact DataW.trod_lt m _ _ _ hm
  have hs1 := hval 1 79 v1 rfl rfl
  have k2 := h2
  have lt2 : ∀ x ∈ p2, x.block < W.heap.size := by obtain ⟨m, hm⟩ := k2; exact DataW.trod_lt m _ _ _ hm
  have hs2 := hval 2 3 v2 rfl rfl
  have k3 := h3
  have lt3 : ∀ x ∈ p3, x.block < W.heap.size := by obtain ⟨m, hm⟩ := k3; exact DataW.trod_lt m _ _ _ hm
  have hs3 := hval 3 63 v3 rfl rfl
  obtain ⟨l0, hl0⟩ := resolveGrows_clss (by obtain ⟨ao, n1, n2, rfl⟩ := okWide_slice Tryz.underlying22 hs0; rfl) h0
  obtain ⟨kc1, ki1, km1, rfl, kh1⟩ := arg_cls hs1 h1
  obtain ⟨n2, rfl⟩ := okWide_int Tryz.underlying3 hs2
  obtain ⟨a3, b3, c3, g3, y3, z3, x3, q3, m3, rfl, rfl, rfl, hy3, hz3, hx3, hq3⟩ := open_agg4 Tryz.underlying63 (by kernel_rfl) resolveGrows_cR hs3 h3
  obtain ⟨i3, e3, rfl⟩ := DataW.trod_bool Tryz.underlying4 hy3
  obtain ⟨s3, es3, rfl, ws3⟩ := DataW.trod_string Tryz.underlying9 hz3
  obtain ⟨t3, et3, rfl, wt3⟩ := DataW.trod_string Tryz.underlying9 hx3
  obtain ⟨u3, eu3, rfl, wu3⟩ := DataW.trod_string Tryz.underlying9 hq3
  simp at e3 es3 et3 eu3
  subst e3 es3 et3 eu3
  clear hA0 hval0
  simp only [List.append_nil] at hW'
  refine (ResolveGrows_any v0 l0 kc1 ki1 km1 n2 i3 s3 t3 u3 W hl0 kh1 ws3 wt3 wu3).mono fun e W' ⟨he, bel⟩ => ?_
  subst he
  have tr := (trodAll_cons_mk (Below.trod resolveGrows_laidOut (by kernel_rfl) (of_decide_eq_true (by kernel_rfl)) k0 bel lt0) ((trodAll_cons_mk (Below.trod resolveGrows_laidOut (by kernel_rfl) (of_decide_eq_true (by kernel_rfl)) k1 bel lt1) ((trodAll_cons_mk (Below.trod resolveGrows_laidOut (by kernel_rfl) (of_decide_eq_true (by kernel_rfl)) k2 bel lt2) (trodAll_mk1 (Below.trod resolveGrows_laidOut (by kernel_rfl) (of_decide_eq_true (by kernel_rfl)) k3 bel lt3)))))))
  try simp only [List.append_nil] at tr
  exact ⟨_, rfl, _, _, _, [], _, [], hW', trodAll_mk1 (shut_bool Tryz.underlying4 _), tr, rfl, bel.frame _, fun h => by cases h⟩

theorem resolveGrows_and {a b : Bool} (h1 : a = true) (h2 : b = true) : (a && b) = true := by rw [h1, h2]; rfl
theorem resolveGrows_k2 : mapsRowed Tryz.prog = true := by kernel_rfl
theorem resolveGrows_k10 : (Rows.resolveGrowsRow.inPlace == Tryz.prog.inPlace 11) = true := by kernel_rfl
theorem resolveGrows_k11 : (Rows.resolveGrowsRow.unfollowed == Tryz.prog.unfollowed 11) = true := by kernel_rfl
theorem resolveGrows_k12 : (Rows.resolveGrowsRow.recurses == Tryz.prog.recurses 11) = true := by kernel_rfl
theorem resolveGrows_k13 : (Rows.resolveGrowsRow.named == Tryz.prog.varsNamed 11) = true := by kernel_rfl
/-- the row's facts of the program, one by one: each is cheap, all at once are not -/
theorem resolveGrows_closed : joinedFacts Tryz.prog 11 Tryz.f11 Rows.resolveGrowsSpec Rows.resolveGrowsRow = true := by
  unfold joinedFacts
  refine resolveGrows_and (resolveGrows_and (resolveGrows_and (resolveGrows_and (resolveGrows_and (resolveGrows_and (resolveGrows_and (resolveGrows_and (resolveGrows_and (resolveGrows_and (resolveGrows_and (resolveGrows_and (resolveGrows_and (resolveGrows_and (resolveGrows_and (resolveGrows_and (resolveGrows_and (resolveGrows_and (resolveGrows_and (resolveGrows_and (resolveGrows_and (resolveGrows_and (resolveGrows_and (resolveGrows_and (resolveGrows_and (resolveGrows_and (resolveGrows_and (resolveGrows_and (resolveGrows_and (resolveGrows_and (resolveGrows_and ?_ resolveGrows_laidOut) resolveGrows_k2) ?_) ?_) ?_) ?_) ?_) ?_) resolveGrows_k10) resolveGrows_k11) resolveGrows_k12) resolveGrows_k13) ?_) ?_) ?_) ?_) ?_) ?_) ?_) ?_) ?_) ?_) ?_) ?_) ?_) ?_) ?_) ?_) ?_) ?_) ?_
  all_goals kernel_rfl
theorem resolveGrows_over : Rows.resolveGrowsRow.holds Tryz.pinned (OpenSpec.ofChange Rows.resolveGrowsSpec) :=
  OpenClaim.holds_of_wide 11 Tryz.f11 rfl rfl rfl rfl rfl rfl rfl ⟨rfl, rfl, rfl, rfl, rfl⟩ rfl rfl rfl rfl rfl (by kernel_rfl) Tryz.func11 resolveGrows_closed
    (of_decide_eq_true (by kernel_rfl)) (by unfold Func.isWrapper; first | (rw [if_pos (by decide +kernel)]; kernel_rfl) | (rw [if_neg (by decide +kernel)]; exact ⟨rfl, rfl⟩))
    (fun os started H enc _ => resolveGrows_lifted os started H enc)

/-- THE STATEMENT -/
theorem resolveGrows_holds : Rows.ResolveGrowsSaid :=
  resolveGrows_over
#print axioms resolveGrows_holds

end Go.Proofs.YtgppadlkollfaaaGreat
