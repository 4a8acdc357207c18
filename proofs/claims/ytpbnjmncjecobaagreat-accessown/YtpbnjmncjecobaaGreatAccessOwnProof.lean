/- AccessOwn: for every list of classes, whatever comes of each when it arrives, every two numbers, every number of a method and every number of a class that is named: a class's own methods are open to it by its own name, what is public is open to all, a private method to its class alone, what has no word to no other package, and what is open by a package is so for all classes of it (P8.4): the law returns true, and what was handed in reads as it did. No condition. -/
import Derived.Test.YtpbnjmncjecobaaGreatRows
import Derived.Test.YtpbnjmncjecobaaGreatLwC
import Derived.Test.YtpbnjmncjecobaaGreatArgC
import Derived.Lib.SmallJoins
import Derived.WalkKit
import Derived.ProofKit
import Derived.OpenShut
import Derived.Carry
namespace Go.Proofs.YtpbnjmncjecobaaGreat
open Go.ChangeShapes Go.WideShapes Go.ChangeAt Go.RowKit Go.Joins

theorem accessOwn_own : ownKnob Tryz.prog.godebug = none := by kernel_rfl
theorem accessOwn_laidOut : laidOutB Tryz.prog = true := by kernel_rfl
theorem accessOwn_cM : Tryz.prog.cellsOf 62 = 2 := by kernel_rfl
/-- a list of classes among the arguments -/
theorem accessOwn_clss {H : Type} {enc : TypeId × Value → H} {W : World} {v0 : Value} {d : DataW H} {p : List MemPlace} (hv : v0.cells.toList = [v0]) (h : DataW.Trod enc Tryz.prog W 0 (fun _ => true) true 22 v0 d p) : ∃ l : List Cls, IsClss W v0 l := by
  obtain ⟨fuel, hf⟩ := h
  obtain ⟨v, l, e, r⟩ := read_clss hf
  rw [hv] at e
  simp at e
  subst e
  exact ⟨l, r⟩

set_option linter.unusedVariables false in
set_option maxRecDepth 100000 in
theorem accessOwn_lifted (os : Os) (started : os.Started) (H : Type) (enc : TypeId × Value → H) :
    ReturnsInHanded {} Tryz.checked os 11 .any (Rows.accessOwnSpec.pre6 enc Tryz.prog Tryz.f11 Rows.accessOwnRow.domain false) (Rows.accessOwnSpec.post enc Tryz.prog Tryz.f11 false true false false) := by
  refine returnsInHanded_of_change (C := Tryz.checked) accessOwn_own started (by kernel_rfl) Tryz.func11
    (ChangeSpec.witness6 (enc := enc) (C := Tryz.checked) false ⟨#[], #[.slice none 0 0, .int .i64 0, .int .i64 0, .agg #[.int .i64 0, .int .i64 0], .int .i64 0], []⟩ 8 (by kernel_rfl) (by kernel_rfl) (by kernel_rfl) (by kernel_rfl)) ?_
  intro W base args ds gs before hval0 hW hcnd _
  have hval : ∀ (j : Nat) t v, Tryz.f11.params[j]? = some t → args[j]? = some v → Value.okWide Tryz.prog W .any base t v := hval0
  have hW' := hW
  obtain ⟨p, q, hA0, hV, rfl, hfz, hnd⟩ := hW
  have hA : DataW.TrodAll enc Tryz.prog W 0 (fun _ => true) true Tryz.f11.params.toList args.toList ds p := hA0
  rw [Tryz.params11] at hA hval
  obtain ⟨v0, vs0, d0, ds0, p0, q0, hargs, rfl, rfl, h0, r0⟩ := trodAll_cons hA
  obtain ⟨v1, vs1, d1, ds1, p1, q1, rfl, rfl, rfl, h1, r1⟩ := trodAll_cons r0
  obtain ⟨v2, vs2, d2, ds2, p2, q2, rfl, rfl, rfl, h2, r2⟩ := trodAll_cons r1
  obtain ⟨v3, vs3, d3, ds3, p3, q3, rfl, rfl, rfl, h3, r3⟩ := trodAll_cons r2
  obtain ⟨v4, vs4, d4, ds4, p4, q4, rfl, rfl, rfl, h4, r4⟩ := trodAll_cons r3
  obtain ⟨rfl, rfl, rfl⟩ := trodAll_nil r4
  obtain rfl : args = #[v0, v1, v2, v3, v4] := by rw [← Array.toList_inj]; exact hargs
  obtain ⟨rfl, rfl⟩ := trodVars_none hV
  have k0 := h0
  have lt0 : ∀ x ∈ p0, x.block < W.heap.size := by obtain ⟨m, hm⟩ := k0; exact DataW.trod_lt m _ _ _ hm
  have hs0 := hval 0 22 v0 rfl rfl
  have k1 := h1
  have lt1 : ∀ x ∈ p1, x.block < W.heap.size := by obtain ⟨m, hm⟩ := k1; exact DataW.trod_lt m _ _ _ hm
  have hs1 := hval 1 3 v1 rfl rfl
  have k2 := h2
  have lt2 : ∀ x ∈ p2, x.block < W.heap.size := by obtain ⟨m, hm⟩ := k2; exact DataW.trod_lt m _ _ _ hm
  have hs2 := hval 2 3 v2 rfl rfl
  have k3 := h3
  have lt3 : ∀ x ∈ p3, x.block < W.heap.size := by obtain ⟨m, hm⟩ := k3; exact DataW.trod_lt m _ _ _ hm
  have hs3 := hval 3 62 v3 rfl rfl
  have k4 := h4
  have lt4 : ∀ x ∈ p4, x.block < W.heap.size := by obtain ⟨m, hm⟩ := k4; exact DataW.trod_lt m _ _ _ hm
  have hs4 := hval 4 3 v4 rfl rfl
  obtain ⟨l0, hl0⟩ := accessOwn_clss (by obtain ⟨ao, n1, n2, rfl⟩ := okWide_slice Tryz.underlying22 hs0; rfl) h0
  obtain ⟨n1, rfl⟩ := okWide_int Tryz.underlying3 hs1
  obtain ⟨n2, rfl⟩ := okWide_int Tryz.underlying3 hs2
  obtain ⟨a3, b3, y3, z3, m3, rfl, rfl, rfl, hy3, hz3⟩ := open_agg2 Tryz.underlying62 (by kernel_rfl) accessOwn_cM hs3 h3
  obtain ⟨i3, e3, rfl, wi3⟩ := DataW.trod_int Tryz.underlying3 hy3
  obtain ⟨s3, f3, rfl, w3⟩ := DataW.trod_int Tryz.underlying3 hz3
  simp at e3 f3
  subst e3 f3
  obtain ⟨n4, rfl⟩ := okWide_int Tryz.underlying3 hs4
  clear hA0 hval0
  simp only [List.append_nil] at hW'
  refine (AccessOwn_any v0 l0 n1 n2 i3 s3 n4 W hl0).mono fun e W' ⟨he, bel⟩ => ?_
  subst he
  have tr := (trodAll_cons_mk (Below.trod accessOwn_laidOut (by kernel_rfl) (of_decide_eq_true (by kernel_rfl)) k0 bel lt0) ((trodAll_cons_mk (Below.trod accessOwn_laidOut (by kernel_rfl) (of_decide_eq_true (by kernel_rfl)) k1 bel lt1) ((trodAll_cons_mk (Below.trod accessOwn_laidOut (by kernel_rfl) (of_decide_eq_true (by kernel_rfl)) k2 bel lt2) ((trodAll_cons_mk (Below.trod accessOwn_laidOut (by kernel_rfl) (of_decide_eq_true (by kernel_rfl)) k3 bel lt3) (trodAll_mk1 (Below.trod accessOwn_laidOut (by kernel_rfl) (of_decide_eq_true (by kernel_rfl)) k4 bel lt4)))))))))
  simp only [List.append_nil] at tr
  exact ⟨_, rfl, _, _, _, [], _, [], hW', trodAll_mk1 (shut_bool Tryz.underlying4 _), tr, rfl, bel.frame _, fun h => by cases h⟩

theorem accessOwn_over : Rows.accessOwnRow.holds Tryz.pinned (OpenSpec.ofChange Rows.accessOwnSpec) :=
  OpenClaim.holds_of_wide 11 Tryz.f11 rfl rfl rfl rfl rfl rfl rfl ⟨rfl, rfl, rfl, rfl, rfl⟩ rfl rfl rfl rfl rfl (by kernel_rfl) Tryz.func11 (by kernel_rfl)
    (of_decide_eq_true (by kernel_rfl)) (by unfold Func.isWrapper; first | (rw [if_pos (by decide +kernel)]; kernel_rfl) | (rw [if_neg (by decide +kernel)]; exact ⟨rfl, rfl⟩))
    (fun os started H enc _ => accessOwn_lifted os started H enc)

/-- THE STATEMENT -/
theorem accessOwn_holds : Rows.AccessOwnSaid :=
  accessOwn_over
#print axioms accessOwn_holds

end Go.Proofs.YtpbnjmncjecobaaGreat
