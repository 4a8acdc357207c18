/-
  For all texts a, b and lists of texts of bulk at most 1048576 together, the Go function arbiterlaw01.NamesPlays returns true: every answer and error of package names is the document's.
  The statement is 'Rows.NamesPlaysUptoSaid': arguments so great that a list of parts passes the memory's end are left out.
-/
import Derived.Test.YtiinjaiigofbjaaRows
import Derived.Test.YtiinjaiigofbjaaRefJoin
import Derived.Test.YtiinjaiigofbjaaArgs
import Derived.WalkKit
import Derived.ProofKit
import Derived.OpenShut
import Derived.ShutString
import Derived.Carry
import Derived.JoinedCond
import Derived.SliceStrings
import Derived.Laws.AppendOwnNone
namespace Go.Proofs.Ytiinjaiigofbjaa
open Go.ChangeShapes Go.WideShapes Go.ChangeAt Go.RowKit
open Go.ChangeMaps (open_string shut_string)

theorem Below.next {w w1 w2 : World} (h1 : Below w.heap.size w w1) (h2 : Below w1.heap.size w1 w2) : Below w.heap.size w w2 := h1.trans (h2.mono h1.size)

set_option maxHeartbeats 2000000 in
theorem namesPlays_some (a b : ByteArray) (ad : Addr) (cap : Nat) (ps : List (List UInt8)) (w : World) (ha : a.size ≤ 1048576) (hbz : b.size ≤ 1048576) (hv : IsStrs w (.slice (some ad) ps.length cap) ps) (hlt : ps ≠ [] → ad.block < w.heap.size) (hcell : ∀ j u, (ps.map strV)[j]? = some u → w.cell? (ad.add j) = some u) (hn : ps.length ≤ 1048576) (hp : ∀ p ∈ ps, p.length ≤ 1048576) :
    Calls Try.prog 3 #[.string a, .string b, .slice (some ad) ps.length cap] w fun e w' => e = .returned (.bool true) ∧ Below w.heap.size w w' := by
  obtain ⟨i0, hi, hz0, hz1, hz2⟩ := info_parts Try.info9
  have hb : Below w.heap.size w w := Below.refl _ _
  have hsm : a.size ≤ maxLen := by unfold maxLen; omega
  have HA : Hid (∀ w, _) := awake_any
  have HV : Hid (∀ w, _) := valid_any a hsm
  have HVr : Hid (∀ w, _) := rValid_any a hsm
  have HM : Hid (∀ w, _) := member_any a hsm
  have HMr : Hid (∀ w, _) := rMember_any a hsm
  have HK : Hid (∀ w, _) := package_any a hsm
  have HKr : Hid (∀ w, _) := rPackage_any a hsm
  have HS : Hid (∀ w, _) := simple_any a hsm
  have HSr : Hid (∀ w, _) := rSimple_any a hsm
  have HP : Hid (∀ w, _) := parts_any a (by omega)
  have HPr : Hid (∀ w, _) := rParts_any a (by omega)
  have HC : Hid (∀ w, _) := compare_any a b (by omega) (by omega)
  have HCr : Hid (∀ w, _) := rCompare_any a b (by omega) (by omega)
  have HSame : Hid (∀ v1 v2 w, IsStrs w v1 (partsL a.data.toList) → IsStrs w v2 (partsL a.data.toList) → Calls Try.prog 17 #[v1, v2] w fun e w' => e = .returned (.bool true) ∧ ∃ n, w' = w.drewN n) := fun v1 v2 w h1 h2 => by
    have := same_any v1 v2 _ _ w h1 h2 (partsL_ne _) (partsL_ne _)
    simpa using this
  have HJ : Hid (∀ v w, IsStrs w v ps → Calls Try.prog 22 #[v] w fun e w' => e = .returned (.tuple #[.string ⟨(joinS ps).toArray⟩, .int .i64 (joinE ps)]) ∧ Below w.heap.size w w') :=
    fun v w h => join_any v ps w h (by omega) (fun p q => by have := hp p q; omega)
  have HJr : Hid (∀ v w, IsStrs w v ps → Calls Try.prog 23 #[v] w fun e w' => e = .returned (.tuple #[.string ⟨(joinS ps).toArray⟩, .int .i64 (joinE ps)]) ∧ w' = w) :=
    fun v w h => rJoin_any v ps w h (fun p q => by have := hp p q; omega)
  have HI : Hid _ := hv
  have HCL : Hid (∀ w2 : World, Below w.heap.size w w2 → ∀ j u, (ps.map strV)[j]? = some u → w2.cell? (ad.add j) = some u) := fun w2 hb j u hj => by
    have hne : ps ≠ [] := fun e => by rw [e] at hj; simp at hj
    have hbk : (ad.add j).block < w.heap.size := by
      have := hlt hne
      unfold Addr.add; split <;> simpa using this
    exact (hb.cell hbk).trans (hcell j u hj)
  clear hsm hp hv hlt hcell
  go_enter Try.func3, Try.ntmps3
  go_wp2_with (first
    | (go_at_call 8; refine ((HA.out) _).mono ?_; rintro e w2 ⟨rfl, hb2⟩; replace hb := Below.next hb hb2; clear hb2)
    | (go_at_call 9; refine ((HV.out) _).mono ?_; rintro e w2 ⟨rfl, hb2⟩; replace hb := Below.next hb hb2; clear hb2)
    | (go_at_call 10; refine ((HVr.out) _).mono ?_; rintro e w2 ⟨rfl, hb2⟩; replace hb := Below.next hb hb2; clear hb2)
    | (go_at_call 11; refine ((HM.out) _).mono ?_; rintro e w' ⟨rfl, rfl⟩)
    | (go_at_call 12; refine ((HMr.out) _).mono ?_; rintro e w' ⟨rfl, rfl⟩)
    | (go_at_call 13; refine ((HK.out) _).mono ?_; rintro e w' ⟨rfl, rfl⟩)
    | (go_at_call 14; refine ((HKr.out) _).mono ?_; rintro e w' ⟨rfl, rfl⟩)
    | (go_at_call 15; refine ((HS.out) _).mono ?_; rintro e w' ⟨rfl, rfl⟩)
    | (go_at_call 16; refine ((HSr.out) _).mono ?_; rintro e w' ⟨rfl, rfl⟩)
    | (go_at_call 18; refine ((HP.out) _).mono ?_; rintro e w2 ⟨v1, rfl, hown1, hb2⟩; replace hb := Below.next hb hb2; have I1 : Hid (IsStrs _ _ _) := own_strs hown1; clear hb2 hown1)
    | (go_at_call 19; refine ((HPr.out) _).mono ?_; rintro e w3 ⟨v2, rfl, hown2, hb3⟩; replace hb := Below.next hb hb3; have I1' : Hid (IsStrs _ _ _) := IsStrs.keep I1.out hb3; have I2 : Hid (IsStrs _ _ _) := own_strs hown2; clear hb3 hown2)
    | (go_at_call 17; refine (HSame.out _ _ _ I1'.out I2.out).mono ?_; rintro e w' ⟨rfl, nq, rfl⟩; replace hb := below_drewN hb nq; clear I1 I1' I2)
    | (go_at_call 20; refine ((HC.out) _).mono ?_; rintro e w2 ⟨rfl, hb2⟩; replace hb := Below.next hb hb2; clear hb2)
    | (go_at_call 21; refine ((HCr.out) _).mono ?_; rintro e w2 ⟨rfl, hb2⟩; replace hb := Below.next hb hb2; clear hb2)
    | (at_builtin; refine wpList_append_own _ rfl _ _ 22 rfl w.heap.size 9 i0 (.string ⟨#[]⟩) 1 16 Try.underlying22 hi hz0 hz1 hz2 rfl (by decide) _ 0 [] rfl (World.ownsRow_made _ #[] 0 hb.size (Nat.zero_le _) rfl) ad ps.length cap (ps.map strV) rfl (by simp) ?c1 ?c2 ?c3 ?c4 ?c5 ?_))
  case c1 => exact HCL.out _ (hb.alloc hb.size _)
  case c2 =>
    intro u hu
    obtain ⟨p, _, rfl⟩ := List.mem_map.1 hu
    rfl
  case c3 => unfold maxLen; omega
  case c4 => omega
  case c5 => have := hb.size; simp; omega
  · intro v' w3 hown' hgrow _
    have I3 : Hid (IsStrs w3 v' ps) := own_strs hown'
    have hb3 : Below w.heap.size w w3 := (hb.alloc hb.size _).grown hgrow (by have := hb.size; simp; omega) (fun k hk => by have := hb.size; simp [Value.ownBlock] at hk; omega)
    clear hown' hgrow HCL
    go_wp2_with (first
      | (go_at_call 22; refine (HJ.out _ _ I3.out).mono ?_; rintro e w4 ⟨rfl, hb4⟩; replace hb3 := Below.next hb3 hb4; clear hb4)
      | (go_at_call 23; refine (HJr.out _ _ (IsStrs.keep HI.out hb3)).mono ?_; rintro e w' ⟨rfl, rfl⟩))
    go_ret
    exact ⟨rfl, by assumption⟩

set_option maxHeartbeats 2000000 in
theorem namesPlays_none (a b : ByteArray) (w : World) (ha : a.size ≤ 1048576) (hbz : b.size ≤ 1048576) :
    Calls Try.prog 3 #[.string a, .string b, .slice none 0 0] w fun e w' => e = .returned (.bool true) ∧ Below w.heap.size w w' := by
  have hv : ∀ w, IsStrs w (.slice none 0 0) [] := fun _ => ⟨none, 0, rfl, Nat.le_refl _, Nat.zero_le _, fun h => absurd rfl h⟩
  obtain ⟨i0, hi, _, _, _⟩ := info_parts Try.info9
  have hb : Below w.heap.size w w := Below.refl _ _
  have hsm : a.size ≤ maxLen := by unfold maxLen; omega
  have HA : Hid (∀ w, _) := awake_any
  have HV : Hid (∀ w, _) := valid_any a hsm
  have HVr : Hid (∀ w, _) := rValid_any a hsm
  have HM : Hid (∀ w, _) := member_any a hsm
  have HMr : Hid (∀ w, _) := rMember_any a hsm
  have HK : Hid (∀ w, _) := package_any a hsm
  have HKr : Hid (∀ w, _) := rPackage_any a hsm
  have HS : Hid (∀ w, _) := simple_any a hsm
  have HSr : Hid (∀ w, _) := rSimple_any a hsm
  have HP : Hid (∀ w, _) := parts_any a (by omega)
  have HPr : Hid (∀ w, _) := rParts_any a (by omega)
  have HC : Hid (∀ w, _) := compare_any a b (by omega) (by omega)
  have HCr : Hid (∀ w, _) := rCompare_any a b (by omega) (by omega)
  have HSame : Hid (∀ v1 v2 w, IsStrs w v1 (partsL a.data.toList) → IsStrs w v2 (partsL a.data.toList) → Calls Try.prog 17 #[v1, v2] w fun e w' => e = .returned (.bool true) ∧ ∃ n, w' = w.drewN n) := fun v1 v2 w h1 h2 => by
    have := same_any v1 v2 _ _ w h1 h2 (partsL_ne _) (partsL_ne _)
    simpa using this
  have HJ : Hid (∀ v w, IsStrs w v [] → Calls Try.prog 22 #[v] w fun e w' => e = .returned (.tuple #[.string ⟨(joinS []).toArray⟩, .int .i64 (joinE [])]) ∧ Below w.heap.size w w') :=
    fun v w h => join_any v [] w h (by simp) (by simp)
  have HJr : Hid (∀ v w, IsStrs w v [] → Calls Try.prog 23 #[v] w fun e w' => e = .returned (.tuple #[.string ⟨(joinS []).toArray⟩, .int .i64 (joinE [])]) ∧ w' = w) :=
    fun v w h => rJoin_any v [] w h (by simp)
  have HI : Hid (∀ w, _) := hv
  have HE : Hid (∀ (w : World) (v : Value) (base : Nat), w.ownsRow base 9 1 v 0 [] → IsStrs w v []) := fun w v base h => own_strs (ps := []) h
  clear hsm hv
  go_enter Try.func3, Try.ntmps3
  go_wp2_with (first
    | (go_at_call 8; refine ((HA.out) _).mono ?_; rintro e w2 ⟨rfl, hb2⟩; replace hb := Below.next hb hb2; clear hb2)
    | (go_at_call 9; refine ((HV.out) _).mono ?_; rintro e w2 ⟨rfl, hb2⟩; replace hb := Below.next hb hb2; clear hb2)
    | (go_at_call 10; refine ((HVr.out) _).mono ?_; rintro e w2 ⟨rfl, hb2⟩; replace hb := Below.next hb hb2; clear hb2)
    | (go_at_call 11; refine ((HM.out) _).mono ?_; rintro e w' ⟨rfl, rfl⟩)
    | (go_at_call 12; refine ((HMr.out) _).mono ?_; rintro e w' ⟨rfl, rfl⟩)
    | (go_at_call 13; refine ((HK.out) _).mono ?_; rintro e w' ⟨rfl, rfl⟩)
    | (go_at_call 14; refine ((HKr.out) _).mono ?_; rintro e w' ⟨rfl, rfl⟩)
    | (go_at_call 15; refine ((HS.out) _).mono ?_; rintro e w' ⟨rfl, rfl⟩)
    | (go_at_call 16; refine ((HSr.out) _).mono ?_; rintro e w' ⟨rfl, rfl⟩)
    | (go_at_call 18; refine ((HP.out) _).mono ?_; rintro e w2 ⟨v1, rfl, hown1, hb2⟩; replace hb := Below.next hb hb2; have I1 : Hid (IsStrs _ _ _) := own_strs hown1; clear hb2 hown1)
    | (go_at_call 19; refine ((HPr.out) _).mono ?_; rintro e w3 ⟨v2, rfl, hown2, hb3⟩; replace hb := Below.next hb hb3; have I1' : Hid (IsStrs _ _ _) := IsStrs.keep I1.out hb3; have I2 : Hid (IsStrs _ _ _) := own_strs hown2; clear hb3 hown2)
    | (go_at_call 17; refine (HSame.out _ _ _ I1'.out I2.out).mono ?_; rintro e w' ⟨rfl, nq, rfl⟩; replace hb := below_drewN hb nq; clear I1 I1' I2)
    | (go_at_call 20; refine ((HC.out) _).mono ?_; rintro e w2 ⟨rfl, hb2⟩; replace hb := Below.next hb hb2; clear hb2)
    | (go_at_call 21; refine ((HCr.out) _).mono ?_; rintro e w2 ⟨rfl, hb2⟩; replace hb := Below.next hb hb2; clear hb2)
    | (at_builtin; refine wpList_append_own_none rfl _ _ 22 rfl w.heap.size 9 i0 1 Try.underlying22 hi _ 0 [] rfl (World.ownsRow_made _ #[] 0 hb.size (Nat.zero_le _) rfl) rfl ?_; have I3 : Hid (IsStrs _ _ _) := HE.out _ _ w.heap.size (World.ownsRow_made _ #[] 0 hb.size (Nat.zero_le _) rfl); replace hb := Below.alloc hb hb.size (.cells #[] 9))
    | (go_at_call 22; refine (HJ.out _ _ I3.out).mono ?_; rintro e w4 ⟨rfl, hb4⟩; replace hb := Below.next hb hb4; clear hb4)
    | (go_at_call 23; refine (HJr.out _ _ (HI.out _)).mono ?_; rintro e w' ⟨rfl, rfl⟩))
  go_ret
  exact ⟨rfl, by assumption⟩

theorem namesPlays_own : ownKnob Try.prog.godebug = none := by kernel_rfl
theorem namesPlays_laidOut : laidOutB Try.prog = true := by kernel_rfl

theorem short_namesPlays {H : Type} {a0 a1 : ByteArray} {d : DataW H} (hk : Rows.uptoSmall H [.lit (.string a0.data.toList), .lit (.string a1.data.toList), d] = true) : a0.size ≤ 1048576 ∧ a1.size ≤ 1048576 ∧ Rows.uptoBulk d ≤ 1048576 := by
  have h : Rows.uptoBulkAll (H := H) [.lit (.string a0.data.toList), .lit (.string a1.data.toList), d] ≤ 1048576 := of_decide_eq_true hk
  simp only [Rows.uptoBulkAll, Rows.uptoBulk] at h
  have e0 : a0.data.toList.length = a0.size := by rw [Array.length_toList]; rfl
  have e1 : a1.data.toList.length = a1.size := by rw [Array.length_toList]; rfl
  omega

set_option linter.unusedVariables false in
theorem namesPlays_contract (H : Type) (enc : TypeId × Value → H) (W : World) (base : Nat) (args : Array Value) (ds gs : List (DataW H)) (before : List MemPlace)
    (hval : ∀ (j : Nat) t v, Try.f3.params[j]? = some t → args[j]? = some v → Value.okWide Try.prog W .any base t v)
    (hW : DataW.Whole enc Try.prog Try.f3.params.toList Rows.namesPlaysSpec.vars false W args.toList ds gs before) (hk : Rows.uptoSmall H (ds ++ gs) = true) :
    Calls Try.prog 3 args W fun e W' => ∃ v, e = .returned v ∧ Rows.namesPlaysSpec.post enc Try.prog Try.f3 false true false false W args v W' := by
  have hW' := hW
  obtain ⟨p, q, hA0, hV, rfl, hfz, hnd⟩ := hW
  have hA : DataW.TrodAll enc Try.prog W 0 (fun _ => true) true Try.f3.params.toList args.toList ds p := hA0
  rw [Try.params3] at hA hval
  obtain ⟨v0, vs0, d0, ds0, p0, q0, hargs, rfl, rfl, h0, r0⟩ := trodAll_cons hA
  obtain ⟨v1, vs1, d1, ds1, p1, q1, rfl, rfl, rfl, h1, r1⟩ := trodAll_cons r0
  obtain ⟨v2, vs2, d2, ds2, p2, q2, rfl, rfl, rfl, h2, r2⟩ := trodAll_cons r1
  obtain ⟨rfl, rfl, rfl⟩ := trodAll_nil r2
  obtain rfl : args = #[v0, v1, v2] := by cases args; simp_all
  obtain ⟨rfl, rfl⟩ := trodVars_none hV
  obtain ⟨a0, rfl, rfl, rfl, m0⟩ := open_string Try.underlying9 (hval 0 9 v0 rfl rfl) h0
  obtain ⟨a1, rfl, rfl, rfl, m1⟩ := open_string Try.underlying9 (hval 1 9 v1 rfl rfl) h1
  obtain ⟨x0, len0, cap0, rfl⟩ := okWide_slice Try.underlying22 (hval 2 22 v2 rfl rfl)
  have k0 := h2
  have lt0 : ∀ x ∈ p2, x.block < W.heap.size := by obtain ⟨m, hm⟩ := k0; exact DataW.trod_lt m _ _ _ hm
  clear hA0
  simp only [List.append_nil] at hW' hk
  have hz := short_namesPlays hk
  have hcall : Calls Try.prog 3 #[.string a0, .string a1, .slice x0 len0 cap0] W fun e W' => e = .returned (.bool true) ∧ Below W.heap.size W W' := by
    rcases read_strs k0 with ⟨rfl, rfl, rfl, rfl⟩ | ⟨ad, ps, sp, rfl, rfl, hI, hlt, hcell, rfl⟩
    · exact namesPlays_none a0 a1 W hz.1 hz.2.1
    · have hb := hz.2.2
      have hb2 : Rows.uptoBulkAll (ps.map (litT (H := H))) + 1 ≤ Rows.uptoBulk (DataW.slice (ps.map (litT (H := H))) sp) := by simp only [Rows.uptoBulk]; omega
      have hb3 := bulk_lits (H := H) ps
      exact namesPlays_some a0 a1 ad cap0 ps W hz.1 hz.2.1 hI hlt hcell (by omega) (fun p hp => by have := hb3.2 p hp; omega)
  refine hcall.mono fun e W' ⟨he, bel⟩ => ?_
  subst he
  exact ⟨_, rfl, _, _, _, [], _, [], hW', trodAll_mk1 (shut_bool Try.underlying4 _), (trodAll_cons_mk (shut_string Try.underlying9 m0) (trodAll_cons_mk (shut_string Try.underlying9 m1) (trodAll_cons_mk (Below.trod namesPlays_laidOut (by kernel_rfl) (of_decide_eq_true (by kernel_rfl)) k0 bel lt0) trodAll_mk0))), rfl, bel.frame _, fun h => by cases h⟩

set_option maxRecDepth 100000 in
theorem namesPlays_lifted (os : Os) (started : os.Started) (H : Type) (enc : TypeId × Value → H) (F : Stop.Interp) :
    ReturnsInHanded {} Try.checked os 3 .any ((Rows.OpenSpec.upto Rows.namesPlaysSpec).pre6 enc Try.prog Try.f3 Rows.namesPlaysUptoRow.domain false) (((Rows.OpenSpec.upto Rows.namesPlaysSpec).at F).post enc Try.prog Try.f3 false true false false) := by
  refine returnsInHanded_of_cond (C := Try.checked) (s := Rows.OpenSpec.upto Rows.namesPlaysSpec) (k := Rows.uptoSmall) rfl namesPlays_own started (by kernel_rfl) Try.func3
    (OpenSpec.witness (enc := enc) (C := Try.checked) (s := Rows.OpenSpec.upto Rows.namesPlaysSpec) (k := Rows.uptoSmall) rfl false ⟨#[], #[.string .empty, .string .empty, .slice none 0 0], []⟩ 8 (by kernel_rfl) (by kernel_rfl) (by kernel_rfl)
      (x := ([.lit (.string []), .lit (.string []), .nil], [], [])) (by kernel_rfl) rfl (by kernel_rfl)) ?_
  intro W base args ds gs before hval hW _ hk _
  exact namesPlays_contract H enc W base args ds gs before hval hW hk

/-- THE STATEMENT -/
theorem namesPlays_holds : Rows.NamesPlaysUptoSaid :=
  OpenClaim.holds_of_cond 3 Try.f3 rfl rfl rfl rfl rfl rfl rfl ⟨rfl, rfl, rfl, rfl, rfl⟩ rfl rfl rfl rfl rfl (by kernel_rfl) Try.func3 (by kernel_rfl)
    (of_decide_eq_true (by kernel_rfl)) (by unfold Func.isWrapper; first | (rw [if_pos (by decide +kernel)]; kernel_rfl) | (rw [if_neg (by decide +kernel)]; exact ⟨rfl, rfl⟩))
    (fun os started H enc _ F => namesPlays_lifted os started H enc F)
#print axioms namesPlays_holds

end Go.Proofs.Ytiinjaiigofbjaa
