/-
  For every three texts of bulk at most 1048576 together, the Go function arbiterlaw01.NamesOrder returns true: names.Compare is an order over all texts, and a package comes ahead of what is in it.
  The statement is 'Rows.NamesOrderUptoSaid': texts so great that their parts' list passes the memory's end are left out.
-/
import Derived.Test.YtiinjaiigofbjaaRows
import Derived.Test.YtiinjaiigofbjaaCompare
import Derived.WalkKit
import Derived.ProofKit
import Derived.OpenShut
import Derived.ShutString
import Derived.Carry
import Derived.JoinedCond
namespace Go.Proofs.Ytiinjaiigofbjaa
open Go.ChangeShapes Go.WideShapes Go.ChangeAt Go.RowKit
open Go.ChangeMaps (open_string shut_string)

theorem Below.then {w w1 w2 : World} (h1 : Below w.heap.size w w1) (h2 : Below w1.heap.size w1 w2) : Below w.heap.size w w2 := h1.trans (h2.mono h1.size)

theorem sep_data (x y : ByteArray) : (x ++ ⟨#[47]⟩ ++ y : ByteArray).data.toList = x.data.toList ++ 47 :: y.data.toList := by
  simp [ByteArray.data_append]
theorem sep_size (x y : ByteArray) : (x ++ ⟨#[47]⟩ ++ y : ByteArray).size = x.size + 1 + y.size := by
  rw [ByteArray.size_append, ByteArray.size_append]; rfl

theorem nameC_anti (a b : List UInt8) : nameC a b = - nameC b a := textsC_isCmp.anti _ _
theorem nameC_trans (a b c : List UInt8) (h1 : nameC a b ≤ 0) (h2 : nameC b c ≤ 0) : nameC a c ≤ 0 := textsC_isCmp.trans _ _ _ h1 h2
theorem nameC_lo (a b : List UInt8) : -1 ≤ nameC a b := textsC_isCmp.lo _ _
theorem nameC_hi (a b : List UInt8) : nameC a b ≤ 1 := textsC_isCmp.hi _ _

set_option maxHeartbeats 2000000 in
theorem namesOrder_walk (a b c : ByteArray) (ha : a.size ≤ 1048576) (hb : b.size ≤ 1048576) (hc : c.size ≤ 1048576) (w : World) :
    Calls Try.prog 5 #[.string a, .string b, .string c] w fun e w' => e = .returned (.bool true) ∧ Below w.heap.size w w' := by
  have HA : Hid (∀ w, _) := awake_any
  have Hab : Hid (∀ w, _) := compare_any a b (by omega) (by omega)
  have Hba : Hid (∀ w, _) := compare_any b a (by omega) (by omega)
  have Hbc : Hid (∀ w, _) := compare_any b c (by omega) (by omega)
  have Hac : Hid (∀ w, _) := compare_any a c (by omega) (by omega)
  have Has : Hid (∀ w, _) := compare_any a (a ++ ⟨#[47]⟩ ++ b) (by omega) (by rw [sep_size]; omega)
  rw [sep_data, nameC_below] at Has
  rw [nameC_anti b.data.toList a.data.toList] at Hba
  have hz : (a.toList == b.toList) = decide (nameC a.data.toList b.data.toList = 0) := by
    rw [Lib.toList_data, Lib.toList_data, Bool.eq_iff_iff]; simp only [beq_iff_eq, decide_eq_true_eq]; exact (nameC_zero _ _).symm
  have ht := nameC_trans a.data.toList b.data.toList c.data.toList
  have x1 := nameC_lo a.data.toList b.data.toList
  have x2 := nameC_hi a.data.toList b.data.toList
  have y1 := nameC_lo b.data.toList c.data.toList
  have y2 := nameC_hi b.data.toList c.data.toList
  have z1 := nameC_lo a.data.toList c.data.toList
  have z2 := nameC_hi a.data.toList c.data.toList
  generalize nameC a.data.toList b.data.toList = x at *
  generalize nameC b.data.toList c.data.toList = y at *
  generalize nameC a.data.toList c.data.toList = z at *
  have HT : Hid _ := ht
  clear ht
  rcases (show x = -1 ∨ x = 0 ∨ x = 1 by omega) with rfl | rfl | rfl
  · have g : (a.toList == b.toList) = false := by rw [hz]; rfl
    clear hz x1 x2
    by_cases hy : y ≤ 0
    · have hzz : z ≤ 0 := HT.out (by omega) hy
      clear HT
      go_enter Try.func5, Try.ntmps5
      go_wp2_with (go_at_call 8; refine ((HA.out) _).mono ?_; rintro e w1 ⟨rfl, hb1⟩)
      refine (Hab.out _).mono ?_
      rintro e w2 ⟨rfl, hb2⟩
      replace hb1 := Below.then hb1 hb2
      clear hb2
      go_wp2_with fail
      refine (Hbc.out _).mono ?_
      rintro e w3 ⟨rfl, hb2⟩
      replace hb1 := Below.then hb1 hb2
      clear hb2
      go_wp2_with fail
      refine (Hba.out _).mono ?_
      rintro e w4 ⟨rfl, hb2⟩
      replace hb1 := Below.then hb1 hb2
      clear hb2
      go_wp2_with fail
      refine (Hac.out _).mono ?_
      rintro e w5 ⟨rfl, hb2⟩
      replace hb1 := Below.then hb1 hb2
      clear hb2
      go_wp2_with fail
      refine (Has.out _).mono ?_
      rintro e w6 ⟨rfl, hb2⟩
      replace hb1 := Below.then hb1 hb2
      clear hb2
      go_wp2
      go_ret
      exact ⟨rfl, hb1⟩
    · clear HT
      go_enter Try.func5, Try.ntmps5
      go_wp2_with (go_at_call 8; refine ((HA.out) _).mono ?_; rintro e w1 ⟨rfl, hb1⟩)
      refine (Hab.out _).mono ?_
      rintro e w2 ⟨rfl, hb2⟩
      replace hb1 := Below.then hb1 hb2
      clear hb2
      go_wp2_with fail
      refine (Hbc.out _).mono ?_
      rintro e w3 ⟨rfl, hb2⟩
      replace hb1 := Below.then hb1 hb2
      clear hb2
      go_wp2_with fail
      refine (Hba.out _).mono ?_
      rintro e w4 ⟨rfl, hb2⟩
      replace hb1 := Below.then hb1 hb2
      clear hb2
      go_wp2_with fail
      refine (Has.out _).mono ?_
      rintro e w5 ⟨rfl, hb2⟩
      replace hb1 := Below.then hb1 hb2
      clear hb2
      go_wp2
      go_ret
      exact ⟨rfl, hb1⟩
  · have g : (a.toList == b.toList) = true := by rw [hz]; rfl
    clear hz x1 x2
    by_cases hy : y ≤ 0
    · have hzz : z ≤ 0 := HT.out (by omega) hy
      clear HT
      go_enter Try.func5, Try.ntmps5
      go_wp2_with (go_at_call 8; refine ((HA.out) _).mono ?_; rintro e w1 ⟨rfl, hb1⟩)
      refine (Hab.out _).mono ?_
      rintro e w2 ⟨rfl, hb2⟩
      replace hb1 := Below.then hb1 hb2
      clear hb2
      go_wp2_with fail
      refine (Hbc.out _).mono ?_
      rintro e w3 ⟨rfl, hb2⟩
      replace hb1 := Below.then hb1 hb2
      clear hb2
      go_wp2_with fail
      refine (Hba.out _).mono ?_
      rintro e w4 ⟨rfl, hb2⟩
      replace hb1 := Below.then hb1 hb2
      clear hb2
      go_wp2_with fail
      refine (Hac.out _).mono ?_
      rintro e w5 ⟨rfl, hb2⟩
      replace hb1 := Below.then hb1 hb2
      clear hb2
      go_wp2_with fail
      refine (Has.out _).mono ?_
      rintro e w6 ⟨rfl, hb2⟩
      replace hb1 := Below.then hb1 hb2
      clear hb2
      go_wp2
      go_ret
      exact ⟨rfl, hb1⟩
    · clear HT
      go_enter Try.func5, Try.ntmps5
      go_wp2_with (go_at_call 8; refine ((HA.out) _).mono ?_; rintro e w1 ⟨rfl, hb1⟩)
      refine (Hab.out _).mono ?_
      rintro e w2 ⟨rfl, hb2⟩
      replace hb1 := Below.then hb1 hb2
      clear hb2
      go_wp2_with fail
      refine (Hbc.out _).mono ?_
      rintro e w3 ⟨rfl, hb2⟩
      replace hb1 := Below.then hb1 hb2
      clear hb2
      go_wp2_with fail
      refine (Hba.out _).mono ?_
      rintro e w4 ⟨rfl, hb2⟩
      replace hb1 := Below.then hb1 hb2
      clear hb2
      go_wp2_with fail
      refine (Has.out _).mono ?_
      rintro e w5 ⟨rfl, hb2⟩
      replace hb1 := Below.then hb1 hb2
      clear hb2
      go_wp2
      go_ret
      exact ⟨rfl, hb1⟩
  · have g : (a.toList == b.toList) = false := by rw [hz]; rfl
    clear hz x1 x2
    clear HT
    go_enter Try.func5, Try.ntmps5
    go_wp2_with (go_at_call 8; refine ((HA.out) _).mono ?_; rintro e w1 ⟨rfl, hb1⟩)
    refine (Hab.out _).mono ?_
    rintro e w2 ⟨rfl, hb2⟩
    replace hb1 := Below.then hb1 hb2
    clear hb2
    go_wp2_with fail
    refine (Hbc.out _).mono ?_
    rintro e w3 ⟨rfl, hb2⟩
    replace hb1 := Below.then hb1 hb2
    clear hb2
    go_wp2_with fail
    refine (Hba.out _).mono ?_
    rintro e w4 ⟨rfl, hb2⟩
    replace hb1 := Below.then hb1 hb2
    clear hb2
    go_wp2_with fail
    refine (Has.out _).mono ?_
    rintro e w5 ⟨rfl, hb2⟩
    replace hb1 := Below.then hb1 hb2
    clear hb2
    go_wp2
    go_ret
    exact ⟨rfl, hb1⟩

theorem namesOrder_own : ownKnob Try.prog.godebug = none := by kernel_rfl

theorem short_namesOrder {H : Type} {a0 a1 a2 : ByteArray} (hk : Rows.uptoSmall H [.lit (.string a0.data.toList), .lit (.string a1.data.toList), .lit (.string a2.data.toList)] = true) : a0.size ≤ 1048576 ∧ a1.size ≤ 1048576 ∧ a2.size ≤ 1048576 := by
  have h : Rows.uptoBulkAll (H := H) [.lit (.string a0.data.toList), .lit (.string a1.data.toList), .lit (.string a2.data.toList)] ≤ 1048576 := of_decide_eq_true hk
  simp only [Rows.uptoBulkAll, Rows.uptoBulk] at h
  have e0 : a0.data.toList.length = a0.size := by rw [Array.length_toList]; rfl
  have e1 : a1.data.toList.length = a1.size := by rw [Array.length_toList]; rfl
  have e2 : a2.data.toList.length = a2.size := by rw [Array.length_toList]; rfl
  omega

set_option linter.unusedVariables false in
theorem namesOrder_contract (H : Type) (enc : TypeId × Value → H) (W : World) (base : Nat) (args : Array Value) (ds gs : List (DataW H)) (before : List MemPlace)
    (hval : ∀ (j : Nat) t v, Try.f5.params[j]? = some t → args[j]? = some v → Value.okWide Try.prog W .any base t v)
    (hW : DataW.Whole enc Try.prog Try.f5.params.toList Rows.namesOrderSpec.vars false W args.toList ds gs before) (hk : Rows.uptoSmall H (ds ++ gs) = true) :
    Calls Try.prog 5 args W fun e W' => ∃ v, e = .returned v ∧ Rows.namesOrderSpec.post enc Try.prog Try.f5 false true false false W args v W' := by
  have hW' := hW
  obtain ⟨p, q, hA0, hV, rfl, hfz, hnd⟩ := hW
  have hA : DataW.TrodAll enc Try.prog W 0 (fun _ => true) true Try.f5.params.toList args.toList ds p := hA0
  rw [Try.params5] at hA hval
  obtain ⟨v0, vs0, d0, ds0, p0, q0, hargs, rfl, rfl, h0, r0⟩ := trodAll_cons hA
  obtain ⟨v1, vs1, d1, ds1, p1, q1, rfl, rfl, rfl, h1, r1⟩ := trodAll_cons r0
  obtain ⟨v2, vs2, d2, ds2, p2, q2, rfl, rfl, rfl, h2, r2⟩ := trodAll_cons r1
  obtain ⟨rfl, rfl, rfl⟩ := trodAll_nil r2
  obtain rfl : args = #[v0, v1, v2] := by cases args; simp_all
  obtain ⟨rfl, rfl⟩ := trodVars_none hV
  obtain ⟨a0, rfl, rfl, rfl, m0⟩ := open_string Try.underlying9 (hval 0 9 v0 rfl rfl) h0
  obtain ⟨a1, rfl, rfl, rfl, m1⟩ := open_string Try.underlying9 (hval 1 9 v1 rfl rfl) h1
  obtain ⟨a2, rfl, rfl, rfl, m2⟩ := open_string Try.underlying9 (hval 2 9 v2 rfl rfl) h2
  clear hA0
  simp only [List.append_nil] at hW' hk
  refine (namesOrder_walk a0 a1 a2 (short_namesOrder hk).1 (short_namesOrder hk).2.1 (short_namesOrder hk).2.2 W).mono fun e W' ⟨he, bel⟩ => ?_
  subst he
  exact ⟨_, rfl, _, _, _, [], [], [], hW', trodAll_mk1 (shut_bool Try.underlying4 _), (trodAll_cons_mk (shut_string Try.underlying9 m0) (trodAll_cons_mk (shut_string Try.underlying9 m1) (trodAll_cons_mk (shut_string Try.underlying9 m2) trodAll_mk0))), rfl, bel.frame _, fun h => by cases h⟩

set_option maxRecDepth 100000 in
theorem namesOrder_lifted (os : Os) (started : os.Started) (H : Type) (enc : TypeId × Value → H) (F : Stop.Interp) :
    ReturnsInHanded {} Try.checked os 5 .any ((Rows.OpenSpec.upto Rows.namesOrderSpec).pre6 enc Try.prog Try.f5 Rows.namesOrderUptoRow.domain false) (((Rows.OpenSpec.upto Rows.namesOrderSpec).at F).post enc Try.prog Try.f5 false true false false) := by
  refine returnsInHanded_of_cond (C := Try.checked) (s := Rows.OpenSpec.upto Rows.namesOrderSpec) (k := Rows.uptoSmall) rfl namesOrder_own started (by kernel_rfl) Try.func5
    (OpenSpec.witness (enc := enc) (C := Try.checked) (s := Rows.OpenSpec.upto Rows.namesOrderSpec) (k := Rows.uptoSmall) rfl false ⟨#[], #[.string .empty, .string .empty, .string .empty], []⟩ 8 (by kernel_rfl) (by kernel_rfl) (by kernel_rfl)
      (x := ([.lit (.string []), .lit (.string []), .lit (.string [])], [], [])) (by kernel_rfl) rfl (by kernel_rfl)) ?_
  intro W base args ds gs before hval hW _ hk _
  exact namesOrder_contract H enc W base args ds gs before hval hW hk

/-- THE STATEMENT -/
theorem namesOrder_holds : Rows.NamesOrderUptoSaid :=
  OpenClaim.holds_of_cond 5 Try.f5 rfl rfl rfl rfl rfl rfl rfl ⟨rfl, rfl, rfl, rfl, rfl⟩ rfl rfl rfl rfl rfl (by kernel_rfl) Try.func5 (by kernel_rfl)
    (of_decide_eq_true (by kernel_rfl)) (by unfold Func.isWrapper; first | (rw [if_pos (by decide +kernel)]; kernel_rfl) | (rw [if_neg (by decide +kernel)]; exact ⟨rfl, rfl⟩))
    (fun os started H enc _ F => namesOrder_lifted os started H enc F)
#print axioms namesOrder_holds

end Go.Proofs.Ytiinjaiigofbjaa
