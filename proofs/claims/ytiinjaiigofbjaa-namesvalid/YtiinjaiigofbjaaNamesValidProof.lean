/-
  For every text, the Go function arbiterlaw01.NamesValid returns true: a valid name's simple name is one part, its package is empty or valid, and its bytes are letters, digits, _, $ and /.
  The statement is 'Rows.NamesValidSaid', for every input (no bound of our own).
-/
import Derived.Test.YtiinjaiigofbjaaRows
import Derived.Test.YtiinjaiigofbjaaValid
import Derived.Test.YtiinjaiigofbjaaFacts
import Derived.WalkKit
import Derived.ProofKit
import Derived.OpenShut
import Derived.ShutString
import Derived.Carry
namespace Go.Proofs.Ytiinjaiigofbjaa
open Go.ChangeShapes Go.WideShapes Go.ChangeAt Go.RowKit
open Go.ChangeMaps (open_string shut_string)

theorem Below.chain {w w1 w2 : World} (h1 : Below w.heap.size w w1) (h2 : Below w1.heap.size w1 w2) : Below w.heap.size w w2 := h1.trans (h2.mono h1.size)

theorem word_cases (c : UInt8) (h : c = 47 ∨ wordB c = true) : (97 ≤ (c.toNat : Int) ∧ (c.toNat : Int) ≤ 122) ∨ (65 ≤ (c.toNat : Int) ∧ (c.toNat : Int) ≤ 90) ∨ (c.toNat : Int) = 95 ∨ (c.toNat : Int) = 36 ∨ (48 ≤ (c.toNat : Int) ∧ (c.toNat : Int) ≤ 57) ∨ (c.toNat : Int) = 47 := by
  rcases h with rfl | h
  · simp
  · simp [wordB, ltrI, digI] at h
    omega

set_option maxHeartbeats 1000000 in
theorem namesValid_walk (s : ByteArray) (hs : s.size ≤ maxLen) (w : World) :
    Calls Try.prog 6 #[.string s] w fun e w' => e = .returned (.bool true) ∧ Below w.heap.size w w' := by
  have hb : Below w.heap.size w w := Below.refl _ _
  have hlen : s.data.toList.length = s.size := by simp
  have hl : ∀ p : List UInt8, p.length ≤ s.size → (⟨p.toArray⟩ : ByteArray).size ≤ maxLen := fun p hp => by rw [mk_size]; omega
  have hpk : (pkgL s.data.toList).length ≤ s.size := by unfold pkgL; rw [List.length_take]; omega
  have hsk : (simpleL s.data.toList).length ≤ s.size := by unfold simpleL; rw [List.length_drop]; omega
  have HA : Hid (∀ w, _) := awake_any
  have HM : Hid (∀ w, _) := member_any s hs
  have HV : Hid (∀ w, _) := valid_any s hs
  have HK : Hid (∀ w, _) := package_any s hs
  have HS : Hid (∀ w, _) := simple_any s hs
  have HVp : Hid (∀ w, _) := valid_any ⟨(pkgL s.data.toList).toArray⟩ (hl _ hpk)
  have HMs : Hid (∀ w, _) := member_any ⟨(simpleL s.data.toList).toArray⟩ (hl _ hsk)
  clear hl hpk hsk
  rcases law_cases s.data.toList with hi | ⟨hi, hv, hm⟩ | ⟨hi, hv, hm, hk, hp1, hms⟩ | ⟨hi, hv, hm, hk, hvp, hms⟩
  · have e : s = ⟨initL.toArray⟩ := by apply bytes_ext; rw [hi]
    subst e
    have hv : validL initL = false := by decide
    have hm : memberL initL = true := by decide
    have ei : (⟨initL.toArray⟩ : ByteArray).data.toList = initL := by simp
    rw [ei] at HM HV
    rw [hm] at HM
    rw [hv] at HV
    clear hi ei hlen hv hm hs HS HVp HMs HK
    go_enter Try.func6, Try.ntmps6
    go_wp2_with (first
      | (go_at_call 8; refine ((HA.out) _).mono ?_; rintro e w2 ⟨rfl, hb2⟩; replace hb := Below.chain hb hb2; clear hb2)
      | (go_at_call 11; refine ((HM.out) _).mono ?_; rintro e w' ⟨rfl, rfl⟩)
      | (go_at_call 9; refine ((HV.out) _).mono ?_; rintro e w2 ⟨rfl, hb2⟩; replace hb := Below.chain hb hb2; clear hb2))
    go_ret
    exact ⟨rfl, by assumption⟩
  · have hq : (s.toList == [60, 105, 110, 105, 116, 62]) = false := by rw [init_beq]; simpa using hi
    rw [hm] at HM
    rw [hv] at HV
    clear hi hlen hv hm hs HS HVp HMs HK
    go_enter Try.func6, Try.ntmps6
    go_wp2_with (first
      | (go_at_call 8; refine ((HA.out) _).mono ?_; rintro e w2 ⟨rfl, hb2⟩; replace hb := Below.chain hb hb2; clear hb2)
      | (go_at_call 11; refine ((HM.out) _).mono ?_; rintro e w' ⟨rfl, rfl⟩)
      | (go_at_call 9; refine ((HV.out) _).mono ?_; rintro e w2 ⟨rfl, hb2⟩; replace hb := Below.chain hb hb2; clear hb2))
    go_ret
    exact ⟨rfl, by assumption⟩
  · have hq : (s.toList == [60, 105, 110, 105, 116, 62]) = false := by rw [init_beq]; simpa using hi
    have h60 := valid_len hv
    have h1' := valid_ne hv
    have HW : Hid _ := valid_bytes hv
    rw [hlen] at h60 h1'
    have HP : Hid (∀ w, _) := parts_any s (by omega)
    have HN : Hid _ := partsL_ne s.data.toList
    have ems : (⟨(simpleL s.data.toList).toArray⟩ : ByteArray).data.toList = simpleL s.data.toList := by simp
    rw [ems, hms] at HMs
    rw [hm] at HM
    rw [hv] at HV
    rw [hk] at HK
    generalize partsL s.data.toList = ps at *
    clear hi hlen hv hm hs HVp ems hms hk
    go_enter Try.func6, Try.ntmps6
    go_wp2_with (first
      | (go_at_call 8; refine ((HA.out) _).mono ?_; rintro e w2 ⟨rfl, hb2⟩; replace hb := Below.chain hb hb2; clear hb2)
      | (go_at_call 11; refine ((HM.out) _).mono ?_; rintro e w' ⟨rfl, rfl⟩)
      | (go_at_call 9; refine ((HV.out) _).mono ?_; rintro e w2 ⟨rfl, hb2⟩; replace hb := Below.chain hb hb2; clear hb2)
      | (go_at_call 13; refine ((HK.out) _).mono ?_; rintro e w' ⟨rfl, rfl⟩)
      | (go_at_call 18; refine ((HP.out) _).mono ?_; rintro e w2 ⟨v, rfl, hown, hb2⟩; replace hb := Below.chain hb hb2; obtain ⟨g, cap, rfl, _, _, _, _, _⟩ := own_shape hown HN.out; clear hb2 hown))
    clear HA HM HV HP HN
    go_loop [3] (fun i => ∃ k : Nat, k ≤ s.size ∧ i = .int .i64 k) (fun i => s.size - (intOf i).toNat)
    case atStart => exact ⟨0, Nat.zero_le _, rfl⟩
    case round =>
      obtain ⟨k, hk, rfl⟩ := hrel
      by_cases hlt : k < s.size
      · have hc := word_cases s[k] (HW.out s[k] (List.mem_of_getElem? (Lib.Pa.at_eq s k hlt)))
        clear HK HS HMs HW
        rcases hc with ⟨h1, h2⟩ | ⟨h1, h2⟩ | h1 | h1 | ⟨h1, h2⟩ | h1
        all_goals
          go_wp2
          go_round
          case rel => exact ⟨k + 1, by omega, by go_num⟩
          case measure => simp [intOf]; omega
      · clear HW
        go_wp2_with (first
          | (go_at_call 13; refine ((HK.out) _).mono ?_; rintro e w' ⟨rfl, rfl⟩)
          | (go_at_call 15; refine ((HS.out) _).mono ?_; rintro e w' ⟨rfl, rfl⟩)
          | (go_at_call 11; refine ((HMs.out) _).mono ?_; rintro e w' ⟨rfl, rfl⟩))
        go_ret
        exact ⟨rfl, by assumption⟩
  · have hq : (s.toList == [60, 105, 110, 105, 116, 62]) = false := by rw [init_beq]; simpa using hi
    have h60 := valid_len hv
    have h1' := valid_ne hv
    have HW : Hid _ := valid_bytes hv
    rw [hlen] at h60 h1'
    have ems : (⟨(simpleL s.data.toList).toArray⟩ : ByteArray).data.toList = simpleL s.data.toList := by simp
    rw [ems, hms] at HMs
    have evp : (⟨(pkgL s.data.toList).toArray⟩ : ByteArray).data.toList = pkgL s.data.toList := by simp
    rw [evp, hvp] at HVp
    rw [hm] at HM
    rw [hv] at HV
    generalize pkgL s.data.toList = pk at *
    have hke : pk.isEmpty = false := by simpa using hk
    clear hi hlen hv hm hs ems hms evp hvp
    go_enter Try.func6, Try.ntmps6
    go_wp2_with (first
      | (go_at_call 8; refine ((HA.out) _).mono ?_; rintro e w2 ⟨rfl, hb2⟩; replace hb := Below.chain hb hb2; clear hb2)
      | (go_at_call 11; refine ((HM.out) _).mono ?_; rintro e w' ⟨rfl, rfl⟩)
      | (go_at_call 9; refine ((HV.out) _).mono ?_; rintro e w2 ⟨rfl, hb2⟩; replace hb := Below.chain hb hb2; clear hb2)
      | (go_at_call 13; refine ((HK.out) _).mono ?_; rintro e w' ⟨rfl, rfl⟩))
    clear HA HM HV
    go_loop [3] (fun i => ∃ k : Nat, k ≤ s.size ∧ i = .int .i64 k) (fun i => s.size - (intOf i).toNat)
    case atStart => exact ⟨0, Nat.zero_le _, rfl⟩
    case round =>
      obtain ⟨k, hk, rfl⟩ := hrel
      by_cases hlt : k < s.size
      · have hc := word_cases s[k] (HW.out s[k] (List.mem_of_getElem? (Lib.Pa.at_eq s k hlt)))
        clear HK HS HVp HMs HW
        rcases hc with ⟨h1, h2⟩ | ⟨h1, h2⟩ | h1 | h1 | ⟨h1, h2⟩ | h1
        all_goals
          go_wp2
          go_round
          case rel => exact ⟨k + 1, by omega, by go_num⟩
          case measure => simp [intOf]; omega
      · clear HW
        go_wp2_with (first
          | (go_at_call 13; refine ((HK.out) _).mono ?_; rintro e w' ⟨rfl, rfl⟩)
          | (go_at_call 15; refine ((HS.out) _).mono ?_; rintro e w' ⟨rfl, rfl⟩)
          | (go_at_call 11; refine ((HMs.out) _).mono ?_; rintro e w' ⟨rfl, rfl⟩)
          | (go_at_call 9; refine ((HVp.out) _).mono ?_; rintro e w2 ⟨rfl, hb2⟩; replace hb := Below.chain hb hb2; clear hb2))
        go_ret
        exact ⟨rfl, by assumption⟩

theorem namesValid_own : ownKnob Try.prog.godebug = none := by kernel_rfl

set_option linter.unusedVariables false in
set_option maxRecDepth 100000 in
theorem namesValid_lifted (os : Os) (started : os.Started) (H : Type) (enc : TypeId × Value → H) :
    ReturnsInHanded {} Try.checked os 6 .any (Rows.namesValidSpec.pre6 enc Try.prog Try.f6 Rows.namesValidRow.domain false) (Rows.namesValidSpec.post enc Try.prog Try.f6 false true false false) := by
  refine returnsInHanded_of_change (C := Try.checked) namesValid_own started (by kernel_rfl) Try.func6
    (ChangeSpec.witness6 (enc := enc) (C := Try.checked) false ⟨#[], #[.string ByteArray.empty], []⟩ 8 (by kernel_rfl) (by kernel_rfl) (by kernel_rfl) (by kernel_rfl)) ?_
  intro W base args ds gs before hval0 hW hcnd _
  have hval : ∀ (j : Nat) t v, Try.f6.params[j]? = some t → args[j]? = some v → Value.okWide Try.prog W .any base t v := hval0
  have hW' := hW
  obtain ⟨p, q, hA0, hV, rfl, hfz, hnd⟩ := hW
  have hA : DataW.TrodAll enc Try.prog W 0 (fun _ => true) true Try.f6.params.toList args.toList ds p := hA0
  rw [Try.params6] at hA hval
  obtain ⟨v0, vs0, d0, ds0, p0, q0, hargs, rfl, rfl, h0, r0⟩ := trodAll_cons hA
  obtain ⟨rfl, rfl, rfl⟩ := trodAll_nil r0
  obtain rfl : args = #[v0] := by cases args; simp_all
  obtain ⟨rfl, rfl⟩ := trodVars_none hV
  obtain ⟨a0, rfl, rfl, rfl, w0⟩ := open_string Try.underlying9 (hval 0 9 v0 rfl rfl) h0
  clear hA0 hval0
  simp only [List.append_nil] at hW'
  refine (namesValid_walk a0 w0 W).mono fun e W' ⟨he, bel⟩ => ?_
  subst he
  exact ⟨_, rfl, _, _, _, [], [], [], hW', trodAll_mk1 (shut_bool Try.underlying4 _), (trodAll_cons_mk (shut_string Try.underlying9 w0) trodAll_mk0), rfl, bel.frame _, fun h => by cases h⟩

theorem namesValid_over : Rows.namesValidRow.holds Try.pinned (OpenSpec.ofChange Rows.namesValidSpec) :=
  OpenClaim.holds_of_wide 6 Try.f6 rfl rfl rfl rfl rfl rfl rfl ⟨rfl, rfl, rfl, rfl, rfl⟩ rfl rfl rfl rfl rfl (by kernel_rfl) Try.func6 (by kernel_rfl)
    (of_decide_eq_true (by kernel_rfl)) (by unfold Func.isWrapper; first | (rw [if_pos (by decide +kernel)]; kernel_rfl) | (rw [if_neg (by decide +kernel)]; exact ⟨rfl, rfl⟩))
    (fun os started H enc _ => namesValid_lifted os started H enc)

/-- THE STATEMENT -/
theorem namesValid_holds : Rows.NamesValidSaid :=
  namesValid_over
#print axioms namesValid_holds

end Go.Proofs.Ytiinjaiigofbjaa
