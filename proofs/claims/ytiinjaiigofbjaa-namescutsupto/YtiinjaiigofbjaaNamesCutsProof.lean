/-
  For every text of bulk at most 1048576, the Go function arbiterlaw01.NamesCuts returns true: package, separator and simple name are the name, the parts joined by hand are the name, and a valid name's parts are joined to it again.
  The statement is 'Rows.NamesCutsUptoSaid': texts so great that their parts' list passes the memory's end are left out.
-/
import Derived.Test.YtiinjaiigofbjaaRows
import Derived.Test.YtiinjaiigofbjaaJoin
import Derived.Test.YtiinjaiigofbjaaFacts2
import Derived.WalkKit
import Derived.ProofKit
import Derived.OpenShut
import Derived.ShutString
import Derived.Carry
import Derived.JoinedCond
import Derived.Deep.QuietTactic
import Derived.BigQuiet
namespace Go.Proofs.Ytiinjaiigofbjaa
open Go.ChangeShapes Go.WideShapes Go.ChangeAt Go.RowKit
open Go.ChangeMaps (open_string shut_string)

theorem Below.link {w w1 w2 : World} (h1 : Below w.heap.size w w1) (h2 : Below w1.heap.size w1 w2) : Below w.heap.size w w2 := h1.trans (h2.mono h1.size)
theorem IsStrs.drawn {w : World} {v : Value} {ps : List (List UInt8)} (h : IsStrs w v ps) (q : Nat) : IsStrs (w.drewN q) v ps := h

theorem joinOk_parts (l : List UInt8) : joinOk (partsL l) = validL l := by
  unfold joinOk validL
  rw [parts_len]
  have : (partsL l).isEmpty = false := by
    cases e : partsL l with
    | nil => exact absurd e (partsL_ne l)
    | cons a b => rfl
  rw [this]
  simp [Bool.and_comm]

theorem cat_data (x : ByteArray) (p : List UInt8) : (x ++ ⟨#[47]⟩ ++ ⟨p.toArray⟩ : ByteArray).data.toList = x.data.toList ++ 47 :: p := by
  simp [ByteArray.data_append]
theorem cat_size (x : ByteArray) (p : List UInt8) : (x ++ ⟨#[47]⟩ ++ ⟨p.toArray⟩ : ByteArray).size = x.size + 1 + p.length := by
  rw [ByteArray.size_append, ByteArray.size_append, mk_size]; rfl

set_option maxHeartbeats 1000000 in
theorem namesCuts_walk (s : ByteArray) (hs : s.size ≤ 1048576) (w : World) :
    Calls Try.prog 4 #[.string s] w fun e w' => e = .returned (.bool true) ∧ Below w.heap.size w w' := by
  have hb : Below w.heap.size w w := Below.refl _ _
  have hlen : s.data.toList.length = s.size := by simp
  have hsm : s.size ≤ maxLen := by unfold maxLen; omega
  have HA : Hid (∀ w, _) := awake_any
  have HP : Hid (∀ w, _) := parts_any s (by omega)
  have HV : Hid (∀ w, _) := valid_any s hsm
  have HK : Hid (∀ w, _) := package_any s hsm
  have HS : Hid (∀ w, _) := simple_any s hsm
  have HN : Hid _ := partsL_ne s.data.toList
  have hpl := partsL_length s.data.toList
  have HJ : Hid (∀ v w, IsStrs w v (partsL s.data.toList) → Calls Try.prog 22 #[v] w fun e w' => e = .returned (.tuple #[.string ⟨(joinS (partsL s.data.toList)).toArray⟩, .int .i64 (joinE (partsL s.data.toList))]) ∧ Below w.heap.size w w') :=
    fun v w h => join_any v _ w h (by omega) (fun p hp => by have := partsL_mem _ p hp; omega)
  have HT : Hid _ := join_take_le s.data.toList
  have HG : Hid _ := join_parts s.data.toList
  have hpos : 0 < (partsL s.data.toList).length := by
    cases e : partsL s.data.toList with
    | nil => exact absurd e (partsL_ne _)
    | cons a b => simp
  have HC : Hid _ := cut_cases s.data.toList
  have HO : Hid _ := joinOk_parts s.data.toList
  rw [hlen] at HT hpl
  have HSL : Hid (s.data.toList.length = s.size) := hlen
  generalize partsL s.data.toList = ps at *
  have h0 : ((ps.length : Int) == 0) = false := by rw [beq_eq_false_iff_ne]; omega
  clear hlen hsm
  go_enter Try.func4, Try.ntmps4
  go_wp2_with (first
    | (go_at_call 8; refine ((HA.out) _).mono ?_; rintro e w2 ⟨rfl, hb2⟩; replace hb := Below.link hb hb2; clear hb2)
    | (go_at_call 18; refine ((HP.out) _).mono ?_; rintro e w2 ⟨v, rfl, hown, hb2⟩; replace hb := Below.link hb hb2; have HI : Hid (IsStrs _ _ _) := own_strs hown; obtain ⟨g, cap, rfl, _, hgl, hcap, hcm, hcell⟩ := own_shape hown HN.out; have hc0 := hcell 0 _ (List.getElem?_eq_getElem hpos); have HE : Hid (∀ k p, ps[k]? = some p → w2.cell? ⟨g, k, none⟩ = some (.string ⟨p.toArray⟩)) := hcell; clear hb2 hown hcell))
  go_loop [4, 5] (fun t i => ∃ (k : Nat) (x : ByteArray), 1 ≤ k ∧ k ≤ ps.length ∧ t = .string x ∧ i = .int .i64 k ∧ x.size ≤ 1048576 ∧ Hid (x.data.toList = Lib.join (ps.take k) [47])) (fun _ i => ps.length - (intOf i).toNat)
  case atStart =>
    have e1 : Lib.join (ps.take 1) [47] = ps[0] := join_take_one ps _ (List.getElem?_eq_getElem hpos)
    have e2 := HT.out 1
    rw [e1] at e2
    exact ⟨1, ⟨ps[0].toArray⟩, Nat.le_refl _, by omega, rfl, rfl, by rw [mk_size]; omega, by rw [e1]; rfl⟩
  case round =>
    obtain ⟨k, x, hk1, hk, rfl, rfl, hx, hr⟩ := hrel
    by_cases hkl : k < ps.length
    · obtain ⟨p, hpk⟩ : ∃ p, ps[k]? = some p := ⟨_, List.getElem?_eq_getElem hkl⟩
      have hc := HE.out k p hpk
      have HL : Hid _ := join_take_succ ps k p hk1 hpk
      have hle := HT.out (k + 1)
      have hrl : (Lib.join (ps.take k) [47]).length = x.size := by rw [← hr.out]; simp
      rw [HL.out, List.length_append, hrl] at hle
      have hpz : x.size + 1 + p.length ≤ 1048576 := by simp at hle; omega
      have hms : (⟨p.toArray⟩ : ByteArray).size = p.length := mk_size p
      clear hpk hrl hle HE HI HC HO HJ HG HA HP HV HK HS HN HT HSL
      go_wp2
      go_round
      case rel => exact ⟨k + 1, _, by omega, by omega, rfl, by go_num, by rw [cat_size]; omega, by rw [Hid, cat_data, hr.out, HL.out]⟩
      case measure => simp [intOf]; omega
    · have hk' : k = ps.length := by omega
      have hxs : x = s := by apply bytes_ext; rw [hr.out, hk', List.take_length, HG.out]
      subst hxs
      clear hr hk1 hx hk' HT HA HP HN
      have hxx : (⟨x.data.toList.toArray⟩ : ByteArray) = x := rfl
      have HJ2 : Hid (∀ v w, IsStrs w v ps → Calls Try.prog 22 #[v] w fun e w' => e = .returned (.tuple #[.string (if validL x.data.toList then x else ⟨#[]⟩), .int .i64 (if validL x.data.toList then 0 else 1)]) ∧ Below w.heap.size w w') := by
        have := HJ.out
        unfold joinS joinE at this
        rw [HO.out, HG.out] at this
        cases hv : validL x.data.toList with
        | true => rw [hv] at this; exact this
        | false => rw [hv] at this; exact this
      clear HJ HO HG
      generalize validL x.data.toList = b at *
      rcases HC.out with ⟨c1, c2, c3⟩ | ⟨c1, c2, c3⟩
      · rw [c2] at HK
        rw [c3, hxx] at HS
        have hn1 : ps.length ≤ 1 := by rw [c1]; exact Nat.le_refl _
        have hcl := HE.out 0 x.data.toList (by rw [c1]; rfl)
        rw [hxx] at hcl
        clear hc0
        have hq1 : ((ps.length : Int) == 1) = true := by rw [beq_iff_eq]; omega
        clear HE HC c1 c2 c3 hxx HSL hpl h0
        cases b
        all_goals
          go_wp2
          go_quiet ((go_at_call 15; exact Calls.quiet_of_same (HS.out _)))
          go_wp2_with (first
            | (go_at_call 13; refine ((HK.out) _).mono ?_; rintro e w' ⟨rfl, rfl⟩)
            | (go_at_call 15; refine ((HS.out) _).mono ?_; rintro e w' ⟨rfl, rfl⟩)
            | (go_at_call 22; refine (HJ2.out _ _ (IsStrs.drawn HI.out _)).mono ?_; rintro e w3 ⟨rfl, hb3⟩; replace hb := Below.link (below_drewN hb _) hb3; clear hb3)
            | (go_at_call 9; refine ((HV.out) _).mono ?_; rintro e w4 ⟨rfl, hb4⟩; replace hb := Below.link hb hb4; clear hb4))
          go_ret
          exact ⟨rfl, by assumption⟩
      · have hcl := HE.out (ps.length - 1) _ c2
        have hq1 : ((ps.length : Int) == 1) = false := by rw [beq_eq_false_iff_ne]; omega
        have hcat : (⟨(pkgL x.data.toList).toArray⟩ ++ ⟨#[47]⟩ ++ ⟨(simpleL x.data.toList).toArray⟩ : ByteArray) = x := by
          apply bytes_ext; rw [cat_data]; exact c3
        have hz1 : (pkgL x.data.toList).length ≤ 1048576 := by have := congrArg List.length c3; rw [HSL.out] at this; simp at this; omega
        have hz2 : (simpleL x.data.toList).length ≤ 1048576 := by have := congrArg List.length c3; rw [HSL.out] at this; simp at this; omega
        have hcat2 : ((⟨(pkgL x.data.toList).toArray⟩ ++ ⟨#[47]⟩ ++ ⟨(simpleL x.data.toList).toArray⟩ : ByteArray).toList == x.toList) = true := by rw [hcat]; simp
        clear HE HC c2 c3 hxx HSL h0 hcat
        generalize pkgL x.data.toList = pk at *
        generalize simpleL x.data.toList = sk at *
        have hm1 : (⟨pk.toArray⟩ : ByteArray).size = pk.length := mk_size pk
        have hm2 : (⟨sk.toArray⟩ : ByteArray).size = sk.length := mk_size sk
        cases b
        all_goals
          go_wp2
          go_quiet ((go_at_call 15; exact Calls.quiet_of_same (HS.out _)))
          go_wp2_with (first
            | (go_at_call 13; refine ((HK.out) _).mono ?_; rintro e w' ⟨rfl, rfl⟩)
            | (go_at_call 15; refine ((HS.out) _).mono ?_; rintro e w' ⟨rfl, rfl⟩)
            | (go_at_call 22; refine (HJ2.out _ _ (IsStrs.drawn HI.out _)).mono ?_; rintro e w3 ⟨rfl, hb3⟩; replace hb := Below.link (below_drewN hb _) hb3; clear hb3)
            | (go_at_call 9; refine ((HV.out) _).mono ?_; rintro e w4 ⟨rfl, hb4⟩; replace hb := Below.link hb hb4; clear hb4))
          go_ret
          exact ⟨rfl, by assumption⟩

theorem namesCuts_own : ownKnob Try.prog.godebug = none := by kernel_rfl

theorem short_namesCuts {H : Type} {a0 : ByteArray} (hk : Rows.uptoSmall H [.lit (.string a0.data.toList)] = true) : a0.size ≤ 1048576 := by
  have h : Rows.uptoBulkAll (H := H) [.lit (.string a0.data.toList)] ≤ 1048576 := of_decide_eq_true hk
  simp only [Rows.uptoBulkAll, Rows.uptoBulk] at h
  have e0 : a0.data.toList.length = a0.size := by rw [Array.length_toList]; rfl
  omega

set_option linter.unusedVariables false in
theorem namesCuts_contract (H : Type) (enc : TypeId × Value → H) (W : World) (base : Nat) (args : Array Value) (ds gs : List (DataW H)) (before : List MemPlace)
    (hval : ∀ (j : Nat) t v, Try.f4.params[j]? = some t → args[j]? = some v → Value.okWide Try.prog W .any base t v)
    (hW : DataW.Whole enc Try.prog Try.f4.params.toList Rows.namesCutsSpec.vars false W args.toList ds gs before) (hk : Rows.uptoSmall H (ds ++ gs) = true) :
    Calls Try.prog 4 args W fun e W' => ∃ v, e = .returned v ∧ Rows.namesCutsSpec.post enc Try.prog Try.f4 false true false false W args v W' := by
  have hW' := hW
  obtain ⟨p, q, hA0, hV, rfl, hfz, hnd⟩ := hW
  have hA : DataW.TrodAll enc Try.prog W 0 (fun _ => true) true Try.f4.params.toList args.toList ds p := hA0
  rw [Try.params4] at hA hval
  obtain ⟨v0, vs0, d0, ds0, p0, q0, hargs, rfl, rfl, h0, r0⟩ := trodAll_cons hA
  obtain ⟨rfl, rfl, rfl⟩ := trodAll_nil r0
  obtain rfl : args = #[v0] := by cases args; simp_all
  obtain ⟨rfl, rfl⟩ := trodVars_none hV
  obtain ⟨a0, rfl, rfl, rfl, m0⟩ := open_string Try.underlying9 (hval 0 9 v0 rfl rfl) h0
  clear hA0
  simp only [List.append_nil] at hW' hk
  refine (namesCuts_walk a0 (short_namesCuts hk) W).mono fun e W' ⟨he, bel⟩ => ?_
  subst he
  exact ⟨_, rfl, _, _, _, [], [], [], hW', trodAll_mk1 (shut_bool Try.underlying4 _), (trodAll_cons_mk (shut_string Try.underlying9 m0) trodAll_mk0), rfl, bel.frame _, fun h => by cases h⟩

set_option maxRecDepth 100000 in
theorem namesCuts_lifted (os : Os) (started : os.Started) (H : Type) (enc : TypeId × Value → H) (F : Stop.Interp) :
    ReturnsInHanded {} Try.checked os 4 .any ((Rows.OpenSpec.upto Rows.namesCutsSpec).pre6 enc Try.prog Try.f4 Rows.namesCutsUptoRow.domain false) (((Rows.OpenSpec.upto Rows.namesCutsSpec).at F).post enc Try.prog Try.f4 false true false false) := by
  refine returnsInHanded_of_cond (C := Try.checked) (s := Rows.OpenSpec.upto Rows.namesCutsSpec) (k := Rows.uptoSmall) rfl namesCuts_own started (by kernel_rfl) Try.func4
    (OpenSpec.witness (enc := enc) (C := Try.checked) (s := Rows.OpenSpec.upto Rows.namesCutsSpec) (k := Rows.uptoSmall) rfl false ⟨#[], #[.string .empty], []⟩ 8 (by kernel_rfl) (by kernel_rfl) (by kernel_rfl)
      (x := ([.lit (.string [])], [], [])) (by kernel_rfl) rfl (by kernel_rfl)) ?_
  intro W base args ds gs before hval hW _ hk _
  exact namesCuts_contract H enc W base args ds gs before hval hW hk

/-- THE STATEMENT -/
theorem namesCuts_holds : Rows.NamesCutsUptoSaid :=
  OpenClaim.holds_of_cond 4 Try.f4 rfl rfl rfl rfl rfl rfl rfl ⟨rfl, rfl, rfl, rfl, rfl⟩ rfl rfl rfl rfl rfl (by kernel_rfl) Try.func4 (by kernel_rfl)
    (of_decide_eq_true (by kernel_rfl)) (by unfold Func.isWrapper; first | (rw [if_pos (by decide +kernel)]; kernel_rfl) | (rw [if_neg (by decide +kernel)]; exact ⟨rfl, rfl⟩))
    (fun os started H enc _ F => namesCuts_lifted os started H enc F)
#print axioms namesCuts_holds

end Go.Proofs.Ytiinjaiigofbjaa
