/- Walks of the document's answers of layer 1 (arbiterref01) that read lists: Valid, SameTexts, Compare: each returns what the plain function says; what was there before stays. -/
import Derived.Test.YtijlipllahfakaaGreatDoorRefParts
namespace Go.Proofs.YtijlipllahfakaaGreatDoor
open Go.RowKit

set_option maxRecDepth 100000 in
set_option maxHeartbeats 400000 in
theorem rValid_any (s : ByteArray) (hs : s.size ≤ maxLen) (w : World) :
    Calls Tryz.prog 33 #[.string s] w fun e w' => e = .returned (.bool (validL s.data.toList)) ∧ Below w.heap.size w w' := by
  have hlen : s.data.toList.length = s.size := by simp
  unfold maxLen at hs
  by_cases h60 : s.size ≤ 60
  · have HV : Hid (validL s.data.toList = (partsL s.data.toList).all partL) := by unfold validL; rw [hlen]; simp [Hid, h60]
    have HP : Hid (∀ w, _) := rParts_any s (by omega)
    have hne := partsL_ne s.data.toList
    have hpl := partsL_length s.data.toList
    rw [hlen] at hpl
    have hel : ∀ p ∈ partsL s.data.toList, p.length ≤ 60 := fun p hp => by have := partsL_mem s.data.toList p hp; omega
    generalize validL s.data.toList = b at *
    generalize partsL s.data.toList = ps at *
    have HN : Hid (ps ≠ []) := hne
    have HE : Hid (∀ p ∈ ps, p.length ≤ 60) := hel
    clear hne hlen hel
    go_enter Tryz.func33, Tryz.ntmps33
    go_wp2_with (go_at_call 52; refine ((HP.out) _).mono ?_; rintro e w1 ⟨v, rfl, hown, hbel⟩; obtain ⟨g, cap, rfl, hg, hgl, hcap, hcm, hcell⟩ := own_shape hown HN.out; clear hown)
    have HC : Hid (∀ k p, ps[k]? = some p → w1.cell? ⟨g, k, none⟩ = some (.string ⟨p.toArray⟩)) := hcell
    clear hcell HP HN
    go_loop [4] (fun i => ∃ k : Nat, k ≤ ps.length ∧ i = .int .i64 k ∧ Hid ((ps.take k).all partL = true)) (fun i => ps.length - (intOf i).toNat)
    case atStart => exact ⟨0, Nat.zero_le _, rfl, by simp [Hid]⟩
    case round =>
      obtain ⟨k, hk, rfl, hr⟩ := hrel
      by_cases hlt : k < ps.length
      · obtain ⟨p, hp⟩ : ∃ p, ps[k]? = some p := ⟨_, List.getElem?_eq_getElem hlt⟩
        have hc := HC.out k p hp
        have HS : Hid _ := all_step ps k p hp
        have HF : Hid _ := all_stop ps k p hp
        have hl60 := HE.out p (List.mem_of_getElem? hp)
        have HI : Hid (∀ w, _) := rPart_any ⟨p.toArray⟩ (by rw [mk_size]; unfold maxLen; omega)
        clear hp
        have e : (⟨p.toArray⟩ : ByteArray).data.toList = p := by simp
        rw [e] at HI
        clear e
        generalize partL p = d at *
        cases d
        · go_wp2_with (go_at_call 53; refine ((HI.out) _).mono ?_; rintro e w' ⟨rfl, rfl⟩)
          go_ret
          exact ⟨ret_bool (by rw [HV.out]; exact (HF.out trivial).symm), hbel⟩
        · go_wp2_with (go_at_call 53; refine ((HI.out) _).mono ?_; rintro e w' ⟨rfl, rfl⟩)
          go_round
          case rel => exact ⟨k + 1, by omega, by go_num, by rw [Hid, HS.out, hr.out]; rfl⟩
          case measure => simp [intOf]; omega
      · have hk' : k = ps.length := by omega
        go_wp2
        go_ret
        refine ⟨ret_bool ?_, hbel⟩
        rw [HV.out, ← hr.out, hk', List.take_length]
  · have HV : Hid (validL s.data.toList = false) := by unfold validL; rw [hlen]; simp [Hid, h60]
    clear hlen
    go_enter Tryz.func33, Tryz.ntmps33
    go_wp2
    go_ret
    exact ⟨ret_bool HV.out.symm, Below.refl _ _⟩

theorem same_stop (ps qs : List (List UInt8)) (k : Nat) (p q : List UInt8) (hp : ps[k]? = some p) (hq : qs[k]? = some q) (h : p ≠ q) : decide (ps = qs) = false := by
  simp only [decide_eq_false_iff_not]
  intro e
  rw [e, hq] at hp
  exact h (Option.some.inj hp).symm

theorem same_end (ps qs : List (List UInt8)) (h : ps.length = qs.length) (ht : ps.take ps.length = qs.take ps.length) : decide (ps = qs) = true := by
  rw [List.take_length, h, List.take_length] at ht
  simp [ht]

end Go.Proofs.YtijlipllahfakaaGreatDoor
