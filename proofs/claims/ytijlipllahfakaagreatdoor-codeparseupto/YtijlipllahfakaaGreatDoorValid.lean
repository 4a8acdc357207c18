/- Walks of names.Valid and names.Member and of awake: each returns what the plain function on lists of bytes says; what was there before stays. -/
import Derived.Test.YtijlipllahfakaaGreatDoorCuts
namespace Go.Proofs.YtijlipllahfakaaGreatDoor
open Go.RowKit

theorem own_shape {w : World} {base : Nat} {v : Value} {ps : List (List UInt8)} (h : w.ownsRow base 9 1 v ps.length (ps.map strV)) (hne : ps ≠ []) :
    ∃ g cap, v = .slice (some ⟨g, 0, none⟩) ps.length cap ∧ base ≤ g ∧ g < w.heap.size ∧ ps.length ≤ cap ∧ cap ≤ maxLen ∧ ∀ k p, ps[k]? = some p → w.cell? ⟨g, k, none⟩ = some (.string ⟨p.toArray⟩) := by
  have h' := h
  rcases h.2 with ⟨_, h0⟩ | ⟨g, cap, cur, rfl, hb, hg, hn, hm, _, _⟩
  · exact absurd (List.eq_nil_of_length_eq_zero h0) hne
  · refine ⟨g, cap, rfl, hb, (Array.getElem?_eq_some_iff.1 hg).1, hn, hm, fun k p hk => ?_⟩
    have hlt : k < ps.length := (List.getElem?_eq_some_iff.1 hk).1
    rw [h'.cellAt k (by omega), List.getElem?_map, hk]
    rfl

theorem partsL_mem (l : List UInt8) : ∀ p ∈ partsL l, p.length ≤ l.length := by
  induction l with
  | nil => intro p hp; simp [partsL] at hp; simp [hp]
  | cons c l ih =>
    intro p hp
    unfold partsL at hp
    split at hp
    · rcases List.mem_cons.1 hp with rfl | h
      · simp
      · have := ih p h; simp; omega
    · split at hp
      · simp at hp; simp [hp]
      · rename_i q qs e
        rw [e] at ih
        rcases List.mem_cons.1 hp with rfl | h
        · have := ih q (List.mem_cons_self ..); simp; omega
        · have := ih p (List.mem_cons_of_mem _ h); simp; omega

theorem all_step (ps : List (List UInt8)) (k : Nat) (p : List UInt8) (h : ps[k]? = some p) : (ps.take (k + 1)).all partL = ((ps.take k).all partL && partL p) := by
  obtain ⟨hlt, rfl⟩ := List.getElem?_eq_some_iff.1 h
  rw [List.take_succ_eq_append_getElem hlt, List.all_append]
  simp

theorem all_stop (ps : List (List UInt8)) (k : Nat) (p : List UInt8) (h : ps[k]? = some p) (hp : partL p = false) : ps.all partL = false := by
  rw [List.all_eq_false]
  exact ⟨p, List.mem_of_getElem? h, by simp [hp]⟩

set_option maxHeartbeats 400000 in
theorem valid_any (s : ByteArray) (hs : s.size ≤ maxLen) (w : World) :
    Calls Tryz.prog 63 #[.string s] w fun e w' => e = .returned (.bool (validL s.data.toList)) ∧ Below w.heap.size w w' := by
  have hlen : s.data.toList.length = s.size := by simp
  unfold maxLen at hs
  by_cases h60 : s.size ≤ 60
  · have HV : Hid (validL s.data.toList = (partsL s.data.toList).all partL) := by unfold validL; rw [hlen]; simp [Hid, h60]
    have HP : Hid (∀ w, _) := parts_any s (by omega)
    have hne := partsL_ne s.data.toList
    have hpl := partsL_length s.data.toList
    rw [hlen] at hpl
    have hel : ∀ p ∈ partsL s.data.toList, p.length ≤ 60 := fun p hp => by have := partsL_mem s.data.toList p hp; omega
    generalize validL s.data.toList = b at *
    generalize partsL s.data.toList = ps at *
    have HN : Hid (ps ≠ []) := hne
    have HE : Hid (∀ p ∈ ps, p.length ≤ 60) := hel
    clear hne hlen hel
    go_enter Tryz.func63, Tryz.ntmps63
    go_wp2_with (go_at_call 79; refine ((HP.out) _).mono ?_; rintro e w1 ⟨v, rfl, hown, hbel⟩; obtain ⟨g, cap, rfl, hg, hgl, hcap, hcm, hcell⟩ := own_shape hown HN.out; clear hown)
    have HC : Hid (∀ k p, ps[k]? = some p → w1.cell? ⟨g, k, none⟩ = some (.string ⟨p.toArray⟩)) := hcell
    clear hcell HP HN
    go_loop [11] (fun i => ∃ k : Nat, k ≤ ps.length ∧ i = .int .i64 k ∧ Hid ((ps.take k).all partL = true)) (fun i => ps.length - (intOf i).toNat)
    case atStart => exact ⟨0, Nat.zero_le _, rfl, by simp [Hid]⟩
    case round =>
      obtain ⟨k, hk, rfl, hr⟩ := hrel
      by_cases hlt : k < ps.length
      · obtain ⟨p, hp⟩ : ∃ p, ps[k]? = some p := ⟨_, List.getElem?_eq_getElem hlt⟩
        have hc := HC.out k p hp
        have HS : Hid _ := all_step ps k p hp
        have HF : Hid _ := all_stop ps k p hp
        have hl60 := HE.out p (List.mem_of_getElem? hp)
        have HI : Hid (∀ w, _) := isPart_any ⟨p.toArray⟩ (by rw [mk_size]; unfold maxLen; omega)
        clear hp
        have e : (⟨p.toArray⟩ : ByteArray).data.toList = p := by simp
        rw [e] at HI
        clear e
        generalize partL p = d at *
        cases d
        · go_wp2_with (go_at_call 69; refine ((HI.out) _).mono ?_; rintro e w' ⟨rfl, rfl⟩)
          go_ret
          exact ⟨ret_bool (by rw [HV.out]; exact (HF.out trivial).symm), hbel⟩
        · go_wp2_with (go_at_call 69; refine ((HI.out) _).mono ?_; rintro e w' ⟨rfl, rfl⟩)
          go_round
          case rel => exact ⟨k + 1, by omega, by go_num, by rw [Hid, HS.out, hr.out]; rfl⟩
          case measure => simp [intOf]; omega
      · have hk' : k = ps.length := by omega
        go_wp2
        go_ret
        refine ⟨ret_bool ?_, hbel⟩
        rw [HV.out, ← hr.out, hk', List.take_length]
  · have HV : Hid (validL s.data.toList = false) := by unfold validL; rw [hlen]; simp [Hid, h60]
    clear hlen
    go_enter Tryz.func63, Tryz.ntmps63
    go_wp2
    go_ret
    exact ⟨ret_bool HV.out.symm, Below.refl _ _⟩

theorem init_beq (s : ByteArray) : (s.toList == [60, 105, 110, 105, 116, 62]) = (s.data.toList == initL) := by rw [Lib.toList_data]; rfl

set_option maxHeartbeats 400000 in
theorem member_any (s : ByteArray) (hs : s.size ≤ maxLen) (w : World) :
    Calls Tryz.prog 43 #[.string s] w fun e w' => e = .returned (.bool (memberL s.data.toList)) ∧ w' = w := by
  have hlen : s.data.toList.length = s.size := by simp
  have HM : Hid (memberL s.data.toList = ((s.toList == [60, 105, 110, 105, 116, 62]) || (decide (s.size ≤ 60) && partL s.data.toList))) := by
    unfold memberL; rw [init_beq, hlen]; rfl
  have HI : Hid (∀ w, _) := isPart_any s hs
  unfold maxLen at hs
  generalize memberL s.data.toList = b at *
  generalize partL s.data.toList = d at *
  clear hlen
  by_cases hq : (s.toList == [60, 105, 110, 105, 116, 62]) = true
  · go_enter Tryz.func43, Tryz.ntmps43
    go_wp2
    go_ret
    exact ⟨ret_bool (by rw [HM.out]; simp [hq]), rfl⟩
  · have hq' : (s.toList == [60, 105, 110, 105, 116, 62]) = false := by simpa using hq
    clear hq
    by_cases h60 : s.size ≤ 60
    · go_enter Tryz.func43, Tryz.ntmps43
      go_wp2_with (go_at_call 69; refine ((HI.out) _).mono ?_; rintro e w' ⟨rfl, rfl⟩)
      go_ret
      exact ⟨ret_bool (by rw [HM.out, hq']; simp [h60]), rfl⟩
    · go_enter Tryz.func43, Tryz.ntmps43
      go_wp2
      go_ret
      exact ⟨ret_bool (by rw [HM.out, hq']; simp [h60]), rfl⟩

end Go.Proofs.YtijlipllahfakaaGreatDoor
