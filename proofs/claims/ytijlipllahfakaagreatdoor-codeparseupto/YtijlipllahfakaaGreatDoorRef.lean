/- Walks of the document's answers of layer 1 (arbiterref01) that take one text and make no list: each returns what the plain function on lists of bytes says; the world stays. -/
import Derived.Test.YtijlipllahfakaaGreatDoorCompare
namespace Go.Proofs.YtijlipllahfakaaGreatDoor
open Go.RowKit

set_option maxHeartbeats 400000 in
theorem rLetter_any (c : Int) (w : World) :
    Calls Tryz.prog 74 #[.int .u8 c] w fun e w' => e = .returned (.bool (ltrI c)) ∧ w' = w := by
  go_enter Tryz.func74, Tryz.ntmps74
  go_wp2
  all_goals (go_ret; exact ⟨ret_bool (by rw [Bool.eq_iff_iff]; simp [ltrI]; try omega), rfl⟩)

theorem lastIdx_hit (s : ByteArray) (k : Nat) (h : k < s.size) (e : ((s[k].toNat : Int) == 47) = true) : Lib.Pa.lastIdx s.data.toList 47 (k + 1) = (k : Int) := by
  rw [Lib.Pa.lastIdx, Lib.Pa.at_eq s k h, if_pos]
  congr 1; apply UInt8.toNat_inj.1; have := beq_iff_eq.1 e; simpa using (by omega : (s[k]).toNat = 47)
theorem lastIdx_miss (s : ByteArray) (k : Nat) (h : k < s.size) (e : ((s[k].toNat : Int) == 47) = false) : Lib.Pa.lastIdx s.data.toList 47 (k + 1) = Lib.Pa.lastIdx s.data.toList 47 k := by
  rw [Lib.Pa.lastIdx, Lib.Pa.at_eq s k h, if_neg]
  intro q
  have h' : s[k] = 47 := by simpa using q
  rw [h'] at e; simp at e

theorem ltr_not_dig (c : Int) (h : ltrI c = true) : digI c = false := by
  simp [ltrI] at h
  simp [digI]
  omega

set_option maxHeartbeats 1000000 in
theorem rPart_any (s : ByteArray) (hs : s.size ≤ maxLen) (w : World) :
    Calls Tryz.prog 53 #[.string s] w fun e w' => e = .returned (.bool (partL s.data.toList)) ∧ w' = w := by
  unfold maxLen at hs
  have HP : Hid (∀ h : 0 < s.size, partL s.data.toList = (!digI (s[0]).toNat && s.data.toList.all wordB)) := partL_head s
  have H0 : Hid (s.size = 0 → partL s.data.toList = false) := fun h => by
    have : s.data.toList.length = 0 := by simpa using h
    rw [List.eq_nil_of_length_eq_zero this]; rfl
  generalize partL s.data.toList = b at *
  go_enter Tryz.func53, Tryz.ntmps53
  go_wp2
  go_loop [3] (fun i => ∃ k : Nat, k ≤ s.size ∧ i = .int .i64 k ∧ Hid ((s.data.toList.take k).all wordB = true) ∧ Hid (∀ h : 0 < s.size, 0 < k → digI (s[0]).toNat = false)) (fun i => s.size - (intOf i).toNat)
  case atStart => exact ⟨0, Nat.zero_le _, rfl, by simp [Hid], fun _ h => absurd h (by omega)⟩
  case round =>
    obtain ⟨k, hk, rfl, hr, hd0⟩ := hrel
    by_cases hlt : k < s.size
    · have HS : Hid _ := all_take_succ s wordB k hlt
      have HF : Hid _ := all_false_of s wordB k hlt
      have hw : wordB s[k] = (ltrI (s[k]).toNat || digI (s[k]).toNat) := rfl
      rw [hw] at HS HF
      clear hw
      have HL : Hid (∀ w, _) := rLetter_any (s[k]).toNat
      have HN : Hid _ := ltr_not_dig (s[k]).toNat
      have HD : Hid (digI (s[k]).toNat = (decide (48 ≤ ((s[k]).toNat : Int)) && decide (((s[k]).toNat : Int) ≤ 57))) := rfl
      have HK : Hid (k = 0 → ∀ h : 0 < s.size, digI (s[0]).toNat = digI (s[k]).toNat) := fun e h => by subst e; rfl
      generalize ltrI (s[k]).toNat = l at *
      cases l
      · by_cases h0 : k = 0
        · have hb : b = false := by
            rw [HP.out (by omega)]
            rw [HK.out h0 (by omega)]
            have := HF.out
            generalize digI (s[k]).toNat = d at *
            cases d
            · rw [this rfl]; rfl
            · rfl
          subst hb
          subst h0
          clear HP H0 HS HF HN HD HK hr hd0
          go_wp2_with (go_at_call 74; refine ((HL.out) _).mono ?_; rintro e w' ⟨rfl, rfl⟩)
          go_ret
          exact ⟨rfl, rfl⟩
        · have hkb : ((k : Int) == 0) = false := by rw [beq_eq_false_iff_ne]; omega
          generalize digI (s[k]).toNat = d at *
          cases d
          · have hb : b = false := by rw [HP.out (by omega), HF.out rfl]; simp
            subst hb
            have hor : ((s[k]).toNat : Int) < 48 ∨ 57 < ((s[k]).toNat : Int) := by have := HD.out; simp at this; omega
            clear HP H0 HS HF HN HD HK hr hd0
            rcases hor with h | h
            · go_wp2_with (go_at_call 74; refine ((HL.out) _).mono ?_; rintro e w' ⟨rfl, rfl⟩)
              go_ret
              exact ⟨rfl, rfl⟩
            · go_wp2_with (go_at_call 74; refine ((HL.out) _).mono ?_; rintro e w' ⟨rfl, rfl⟩)
              go_ret
              exact ⟨rfl, rfl⟩
          · have h1 : (48 : Int) ≤ ((s[k]).toNat : Int) := by have := HD.out; simp at this; omega
            have h2 : ((s[k]).toNat : Int) ≤ 57 := by have := HD.out; simp at this; omega
            clear HP H0 HF HN HD HK
            go_wp2_with (go_at_call 74; refine ((HL.out) _).mono ?_; rintro e w' ⟨rfl, rfl⟩)
            go_round
            case rel => exact ⟨k + 1, by omega, by go_num, by rw [Hid, HS.out, hr.out]; rfl, fun h _ => hd0.out h (by omega)⟩
            case measure => simp [intOf]; omega
      · have HQ : Hid (∀ h : 0 < s.size, 0 < k + 1 → digI (s[0]).toNat = false) := fun h _ => by
          by_cases h0 : k = 0
          · rw [HK.out h0 h]; exact HN.out rfl
          · exact hd0.out h (by omega)
        clear HP H0 HF HN HD HK
        go_wp2_with (go_at_call 74; refine ((HL.out) _).mono ?_; rintro e w' ⟨rfl, rfl⟩)
        go_round
        case rel => exact ⟨k + 1, by omega, by go_num, by rw [Hid, HS.out, hr.out]; rfl, HQ⟩
        case measure => simp [intOf]; omega
    · have hk' : k = s.size := by omega
      by_cases hz : s.size = 0
      · have hb := H0.out hz
        clear HP H0 hr hd0 hk'
        go_wp2
        go_ret
        exact ⟨ret_bool rfl, rfl⟩
      · have hb : b = true := by
          rw [HP.out (by omega), hd0.out (by omega) (by omega), ← all_take_full, ← hk', hr.out]; rfl
        clear HP H0 hr hd0 hk'
        go_wp2
        go_ret
        exact ⟨ret_bool (by simp; omega), rfl⟩

set_option maxHeartbeats 400000 in
theorem rMember_any (s : ByteArray) (hs : s.size ≤ maxLen) (w : World) :
    Calls Tryz.prog 44 #[.string s] w fun e w' => e = .returned (.bool (memberL s.data.toList)) ∧ w' = w := by
  have hlen : s.data.toList.length = s.size := by simp
  have HM : Hid (memberL s.data.toList = ((s.toList == [60, 105, 110, 105, 116, 62]) || (decide (s.size ≤ 60) && partL s.data.toList))) := by
    unfold memberL; rw [init_beq, hlen]; rfl
  have HI : Hid (∀ w, _) := rPart_any s hs
  unfold maxLen at hs
  generalize memberL s.data.toList = b at *
  generalize partL s.data.toList = d at *
  clear hlen
  by_cases hq : (s.toList == [60, 105, 110, 105, 116, 62]) = true
  · go_enter Tryz.func44, Tryz.ntmps44
    go_wp2
    go_ret
    exact ⟨ret_bool (by rw [HM.out]; simp [hq]), rfl⟩
  · have hq' : (s.toList == [60, 105, 110, 105, 116, 62]) = false := by simpa using hq
    clear hq
    by_cases h60 : s.size ≤ 60
    · go_enter Tryz.func44, Tryz.ntmps44
      go_wp2_with (go_at_call 53; refine ((HI.out) _).mono ?_; rintro e w' ⟨rfl, rfl⟩)
      go_ret
      exact ⟨ret_bool (by rw [HM.out, hq']; simp [h60]), rfl⟩
    · go_enter Tryz.func44, Tryz.ntmps44
      go_wp2
      go_ret
      exact ⟨ret_bool (by rw [HM.out, hq']; simp [h60]), rfl⟩

end Go.Proofs.YtijlipllahfakaaGreatDoor
