/- Walks of names.isPart, names.Parts, names.Valid and names.Member: each returns what the plain function on lists of bytes says; what was there before stays. -/
import Derived.Test.YtijlipllahfakaaGreatDoorSmall
namespace Go.Proofs.YtijlipllahfakaaGreatDoor
open Go.RowKit

theorem all_take_succ (s : ByteArray) (p : UInt8 → Bool) (k : Nat) (h : k < s.size) : (s.data.toList.take (k + 1)).all p = ((s.data.toList.take k).all p && p s[k]) := by
  rw [List.take_succ_eq_append_getElem (by simpa using h), List.all_append]
  simp
  rfl

theorem all_take_full (s : ByteArray) (p : UInt8 → Bool) : (s.data.toList.take s.size).all p = s.data.toList.all p := by
  rw [List.take_of_length_le (by simp)]

theorem all_false_of (s : ByteArray) (p : UInt8 → Bool) (k : Nat) (h : k < s.size) (hp : p s[k] = false) : s.data.toList.all p = false := by
  rw [List.all_eq_false]
  exact ⟨s[k], by have := Lib.Pa.at_eq s k h; exact List.mem_of_getElem? this, by simp [hp]⟩

theorem partL_head (s : ByteArray) (h : 0 < s.size) : partL s.data.toList = (!digI (s[0]).toNat && s.data.toList.all wordB) := by
  have e := Lib.Pa.at_eq s 0 h
  cases hl : s.data.toList with
  | nil => rw [hl] at e; simp at e
  | cons c r =>
    rw [hl] at e
    have : c = s[0] := by simpa using e
    rw [this]; rfl

set_option maxHeartbeats 400000 in
theorem isPart_any (s : ByteArray) (hs : s.size ≤ maxLen) (w : World) :
    Calls Tryz.prog 69 #[.string s] w fun e w' => e = .returned (.bool (partL s.data.toList)) ∧ w' = w := by
  unfold maxLen at hs
  by_cases h0 : s.size = 0
  · have h1 : s = ⟨#[]⟩ := by apply bytes_ext; have : s.data.toList.length = 0 := by simpa using h0
                              simpa using List.eq_nil_of_length_eq_zero this
    subst h1
    go_enter Tryz.func69, Tryz.ntmps69
    go_wp2
    go_ret
    exact ⟨rfl, rfl⟩
  · have hpos : 0 < s.size := by omega
    have HP : Hid (partL s.data.toList = (!digI (s[0]).toNat && s.data.toList.all wordB)) := partL_head s hpos
    have hne : s.toList.isEmpty = false := by
      rw [Lib.toList_data, List.isEmpty_eq_false_iff]
      intro h; have h2 : s.data.toList.length = 0 := by rw [h]; rfl
      have h3 : s.data.toList.length = s.size := by simp
      omega
    generalize partL s.data.toList = b at *
    by_cases hd : digI (s[0]).toNat = true
    · have HD : Hid (∀ w, Calls Tryz.prog 83 #[.int .u8 (s[0]).toNat] w fun e w' => e = .returned (.bool true) ∧ w' = w) := by
        have := isDigit_any (s[0]).toNat; rw [hd] at this; exact this
      have HB : Hid (b = false) := by have := HP.out; rw [hd] at this; exact this
      clear hd HP
      go_enter Tryz.func69, Tryz.ntmps69
      go_wp2_with (go_at_call 83; refine ((HD.out) _).mono ?_; rintro e w' ⟨rfl, rfl⟩)
      go_ret
      exact ⟨ret_bool HB.out.symm, rfl⟩
    · have hd' : digI (s[0]).toNat = false := by simpa using hd
      have HD : Hid (∀ w, Calls Tryz.prog 83 #[.int .u8 (s[0]).toNat] w fun e w' => e = .returned (.bool false) ∧ w' = w) := by
        have := isDigit_any (s[0]).toNat; rw [hd'] at this; exact this
      have HB : Hid (b = s.data.toList.all wordB) := by have := HP.out; rw [hd'] at this; exact this
      clear hd hd' HP
      go_enter Tryz.func69, Tryz.ntmps69
      go_wp2_with (go_at_call 83; refine ((HD.out) _).mono ?_; rintro e w' ⟨rfl, rfl⟩)
      go_loop [13] (fun i => ∃ k : Nat, k ≤ s.size ∧ i = .int .i64 k ∧ Hid ((s.data.toList.take k).all wordB = true)) (fun i => s.size - (intOf i).toNat)
      case atStart => exact ⟨0, Nat.zero_le _, rfl, by simp [Hid]⟩
      case round =>
        obtain ⟨k, hk, rfl, hr⟩ := hrel
        clear HD
        by_cases hlt : k < s.size
        · have HS : Hid _ := all_take_succ s wordB k hlt
          have HF : Hid _ := all_false_of s wordB k hlt
          have hw : wordB s[k] = (ltrI (s[k]).toNat || digI (s[k]).toNat) := rfl
          rw [hw] at HS HF
          clear hw
          have HL : Hid (∀ w, _) := isLetter_any (s[k]).toNat
          have HG : Hid (∀ w, _) := isDigit_any (s[k]).toNat
          generalize ltrI (s[k]).toNat = l at *
          generalize digI (s[k]).toNat = d at *
          cases l
          · cases d
            · go_wp2_with (first | (go_at_call 84; refine ((HL.out) _).mono ?_; rintro e w' ⟨rfl, rfl⟩) | (go_at_call 83; refine ((HG.out) _).mono ?_; rintro e w' ⟨rfl, rfl⟩))
              go_ret
              exact ⟨ret_bool (by rw [HB.out]; exact (HF.out rfl).symm), rfl⟩
            · go_wp2_with (first | (go_at_call 84; refine ((HL.out) _).mono ?_; rintro e w' ⟨rfl, rfl⟩) | (go_at_call 83; refine ((HG.out) _).mono ?_; rintro e w' ⟨rfl, rfl⟩))
              go_round
              case rel => exact ⟨k + 1, by omega, by go_num, by rw [Hid, HS.out, hr.out]; rfl⟩
              case measure => simp [intOf]; omega
          · go_wp2_with (first | (go_at_call 84; refine ((HL.out) _).mono ?_; rintro e w' ⟨rfl, rfl⟩) | (go_at_call 83; refine ((HG.out) _).mono ?_; rintro e w' ⟨rfl, rfl⟩))
            go_round
            case rel => exact ⟨k + 1, by omega, by go_num, by rw [Hid, HS.out, hr.out]; rfl⟩
            case measure => simp [intOf]; omega
        · have hk' : k = s.size := by omega
          go_wp2
          go_ret
          refine ⟨ret_bool ?_, rfl⟩
          rw [HB.out, ← all_take_full, ← hk', hr.out]

end Go.Proofs.YtijlipllahfakaaGreatDoor
