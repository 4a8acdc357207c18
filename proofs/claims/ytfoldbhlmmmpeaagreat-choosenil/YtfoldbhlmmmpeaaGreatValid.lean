/- Walks of names.Valid and names.Member and of awake: each returns what the plain function on lists of bytes says; what was there before stays. -/
import Derived.Test.YtfoldbhlmmmpeaaGreatRows
import Derived.Test.YtfoldbhlmmmpeaaGreatPure
import Derived.WalkKit
import Derived.WalkSpells
import Derived.WalkLawsBesides
import Derived.Lib.Walk
import Derived.Laws.Externs
namespace Go.Proofs.YtfoldbhlmmmpeaaGreat
open Go.RowKit

theorem ret_bool {a b : Bool} (h : a = b) : Ending.returned (.bool a) = .returned (.bool b) := by rw [h]
theorem ret_int {k : IntKind} {a b : Int} (h : a = b) : Ending.returned (.int k a) = .returned (.int k b) := by rw [h]
theorem ret_str {a b : ByteArray} (h : a = b) : Ending.returned (.string a) = .returned (.string b) := by rw [h]
/-- two texts with the same bytes -/
theorem bytes_ext {a b : ByteArray} (h : a.data.toList = b.data.toList) : a = b := by
  obtain ⟨⟨x⟩⟩ := a; obtain ⟨⟨y⟩⟩ := b; simp at h; rw [h]

theorem last_le (s : ByteArray) : -1 ≤ lastL s.data.toList ∧ lastL s.data.toList < s.size := by
  have := lastL_bounds s.data.toList
  simpa using this

set_option maxHeartbeats 400000 in
theorem lastByte_any (s : ByteArray) (hs : s.size ≤ maxLen) (w : World) :
    Calls Tryz.prog 282 #[.string s, .int .u8 47] w fun e w' => e = .returned (.int .i64 (lastL s.data.toList)) ∧ w' = w := by
  unfold maxLen at hs
  go_enter Tryz.func282, Tryz.ntmps282
  go_wp2
  go_loop [5] (fun vi => ∃ k : Nat, k ≤ s.size ∧ vi = .int .i64 ((k : Int) - 1) ∧ Hid (lastL s.data.toList = Lib.Pa.lastIdx s.data.toList 47 k)) (fun vi => ((RowKit.intOf vi) + 1).toNat)
  case atStart => exact ⟨s.size, Nat.le_refl _, by first | rfl | go_num | (congr 1; omega), rfl⟩
  case round =>
    obtain ⟨k, hk, rfl, hh⟩ := hrel
    go_wp2
    · have hc : (((s[k - 1]).toNat : Int) == 47) = true := by assumption
      have k1 : 1 ≤ k := by omega
      have e1 : Lib.Pa.lastIdx s.data.toList 47 k = ((k - 1 : Nat) : Int) := by
        rw [show k = (k - 1) + 1 by omega, Lib.Pa.lastIdx, Lib.Pa.at_eq s (k - 1) (by omega), if_pos]
        · rfl
        · congr 1; apply UInt8.toNat_inj.1; have := beq_iff_eq.1 hc; simpa using (by omega : (s[k-1]).toNat = 47)
      have e2 : ((k - 1 : Nat) : Int) = (k : Int) - 1 := by omega
      go_ret
      rw [hh.out, e1, e2]
      exact ⟨rfl, rfl⟩
    · have hc : (((s[k - 1]).toNat : Int) == 47) = false := by assumption
      have k1 : 1 ≤ k := by omega
      have e1 : Lib.Pa.lastIdx s.data.toList 47 k = Lib.Pa.lastIdx s.data.toList 47 (k - 1) := by
        conv => lhs; rw [show k = (k - 1) + 1 by omega]
        rw [Lib.Pa.lastIdx, Lib.Pa.at_eq s (k - 1) (by omega), if_neg]
        intro h
        have h' : s[k-1] = 47 := by simpa using h
        rw [h'] at hc; simp at hc
      refine ⟨⟨k - 1, by omega, by congr 1; omega, hh.out.trans e1⟩, ?_⟩
      simp [RowKit.intOf]; omega
    · have k0 : k = 0 := by omega
      subst k0
      go_ret
      rw [hh.out]
      exact ⟨rfl, rfl⟩

set_option maxHeartbeats 400000 in
theorem lastIndex_any (s : ByteArray) (hs : s.size ≤ maxLen) (w : World) :
    Calls Tryz.prog 275 #[.string s, .string ⟨#[47]⟩] w fun e w' => e = .returned (.int .i64 (lastL s.data.toList)) ∧ w' = w := by
  go_enter Tryz.func275, Tryz.ntmps275
  go_wp2_with (go_at_call 282; refine (lastByte_any s hs _).mono ?_; rintro e w' ⟨rfl, rfl⟩)
  go_ret
  exact ⟨rfl, rfl⟩

set_option maxHeartbeats 400000 in
theorem lastSep_any (s : ByteArray) (hs : s.size ≤ maxLen) (w : World) :
    Calls Tryz.prog 269 #[.string s] w fun e w' => e = .returned (.int .i64 (lastL s.data.toList)) ∧ w' = w := by
  go_enter Tryz.func269, Tryz.ntmps269
  go_wp2_with (go_at_call 275; refine (lastIndex_any s hs _).mono ?_; rintro e w' ⟨rfl, rfl⟩)
  go_ret
  exact ⟨rfl, rfl⟩

set_option maxHeartbeats 400000 in
theorem package_any (s : ByteArray) (hs : s.size ≤ maxLen) (w : World) :
    Calls Tryz.prog 254 #[.string s] w fun e w' => e = .returned (.string ⟨(pkgL s.data.toList).toArray⟩) ∧ w' = w := by
  have hl := last_le s
  have HP : Hid (pkgL s.data.toList = s.data.toList.take (lastL s.data.toList).toNat) := rfl
  have hm := hs
  unfold maxLen at hm
  have HB : Hid (∀ w, _) := lastSep_any s hs
  generalize lastL s.data.toList = x at *
  by_cases hx : x = -1
  · subst hx
    go_enter Tryz.func254, Tryz.ntmps254
    go_wp2_with (go_at_call 269; refine ((HB.out) _).mono ?_; rintro e w' ⟨rfl, rfl⟩)
    go_ret
    refine ⟨ret_str ?_, rfl⟩
    rw [HP.out]
    apply bytes_ext; simp; left; omega
  · obtain ⟨n, rfl⟩ : ∃ n : Nat, x = n := ⟨x.toNat, by omega⟩
    have hn : n < s.size := by omega
    clear hx hl
    go_enter Tryz.func254, Tryz.ntmps254
    go_wp2_with (go_at_call 269; refine ((HB.out) _).mono ?_; rintro e w' ⟨rfl, rfl⟩)
    go_ret
    refine ⟨ret_str ?_, rfl⟩
    rw [HP.out]
    apply bytes_ext; simp







end Go.Proofs.YtfoldbhlmmmpeaaGreat
