/- Walks of the small functions of package names and of what they call: each returns what the plain function on lists of bytes says; the world stays. -/
import Derived.Test.YtpbnjmncjecobaaGreatRows
import Derived.Test.YtpbnjmncjecobaaGreatPure
import Derived.WalkKit
import Derived.WalkSpells
import Derived.WalkLawsBesides
import Derived.Lib.Walk
import Derived.Laws.Externs
namespace Go.Proofs.YtpbnjmncjecobaaGreat
open Go.RowKit

theorem ret_bool {a b : Bool} (h : a = b) : Ending.returned (.bool a) = .returned (.bool b) := by rw [h]
theorem ret_int {k : IntKind} {a b : Int} (h : a = b) : Ending.returned (.int k a) = .returned (.int k b) := by rw [h]
theorem ret_str {a b : ByteArray} (h : a = b) : Ending.returned (.string a) = .returned (.string b) := by rw [h]
/-- two texts with the same bytes -/
theorem bytes_ext {a b : ByteArray} (h : a.data.toList = b.data.toList) : a = b := by
  obtain ⟨⟨x⟩⟩ := a; obtain ⟨⟨y⟩⟩ := b; simp at h; rw [h]

set_option maxHeartbeats 400000 in
theorem isDigit_any (c : Int) (w : World) :
    Calls Tryz.prog 194 #[.int .u8 c] w fun e w' => e = .returned (.bool (digI c)) ∧ w' = w := by
  by_cases h1 : (48 : Int) ≤ c
  · by_cases h2 : c ≤ 57
    · go_enter Tryz.func194, Tryz.ntmps194
      go_wp2
      go_ret
      exact ⟨ret_bool (by rw [Bool.eq_iff_iff]; simp [digI]; omega), rfl⟩
    · go_enter Tryz.func194, Tryz.ntmps194
      go_wp2
      go_ret
      exact ⟨ret_bool (by rw [Bool.eq_iff_iff]; simp [digI]; omega), rfl⟩
  · go_enter Tryz.func194, Tryz.ntmps194
    go_wp2
    go_ret
    exact ⟨ret_bool (by rw [Bool.eq_iff_iff]; simp [digI]; omega), rfl⟩

set_option maxHeartbeats 400000 in
theorem isLetter_any (c : Int) (w : World) :
    Calls Tryz.prog 195 #[.int .u8 c] w fun e w' => e = .returned (.bool (ltrI c)) ∧ w' = w := by
  go_enter Tryz.func195, Tryz.ntmps195
  go_wp2
  all_goals (go_ret; exact ⟨ret_bool (by rw [Bool.eq_iff_iff]; simp [ltrI]; try omega), rfl⟩)

theorem last_le (s : ByteArray) : -1 ≤ lastL s.data.toList ∧ lastL s.data.toList < s.size := by
  have := lastL_bounds s.data.toList
  simpa using this

/-- the beginning of a text -/
theorem take_bytes (s : ByteArray) (n : Nat) : (s.extract 0 n) = ⟨(s.data.toList.take n).toArray⟩ := by
  apply bytes_ext; rw [Lib.extract_data]; simp
theorem drop_bytes (s : ByteArray) (n : Nat) : (s.extract n s.size) = ⟨(s.data.toList.drop n).toArray⟩ := by
  apply bytes_ext; rw [Lib.extract_to_end]

set_option maxRecDepth 100000 in
set_option maxHeartbeats 400000 in
theorem indexByte_any (s : ByteArray) (w : World) :
    Calls Tryz.prog 235 #[.string s, .int .u8 47] w fun e w' => e = .returned (.int .i64 (Lib.indexByte s.data.toList 47)) ∧ w' = w := by
  go_enter Tryz.func235, Tryz.ntmps235
  go_wp2
  rw [run_callFunc_extern Tryz.func245 (by kernel_rfl) (by kernel_rfl) (by kernel_rfl) (e := Extern.BytealgIndexByte.indexByte) (by kernel_rfl), Lib.run_indexByteString]
  simp only [Result.andThen]
  rw [Oper.upon_value]
  go_wp2
  go_ret
  exact ⟨rfl, rfl⟩

set_option maxRecDepth 100000 in
set_option maxHeartbeats 400000 in
theorem index_any (s : ByteArray) (w : World) :
    Calls Tryz.prog 226 #[.string s, .string ⟨#[47]⟩] w fun e w' => e = .returned (.int .i64 (Lib.indexByte s.data.toList 47)) ∧ w' = w := by
  by_cases hq : ([47] == s.toList) = true
  · have hi : Lib.indexByte s.data.toList 47 = 0 := by
      have : s.data.toList = [47] := by rw [← Lib.toList_data]; exact (beq_iff_eq.1 hq).symm
      rw [this]; rfl
    have HI : Hid (Lib.indexByte s.data.toList 47 = 0) := hi
    clear hi
    go_enter Tryz.func226, Tryz.ntmps226
    go_wp2
    go_ret
    exact ⟨ret_int HI.out.symm, rfl⟩
  · have hq' : ([47] == s.toList) = false := by simpa using hq
    clear hq
    go_enter Tryz.func226, Tryz.ntmps226
    go_wp2_with (go_at_call 235; refine (indexByte_any s _).mono ?_; rintro e w' ⟨rfl, rfl⟩)
    go_ret
    exact ⟨rfl, rfl⟩

set_option maxHeartbeats 400000 in
theorem liteCut_miss (s : ByteArray) (w : World) (h : Lib.indexByte s.data.toList 47 = -1) :
    Calls Tryz.prog 213 #[.string s, .string ⟨#[47]⟩] w fun e w' => e = .returned (.tuple #[.string s, .string ⟨#[]⟩, .bool false]) ∧ ∃ n, w' = w.drewN n := by
  have HB : Hid (∀ w, _) := index_any s
  rw [h] at HB
  clear h
  go_enter Tryz.func213, Tryz.ntmps213
  go_wp2_with (go_at_call 226; refine ((HB.out) _).mono ?_; rintro e w' ⟨rfl, rfl⟩)
  go_ret3
  exact ⟨rfl, 0, rfl⟩

set_option maxHeartbeats 400000 in
theorem liteCut_hit (s : ByteArray) (hs : s.size ≤ maxLen) (w : World) (n : Nat) (hn : n < s.size) (h : Lib.indexByte s.data.toList 47 = n) :
    Calls Tryz.prog 213 #[.string s, .string ⟨#[47]⟩] w fun e w' => e = .returned (.tuple #[.string (s.extract 0 n), .string (s.extract (n + 1) s.size), .bool true]) ∧ ∃ n, w' = w.drewN n := by
  have HB : Hid (∀ w, _) := index_any s
  rw [h] at HB
  clear h
  unfold maxLen at hs
  go_enter Tryz.func213, Tryz.ntmps213
  go_wp2_with (go_at_call 226; refine ((HB.out) _).mono ?_; rintro e w' ⟨rfl, rfl⟩)
  go_region
  all_goals (go_wp2; go_ret3; exact ⟨rfl, 1, rfl⟩)

set_option maxHeartbeats 400000 in
theorem cut_miss (s : ByteArray) (w : World) (h : Lib.indexByte s.data.toList 47 = -1) :
    Calls Tryz.prog 193 #[.string s, .string ⟨#[47]⟩] w fun e w' => e = .returned (.tuple #[.string s, .string ⟨#[]⟩, .bool false]) ∧ ∃ n, w' = w.drewN n := by
  have HB : Hid (∀ w, _) := fun w => liteCut_miss s w h
  clear h
  go_enter Tryz.func193, Tryz.ntmps193
  go_wp2_with (go_at_call 213; refine ((HB.out) _).mono ?_; rintro e w' ⟨rfl, n, rfl⟩)
  go_ret3
  exact ⟨rfl, _, rfl⟩

set_option maxHeartbeats 400000 in
theorem cut_hit (s : ByteArray) (hs : s.size ≤ maxLen) (w : World) (n : Nat) (hn : n < s.size) (h : Lib.indexByte s.data.toList 47 = n) :
    Calls Tryz.prog 193 #[.string s, .string ⟨#[47]⟩] w fun e w' => e = .returned (.tuple #[.string (s.extract 0 n), .string (s.extract (n + 1) s.size), .bool true]) ∧ ∃ n, w' = w.drewN n := by
  have HB : Hid (∀ w, _) := fun w => liteCut_hit s hs w n hn h
  clear h
  go_enter Tryz.func193, Tryz.ntmps193
  go_wp2_with (go_at_call 213; refine ((HB.out) _).mono ?_; rintro e w' ⟨rfl, n, rfl⟩)
  go_ret3
  exact ⟨rfl, _, rfl⟩

set_option maxHeartbeats 400000 in
theorem lastByte_any (s : ByteArray) (hs : s.size ≤ maxLen) (w : World) :
    Calls Tryz.prog 202 #[.string s, .int .u8 47] w fun e w' => e = .returned (.int .i64 (lastL s.data.toList)) ∧ w' = w := by
  unfold maxLen at hs
  go_enter Tryz.func202, Tryz.ntmps202
  go_wp2
  go_loop [5] (fun vi => ∃ k : Nat, k ≤ s.size ∧ vi = .int .i64 ((k : Int) - 1) ∧ Hid (lastL s.data.toList = Lib.Pa.lastIdx s.data.toList 47 k)) (fun vi => ((RowKit.intOf vi) + 1).toNat)
  case atStart => exact ⟨s.size, Nat.le_refl _, by first | rfl | go_num | (congr 1; omega), rfl⟩
  case round =>
    obtain ⟨k, hk, rfl, hh⟩ := hrel
    go_wp2
    · have hc : (((s[k - 1]).toNat : Int) == 47) = true := by assumption
      have k1 : 1 ≤ k := by omega
      have e1 : Lib.Pa.lastIdx s.data.toList 47 k = ((k - 1 : Nat) : Int) := by
        rw [show k = (k - 1) + 1 by omega, Lib.Pa.lastIdx, Lib.Pa.at_eq s (k - 1) (by omega), if_pos]
        · rfl
        · congr 1; apply UInt8.toNat_inj.1; have := beq_iff_eq.1 hc; simpa using (by omega : (s[k-1]).toNat = 47)
      have e2 : ((k - 1 : Nat) : Int) = (k : Int) - 1 := by omega
      go_ret
      rw [hh.out, e1, e2]
      exact ⟨rfl, rfl⟩
    · have hc : (((s[k - 1]).toNat : Int) == 47) = false := by assumption
      have k1 : 1 ≤ k := by omega
      have e1 : Lib.Pa.lastIdx s.data.toList 47 k = Lib.Pa.lastIdx s.data.toList 47 (k - 1) := by
        conv => lhs; rw [show k = (k - 1) + 1 by omega]
        rw [Lib.Pa.lastIdx, Lib.Pa.at_eq s (k - 1) (by omega), if_neg]
        intro h
        have h' : s[k-1] = 47 := by simpa using h
        rw [h'] at hc; simp at hc
      refine ⟨⟨k - 1, by omega, by congr 1; omega, hh.out.trans e1⟩, ?_⟩
      simp [RowKit.intOf]; omega
    · have k0 : k = 0 := by omega
      subst k0
      go_ret
      rw [hh.out]
      exact ⟨rfl, rfl⟩

set_option maxHeartbeats 400000 in
theorem lastIndex_any (s : ByteArray) (hs : s.size ≤ maxLen) (w : World) :
    Calls Tryz.prog 188 #[.string s, .string ⟨#[47]⟩] w fun e w' => e = .returned (.int .i64 (lastL s.data.toList)) ∧ w' = w := by
  go_enter Tryz.func188, Tryz.ntmps188
  go_wp2_with (go_at_call 202; refine (lastByte_any s hs _).mono ?_; rintro e w' ⟨rfl, rfl⟩)
  go_ret
  exact ⟨rfl, rfl⟩

set_option maxHeartbeats 400000 in
theorem lastSep_any (s : ByteArray) (hs : s.size ≤ maxLen) (w : World) :
    Calls Tryz.prog 169 #[.string s] w fun e w' => e = .returned (.int .i64 (lastL s.data.toList)) ∧ w' = w := by
  go_enter Tryz.func169, Tryz.ntmps169
  go_wp2_with (go_at_call 188; refine (lastIndex_any s hs _).mono ?_; rintro e w' ⟨rfl, rfl⟩)
  go_ret
  exact ⟨rfl, rfl⟩

set_option maxHeartbeats 400000 in
theorem package_any (s : ByteArray) (hs : s.size ≤ maxLen) (w : World) :
    Calls Tryz.prog 131 #[.string s] w fun e w' => e = .returned (.string ⟨(pkgL s.data.toList).toArray⟩) ∧ w' = w := by
  have hl := last_le s
  have HP : Hid (pkgL s.data.toList = s.data.toList.take (lastL s.data.toList).toNat) := rfl
  have hm := hs
  unfold maxLen at hm
  have HB : Hid (∀ w, _) := lastSep_any s hs
  generalize lastL s.data.toList = x at *
  by_cases hx : x = -1
  · subst hx
    go_enter Tryz.func131, Tryz.ntmps131
    go_wp2_with (go_at_call 169; refine ((HB.out) _).mono ?_; rintro e w' ⟨rfl, rfl⟩)
    go_ret
    refine ⟨ret_str ?_, rfl⟩
    rw [HP.out]
    apply bytes_ext; simp; left; omega
  · obtain ⟨n, rfl⟩ : ∃ n : Nat, x = n := ⟨x.toNat, by omega⟩
    have hn : n < s.size := by omega
    clear hx hl
    go_enter Tryz.func131, Tryz.ntmps131
    go_wp2_with (go_at_call 169; refine ((HB.out) _).mono ?_; rintro e w' ⟨rfl, rfl⟩)
    go_ret
    refine ⟨ret_str ?_, rfl⟩
    rw [HP.out]
    apply bytes_ext; simp

end Go.Proofs.YtpbnjmncjecobaaGreat
