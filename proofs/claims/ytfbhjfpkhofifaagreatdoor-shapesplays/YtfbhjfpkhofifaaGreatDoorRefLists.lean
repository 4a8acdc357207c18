/- Plain functions on lists of bytes for layer 1 (names): parts, valid names, the last separator; no Go text is named here. -/
import Derived.Lib.Strings
import Derived.Lib.IndexBytes
import Derived.Lib.PathFns
import Derived.Lib.Bytealg
import Derived.Test.YtfbhjfpkhofifaaGreatDoorRows
import Derived.WalkKit
import Derived.WalkSpells
import Derived.WalkLawsBesides
import Derived.Lib.Walk
import Derived.Laws.Externs
import Derived.Test.YtfbhjfpkhofifaaGreatDoorProg
import Derived.Lib.Join
import GoSem.Op.String
import Derived.Deep.QuietTactic
import Derived.BigQuiet
namespace Go.Proofs.YtfbhjfpkhofifaaGreatDoor

/-- a digit, as a number -/
def digI (c : Int) : Bool := decide (48 ≤ c) && decide (c ≤ 57)
/-- a letter, _ or $, as a number -/
def ltrI (c : Int) : Bool := decide (97 ≤ c) && decide (c ≤ 122) || (decide (65 ≤ c) && decide (c ≤ 90)) || c == 95 || c == 36
def wordB (c : UInt8) : Bool := ltrI c.toNat || digI c.toNat
/-- a part -/
def partL (l : List UInt8) : Bool := match l with
  | [] => false
  | c :: r => !digI c.toNat && (c :: r).all wordB
/-- the parts of a text -/
def partsL : List UInt8 → List (List UInt8)
  | [] => [[]]
  | c :: l => if c = 47 then [] :: partsL l else match partsL l with
    | [] => [[c]]
    | p :: ps => (c :: p) :: ps
def validL (l : List UInt8) : Bool := decide (l.length ≤ 60) && (partsL l).all partL
def initL : List UInt8 := [60, 105, 110, 105, 116, 62]
def memberL (l : List UInt8) : Bool := l == initL || (decide (l.length ≤ 60) && partL l)
def lastL (l : List UInt8) : Int := Lib.Pa.lastIndexByte l 47
def pkgL (l : List UInt8) : List UInt8 := l.take (lastL l).toNat
def simpleL (l : List UInt8) : List UInt8 := l.drop (lastL l + 1).toNat

theorem partsL_ne (l : List UInt8) : partsL l ≠ [] := by
  cases l with
  | nil => simp [partsL]
  | cons c l =>
    unfold partsL
    split
    · simp
    · split <;> simp

theorem partsL_free (l : List UInt8) (h : (47 : UInt8) ∉ l) : partsL l = [l] := by
  induction l with
  | nil => rfl
  | cons c l ih =>
    have hc : c ≠ 47 := fun e => h (by simp [e])
    have := ih (fun m => h (List.mem_cons_of_mem _ m))
    simp [partsL, hc, this]

theorem partsL_cut (a b : List UInt8) (h : (47 : UInt8) ∉ a) : partsL (a ++ 47 :: b) = a :: partsL b := by
  induction a with
  | nil => simp [partsL]
  | cons c l ih =>
    have hc : c ≠ 47 := fun e => h (by simp [e])
    have := ih (fun m => h (List.mem_cons_of_mem _ m))
    simp [partsL, hc, this]

theorem partsL_length (l : List UInt8) : (partsL l).length ≤ l.length + 1 := by
  induction l with
  | nil => simp [partsL]
  | cons c l ih =>
    have hn := partsL_ne l
    unfold partsL
    split
    · simp; omega
    · split
      · contradiction
      · rename_i p ps e
        rw [e] at ih
        simp at ih ⊢
        omega

/-- what indexByte says -/
theorem indexByte_miss (l : List UInt8) (h : Lib.indexByte l 47 = -1) : (47 : UInt8) ∉ l := by
  induction l with
  | nil => simp
  | cons b l ih =>
    unfold Lib.indexByte at h
    split at h
    · simp at h
    · rename_i hb
      have hb' : b ≠ 47 := by simpa using hb
      split at h
      · rename_i h1
        have := ih (by simpa using h1)
        simp [hb'.symm, this]
      · rename_i h1
        have := Lib.indexByte_ge l 47
        have h1' : Lib.indexByte l 47 ≠ -1 := by simpa using h1
        omega

theorem indexByte_hit (l : List UInt8) (h : Lib.indexByte l 47 ≠ -1) : ∃ a b, l = a ++ 47 :: b ∧ (47 : UInt8) ∉ a ∧ Lib.indexByte l 47 = (a.length : Int) := by
  induction l with
  | nil => simp [Lib.indexByte] at h
  | cons b l ih =>
    unfold Lib.indexByte at h ⊢
    by_cases hb : (b == 47) = true
    · have hb' : b = 47 := by simpa using hb
      exact ⟨[], l, by simp [hb'], by simp, by simp [hb]⟩
    · have hb' : (b == 47) = false := by simpa using hb
      have hb'' : b ≠ 47 := by simpa using hb
      simp only [hb', Bool.false_eq_true, if_false] at h ⊢
      by_cases h1 : (Lib.indexByte l 47 == -1) = true
      · simp [h1] at h
      · have h1' : Lib.indexByte l 47 ≠ -1 := by simpa using h1
        obtain ⟨x, y, e, hx, hi⟩ := ih h1'
        refine ⟨b :: x, y, by simp [e], by simp [hb''.symm, hx], ?_⟩
        simp only [h1, if_false, Bool.false_eq_true]
        rw [hi]; simp

theorem lastL_bounds (l : List UInt8) : -1 ≤ lastL l ∧ lastL l < l.length := Lib.Pa.lastIndexByte_bounds l 47

theorem lastIdx_spec (l : List UInt8) : ∀ k, k ≤ l.length → (Lib.Pa.lastIdx l 47 k = -1 ∧ (47 : UInt8) ∉ l.take k) ∨
    ∃ a b, l.take k = a ++ 47 :: b ∧ (47 : UInt8) ∉ b ∧ Lib.Pa.lastIdx l 47 k = (a.length : Int) := by
  intro k
  induction k with
  | zero => intro _; left; simp [Lib.Pa.lastIdx]
  | succ k ih =>
    intro hk
    have hlt : k < l.length := by omega
    have ht : l.take (k + 1) = l.take k ++ [l[k]] := List.take_succ_eq_append_getElem hlt
    unfold Lib.Pa.lastIdx
    by_cases h : l[k]? = some 47
    · right
      have e : l[k] = 47 := by rw [List.getElem?_eq_getElem hlt] at h; simpa using h
      refine ⟨l.take k, [], by rw [ht, e], by simp, ?_⟩
      rw [if_pos h, List.length_take]; congr 1; omega
    · have e : l[k] ≠ 47 := by rw [List.getElem?_eq_getElem hlt] at h; simpa using h
      rw [if_neg h]
      rcases ih (by omega) with ⟨h1, h2⟩ | ⟨a, b, h1, h2, h3⟩
      · left; refine ⟨h1, ?_⟩; rw [ht]; intro m; exact (List.mem_append.1 m).elim h2 (fun m => e (List.mem_singleton.1 m).symm)
      · right; exact ⟨a, b ++ [l[k]], by rw [ht, h1]; simp, by simp [h2, e.symm], h3⟩

/-- the last separator: none, or the text is a package, a separator and a simple name -/
theorem lastL_spec (l : List UInt8) : (lastL l = -1 ∧ (47 : UInt8) ∉ l) ∨ ∃ a b, l = a ++ 47 :: b ∧ (47 : UInt8) ∉ b ∧ lastL l = (a.length : Int) := by
  have := lastIdx_spec l l.length (Nat.le_refl _)
  simpa [lastL, Lib.Pa.lastIndexByte] using this

theorem pkgL_miss (l : List UInt8) (h : lastL l = -1) : pkgL l = [] ∧ simpleL l = l := by simp [pkgL, simpleL, h]
theorem pkgL_hit (a b : List UInt8) (h : lastL (a ++ 47 :: b) = (a.length : Int)) : pkgL (a ++ 47 :: b) = a ∧ simpleL (a ++ 47 :: b) = b := by
  have e : ((a.length : Int) + 1).toNat = a.length + 1 := by omega
  constructor
  · simp [pkgL, h]
  · simp only [simpleL, h, e]
    have : a ++ 47 :: b = (a ++ [47]) ++ b := by simp
    rw [this]
    exact List.drop_left' (by simp)

theorem partsL_back (a b : List UInt8) (h : (47 : UInt8) ∉ b) : partsL (a ++ 47 :: b) = partsL a ++ [b] := by
  induction a with
  | nil => simp [partsL, partsL_free b h]
  | cons c l ih =>
    have hn := partsL_ne l
    by_cases hc : c = 47
    · simp [partsL, hc, ih]
    · simp only [List.cons_append, partsL, hc, if_false, ih]
      cases e : partsL l with
      | nil => contradiction
      | cons p ps => simp

end Go.Proofs.YtfbhjfpkhofifaaGreatDoor

namespace Go.Proofs.YtfbhjfpkhofifaaGreatDoor
open Go.RowKit

theorem ret_bool {a b : Bool} (h : a = b) : Ending.returned (.bool a) = .returned (.bool b) := by rw [h]
theorem ret_int {k : IntKind} {a b : Int} (h : a = b) : Ending.returned (.int k a) = .returned (.int k b) := by rw [h]
theorem ret_str {a b : ByteArray} (h : a = b) : Ending.returned (.string a) = .returned (.string b) := by rw [h]
/-- two texts with the same bytes -/
theorem bytes_ext {a b : ByteArray} (h : a.data.toList = b.data.toList) : a = b := by
  obtain ⟨⟨x⟩⟩ := a; obtain ⟨⟨y⟩⟩ := b; simp at h; rw [h]

set_option maxHeartbeats 400000 in
theorem isDigit_any (c : Int) (w : World) :
    Calls Tryz.prog 135 #[.int .u8 c] w fun e w' => e = .returned (.bool (digI c)) ∧ w' = w := by
  by_cases h1 : (48 : Int) ≤ c
  · by_cases h2 : c ≤ 57
    · go_enter Tryz.func135, Tryz.ntmps135
      go_wp2
      go_ret
      exact ⟨ret_bool (by rw [Bool.eq_iff_iff]; simp [digI]; omega), rfl⟩
    · go_enter Tryz.func135, Tryz.ntmps135
      go_wp2
      go_ret
      exact ⟨ret_bool (by rw [Bool.eq_iff_iff]; simp [digI]; omega), rfl⟩
  · go_enter Tryz.func135, Tryz.ntmps135
    go_wp2
    go_ret
    exact ⟨ret_bool (by rw [Bool.eq_iff_iff]; simp [digI]; omega), rfl⟩

set_option maxHeartbeats 400000 in
theorem isLetter_any (c : Int) (w : World) :
    Calls Tryz.prog 136 #[.int .u8 c] w fun e w' => e = .returned (.bool (ltrI c)) ∧ w' = w := by
  go_enter Tryz.func136, Tryz.ntmps136
  go_wp2
  all_goals (go_ret; exact ⟨ret_bool (by rw [Bool.eq_iff_iff]; simp [ltrI]; try omega), rfl⟩)

theorem last_le (s : ByteArray) : -1 ≤ lastL s.data.toList ∧ lastL s.data.toList < s.size := by
  have := lastL_bounds s.data.toList
  simpa using this

/-- the beginning of a text -/
theorem take_bytes (s : ByteArray) (n : Nat) : (s.extract 0 n) = ⟨(s.data.toList.take n).toArray⟩ := by
  apply bytes_ext; rw [Lib.extract_data]; simp
theorem drop_bytes (s : ByteArray) (n : Nat) : (s.extract n s.size) = ⟨(s.data.toList.drop n).toArray⟩ := by
  apply bytes_ext; rw [Lib.extract_to_end]

set_option maxRecDepth 100000 in
set_option maxHeartbeats 400000 in
theorem indexByte_any (s : ByteArray) (w : World) :
    Calls Tryz.prog 175 #[.string s, .int .u8 47] w fun e w' => e = .returned (.int .i64 (Lib.indexByte s.data.toList 47)) ∧ w' = w := by
  go_enter Tryz.func175, Tryz.ntmps175
  go_wp2
  rw [run_callFunc_extern Tryz.func193 (by kernel_rfl) (by kernel_rfl) (by kernel_rfl) (e := Extern.BytealgIndexByte.indexByte) (by kernel_rfl), Lib.run_indexByteString]
  simp only [Result.andThen]
  rw [Oper.upon_value]
  go_wp2
  go_ret
  exact ⟨rfl, rfl⟩

set_option maxRecDepth 100000 in
set_option maxHeartbeats 400000 in
theorem index_any (s : ByteArray) (w : World) :
    Calls Tryz.prog 154 #[.string s, .string ⟨#[47]⟩] w fun e w' => e = .returned (.int .i64 (Lib.indexByte s.data.toList 47)) ∧ w' = w := by
  by_cases hq : ([47] == s.toList) = true
  · have hi : Lib.indexByte s.data.toList 47 = 0 := by
      have : s.data.toList = [47] := by rw [← Lib.toList_data]; exact (beq_iff_eq.1 hq).symm
      rw [this]; rfl
    have HI : Hid (Lib.indexByte s.data.toList 47 = 0) := hi
    clear hi
    go_enter Tryz.func154, Tryz.ntmps154
    go_wp2
    go_ret
    exact ⟨ret_int HI.out.symm, rfl⟩
  · have hq' : ([47] == s.toList) = false := by simpa using hq
    clear hq
    go_enter Tryz.func154, Tryz.ntmps154
    go_wp2_with (go_at_call 175; refine (indexByte_any s _).mono ?_; rintro e w' ⟨rfl, rfl⟩)
    go_ret
    exact ⟨rfl, rfl⟩

set_option maxHeartbeats 400000 in
theorem liteCut_miss (s : ByteArray) (w : World) (h : Lib.indexByte s.data.toList 47 = -1) :
    Calls Tryz.prog 123 #[.string s, .string ⟨#[47]⟩] w fun e w' => e = .returned (.tuple #[.string s, .string ⟨#[]⟩, .bool false]) ∧ ∃ n, w' = w.drewN n := by
  have HB : Hid (∀ w, _) := index_any s
  rw [h] at HB
  clear h
  go_enter Tryz.func123, Tryz.ntmps123
  go_wp2_with (go_at_call 154; refine ((HB.out) _).mono ?_; rintro e w' ⟨rfl, rfl⟩)
  go_ret3
  exact ⟨rfl, 0, rfl⟩

set_option maxHeartbeats 400000 in
theorem liteCut_hit (s : ByteArray) (hs : s.size ≤ maxLen) (w : World) (n : Nat) (hn : n < s.size) (h : Lib.indexByte s.data.toList 47 = n) :
    Calls Tryz.prog 123 #[.string s, .string ⟨#[47]⟩] w fun e w' => e = .returned (.tuple #[.string (s.extract 0 n), .string (s.extract (n + 1) s.size), .bool true]) ∧ ∃ n, w' = w.drewN n := by
  have HB : Hid (∀ w, _) := index_any s
  rw [h] at HB
  clear h
  unfold maxLen at hs
  go_enter Tryz.func123, Tryz.ntmps123
  go_wp2_with (go_at_call 154; refine ((HB.out) _).mono ?_; rintro e w' ⟨rfl, rfl⟩)
  go_region
  all_goals (go_wp2; go_ret3; exact ⟨rfl, 1, rfl⟩)

set_option maxHeartbeats 400000 in
theorem cut_miss (s : ByteArray) (w : World) (h : Lib.indexByte s.data.toList 47 = -1) :
    Calls Tryz.prog 86 #[.string s, .string ⟨#[47]⟩] w fun e w' => e = .returned (.tuple #[.string s, .string ⟨#[]⟩, .bool false]) ∧ ∃ n, w' = w.drewN n := by
  have HB : Hid (∀ w, _) := fun w => liteCut_miss s w h
  clear h
  go_enter Tryz.func86, Tryz.ntmps86
  go_wp2_with (go_at_call 123; refine ((HB.out) _).mono ?_; rintro e w' ⟨rfl, n, rfl⟩)
  go_ret3
  exact ⟨rfl, _, rfl⟩

set_option maxHeartbeats 400000 in
theorem cut_hit (s : ByteArray) (hs : s.size ≤ maxLen) (w : World) (n : Nat) (hn : n < s.size) (h : Lib.indexByte s.data.toList 47 = n) :
    Calls Tryz.prog 86 #[.string s, .string ⟨#[47]⟩] w fun e w' => e = .returned (.tuple #[.string (s.extract 0 n), .string (s.extract (n + 1) s.size), .bool true]) ∧ ∃ n, w' = w.drewN n := by
  have HB : Hid (∀ w, _) := fun w => liteCut_hit s hs w n hn h
  clear h
  go_enter Tryz.func86, Tryz.ntmps86
  go_wp2_with (go_at_call 123; refine ((HB.out) _).mono ?_; rintro e w' ⟨rfl, n, rfl⟩)
  go_ret3
  exact ⟨rfl, _, rfl⟩

end Go.Proofs.YtfbhjfpkhofifaaGreatDoor

namespace Go.Proofs.YtfbhjfpkhofifaaGreatDoor
open Go.RowKit

theorem all_take_succ (s : ByteArray) (p : UInt8 → Bool) (k : Nat) (h : k < s.size) : (s.data.toList.take (k + 1)).all p = ((s.data.toList.take k).all p && p s[k]) := by
  rw [List.take_succ_eq_append_getElem (by simpa using h), List.all_append]
  simp
  rfl

theorem all_take_full (s : ByteArray) (p : UInt8 → Bool) : (s.data.toList.take s.size).all p = s.data.toList.all p := by
  rw [List.take_of_length_le (by simp)]

theorem all_false_of (s : ByteArray) (p : UInt8 → Bool) (k : Nat) (h : k < s.size) (hp : p s[k] = false) : s.data.toList.all p = false := by
  rw [List.all_eq_false]
  exact ⟨s[k], by have := Lib.Pa.at_eq s k h; exact List.mem_of_getElem? this, by simp [hp]⟩

theorem partL_head (s : ByteArray) (h : 0 < s.size) : partL s.data.toList = (!digI (s[0]).toNat && s.data.toList.all wordB) := by
  have e := Lib.Pa.at_eq s 0 h
  cases hl : s.data.toList with
  | nil => rw [hl] at e; simp at e
  | cons c r =>
    rw [hl] at e
    have : c = s[0] := by simpa using e
    rw [this]; rfl

set_option maxHeartbeats 400000 in
theorem isPart_any (s : ByteArray) (hs : s.size ≤ maxLen) (w : World) :
    Calls Tryz.prog 100 #[.string s] w fun e w' => e = .returned (.bool (partL s.data.toList)) ∧ w' = w := by
  unfold maxLen at hs
  by_cases h0 : s.size = 0
  · have h1 : s = ⟨#[]⟩ := by apply bytes_ext; have : s.data.toList.length = 0 := by simpa using h0
                              simpa using List.eq_nil_of_length_eq_zero this
    subst h1
    go_enter Tryz.func100, Tryz.ntmps100
    go_wp2
    go_ret
    exact ⟨rfl, rfl⟩
  · have hpos : 0 < s.size := by omega
    have HP : Hid (partL s.data.toList = (!digI (s[0]).toNat && s.data.toList.all wordB)) := partL_head s hpos
    have hne : s.toList.isEmpty = false := by
      rw [Lib.toList_data, List.isEmpty_eq_false_iff]
      intro h; have h2 : s.data.toList.length = 0 := by rw [h]; rfl
      have h3 : s.data.toList.length = s.size := by simp
      omega
    generalize partL s.data.toList = b at *
    by_cases hd : digI (s[0]).toNat = true
    · have HD : Hid (∀ w, Calls Tryz.prog 135 #[.int .u8 (s[0]).toNat] w fun e w' => e = .returned (.bool true) ∧ w' = w) := by
        have := isDigit_any (s[0]).toNat; rw [hd] at this; exact this
      have HB : Hid (b = false) := by have := HP.out; rw [hd] at this; exact this
      clear hd HP
      go_enter Tryz.func100, Tryz.ntmps100
      go_wp2_with (go_at_call 135; refine ((HD.out) _).mono ?_; rintro e w' ⟨rfl, rfl⟩)
      go_ret
      exact ⟨ret_bool HB.out.symm, rfl⟩
    · have hd' : digI (s[0]).toNat = false := by simpa using hd
      have HD : Hid (∀ w, Calls Tryz.prog 135 #[.int .u8 (s[0]).toNat] w fun e w' => e = .returned (.bool false) ∧ w' = w) := by
        have := isDigit_any (s[0]).toNat; rw [hd'] at this; exact this
      have HB : Hid (b = s.data.toList.all wordB) := by have := HP.out; rw [hd'] at this; exact this
      clear hd hd' HP
      go_enter Tryz.func100, Tryz.ntmps100
      go_wp2_with (go_at_call 135; refine ((HD.out) _).mono ?_; rintro e w' ⟨rfl, rfl⟩)
      go_loop [13] (fun i => ∃ k : Nat, k ≤ s.size ∧ i = .int .i64 k ∧ Hid ((s.data.toList.take k).all wordB = true)) (fun i => s.size - (intOf i).toNat)
      case atStart => exact ⟨0, Nat.zero_le _, rfl, by simp [Hid]⟩
      case round =>
        obtain ⟨k, hk, rfl, hr⟩ := hrel
        clear HD
        by_cases hlt : k < s.size
        · have HS : Hid _ := all_take_succ s wordB k hlt
          have HF : Hid _ := all_false_of s wordB k hlt
          have hw : wordB s[k] = (ltrI (s[k]).toNat || digI (s[k]).toNat) := rfl
          rw [hw] at HS HF
          clear hw
          have HL : Hid (∀ w, _) := isLetter_any (s[k]).toNat
          have HG : Hid (∀ w, _) := isDigit_any (s[k]).toNat
          generalize ltrI (s[k]).toNat = l at *
          generalize digI (s[k]).toNat = d at *
          cases l
          · cases d
            · go_wp2_with (first | (go_at_call 136; refine ((HL.out) _).mono ?_; rintro e w' ⟨rfl, rfl⟩) | (go_at_call 135; refine ((HG.out) _).mono ?_; rintro e w' ⟨rfl, rfl⟩))
              go_ret
              exact ⟨ret_bool (by rw [HB.out]; exact (HF.out rfl).symm), rfl⟩
            · go_wp2_with (first | (go_at_call 136; refine ((HL.out) _).mono ?_; rintro e w' ⟨rfl, rfl⟩) | (go_at_call 135; refine ((HG.out) _).mono ?_; rintro e w' ⟨rfl, rfl⟩))
              go_round
              case rel => exact ⟨k + 1, by omega, by go_num, by rw [Hid, HS.out, hr.out]; rfl⟩
              case measure => simp [intOf]; omega
          · go_wp2_with (first | (go_at_call 136; refine ((HL.out) _).mono ?_; rintro e w' ⟨rfl, rfl⟩) | (go_at_call 135; refine ((HG.out) _).mono ?_; rintro e w' ⟨rfl, rfl⟩))
            go_round
            case rel => exact ⟨k + 1, by omega, by go_num, by rw [Hid, HS.out, hr.out]; rfl⟩
            case measure => simp [intOf]; omega
        · have hk' : k = s.size := by omega
          go_wp2
          go_ret
          refine ⟨ret_bool ?_, rfl⟩
          rw [HB.out, ← all_take_full, ← hk', hr.out]

end Go.Proofs.YtfbhjfpkhofifaaGreatDoor

namespace Go.Proofs.YtfbhjfpkhofifaaGreatDoor
open Go.RowKit

def strV (p : List UInt8) : Value := .string ⟨p.toArray⟩
theorem strV_self (s : ByteArray) : strV s.data.toList = .string s := rfl
def lenV : Value → Nat | .string s => s.size | _ => 0
def boolV : Value → Nat | .bool true => 1 | _ => 0

theorem Tryz.info9 : (Tryz.prog.info? 9).map (fun i => (i.zero, i.size, i.bytes)) = some (some (.string ⟨#[]⟩), 1, 16) := by kernel_rfl

/-- what a round of the cutting loop leaves, behind the append -/
theorem parts_rel {w wr w1 : World} {nq : Nat} {B : Nat} {v v' : Value} {done : List (List UInt8)} {part : ByteArray} {o : Obj}
    (hB : B ≤ wr.heap.size) (hown : wr.ownsRow B 9 1 v done.length (done.map strV)) (hbel : Below B w wr)
    (hown' : w1.ownsRow B 9 1 v' (done.length + 1) (done.map strV ++ [.string part])) (hg : ((wr.drewN nq).alloc o).grownBy w1 v.ownBlock) :
    w1.ownsRow B 9 1 v' (done ++ [part.data.toList]).length ((done ++ [part.data.toList]).map strV) ∧ Below B w w1 := by
  constructor
  · simpa [strV] using hown'
  · refine ((below_drewN hbel nq).alloc (by simpa using hB) o).grown hg (by simp; omega) ?_
    intro k hk
    exact (hown.lt k hk).1

theorem mk_size (b : List UInt8) : (⟨b.toArray⟩ : ByteArray).size = b.length := by show b.toArray.size = _; simp

theorem grow_drew {w : World} {base : Nat} {e : TypeId} {size : Nat} {v : Value} {n : Nat} {xs : List Value} (h : w.ownsRow base e size v n xs) (q : Nat) : (w.drewN q).ownsRow base e size v n xs := h

set_option maxHeartbeats 400000 in
theorem parts_any (s : ByteArray) (hs : s.size ≤ 1099511627776) (w : World) :
    Calls Tryz.prog 99 #[.string s] w fun e w' => ∃ v, e = .returned v ∧ w'.ownsRow w.heap.size 9 1 v (partsL s.data.toList).length ((partsL s.data.toList).map strV) ∧ Below w.heap.size w w' := by
  obtain ⟨i0, hi, hz0, hz1, hz2⟩ := info_parts Tryz.info9
  have HL : Hid _ := partsL_length s.data.toList
  go_enter Tryz.func99, Tryz.ntmps99
  go_wp2
  go_loopw [3, 4, 5] (fun v r m wr => ∃ (done : List (List UInt8)) (rest : ByteArray) (b : Bool), r = .string rest ∧ m = .bool b ∧ rest.size ≤ s.size ∧
      wr.ownsRow w.heap.size 9 1 v done.length (done.map strV) ∧ Below w.heap.size w wr ∧ Hid (done ++ (if b then partsL rest.data.toList else []) = partsL s.data.toList))
    (fun _ r m _ => (lenV r + 1) * boolV m)
  case atStart => exact ⟨[], s, true, rfl, rfl, Nat.le_refl _, World.ownsRow_nil _ _ _ _, Below.refl _ _, by simp [Hid]⟩
  case round =>
    obtain ⟨done, rest, b, rfl, rfl, hrs, hown, hbel, hp⟩ := hrel
    cases b
    · go_wp2
      go_ret
      have he : done = partsL s.data.toList := by have := hp.out; simpa using this
      rw [← he]
      exact ⟨_, rfl, hown, hbel⟩
    · have hbs := hbel.size
      by_cases hx : Lib.indexByte rest.data.toList 47 = -1
      · have HC : Hid (∀ w, _) := fun w => cut_miss rest w hx
        have hd : done ++ [rest.data.toList] = partsL s.data.toList := by have := hp.out; rw [if_pos rfl, partsL_free _ (indexByte_miss _ hx)] at this; exact this
        have hdl : done.length + 1 ≤ s.size + 1 := by have := HL.out; rw [← hd] at this; simpa using this
        have HD : Hid _ := hd
        clear hx hp hd HL
        go_wp2_with (first
          | (go_at_call 86; refine ((HC.out) _).mono ?_; rintro e w' ⟨rfl, nq, rfl⟩)
          | (at_builtin; refine wpList_append_own _ rfl _ _ 22 rfl w.heap.size 9 i0 (.string ⟨#[]⟩) 1 16 Tryz.underlying22 hi hz0 hz1 hz2 rfl (by decide) _ _ _ rfl ((grow_drew hown _).alloc _) ⟨wr.heap.size, 0, none⟩ 1 1 [.string rest] rfl rfl ?c1 ?c2 ?c3 ?c4 ?c5 ?_))
        case c1 => exact cell_one_new _ _ _
        case c2 => intro u hu; simp at hu; subst hu; rfl
        case c3 => unfold maxLen; omega
        case c4 => omega
        case c5 => simp; omega
        · intro v' w1 hown' hgrow _
          have R := parts_rel hbs hown hbel hown' hgrow
          clear hown' hgrow hown
          go_wp2
          go_roundw
          case rel => exact ⟨done ++ [rest.data.toList], ⟨#[]⟩, false, rfl, rfl, Nat.zero_le _, R.1, R.2, by have := HD.out; simpa [Hid] using this⟩
          case measure => simp [lenV, boolV]
      · obtain ⟨a, b, hab, ha, hix⟩ := indexByte_hit _ hx
        have hsz : rest.size = a.length + 1 + b.length := by have : rest.data.toList.length = rest.size := by simp
                                                             rw [← this, hab]; simp; omega
        have han : a.length < rest.size := by omega
        have HC : Hid (∀ w, _) := fun w => cut_hit rest (by unfold maxLen; omega) w a.length han hix
        have e1 : rest.extract 0 a.length = ⟨a.toArray⟩ := by rw [take_bytes, hab]; simp
        have e2 : rest.extract (a.length + 1) rest.size = ⟨b.toArray⟩ := by
          rw [drop_bytes, hab, show a ++ 47 :: b = (a ++ [47]) ++ b by simp, List.drop_left' (by simp)]
        rw [e1, e2] at HC
        have hd : done ++ [a] ++ partsL b = partsL s.data.toList := by have := hp.out; rw [if_pos rfl, hab, partsL_cut _ _ ha] at this; simpa using this
        have hdl : done.length + 1 ≤ s.size + 1 := by have := HL.out; rw [← hd] at this; simp at this; omega
        have HD : Hid _ := hd
        clear hx hp hd HL hab ha hix e1 e2
        go_wp2_with (first
          | (go_at_call 86; refine ((HC.out) _).mono ?_; rintro e w' ⟨rfl, nq, rfl⟩)
          | (at_builtin; refine wpList_append_own _ rfl _ _ 22 rfl w.heap.size 9 i0 (.string ⟨#[]⟩) 1 16 Tryz.underlying22 hi hz0 hz1 hz2 rfl (by decide) _ _ _ rfl ((grow_drew hown _).alloc _) ⟨wr.heap.size, 0, none⟩ 1 1 [.string ⟨a.toArray⟩] rfl rfl ?d1 ?d2 ?d3 ?d4 ?d5 ?_))
        case d1 => exact cell_one_new _ _ _
        case d2 => intro u hu; simp at hu; subst hu; rfl
        case d3 => unfold maxLen; omega
        case d4 => omega
        case d5 => simp; omega
        · intro v' w1 hown' hgrow _
          have R := parts_rel hbs hown hbel hown' hgrow
          clear hown' hgrow hown
          go_wp2
          go_roundw
          case rel => exact ⟨done ++ [a], ⟨b.toArray⟩, true, rfl, rfl, by rw [mk_size]; omega, R.1, R.2, HD.out⟩
          case measure => simp [lenV, boolV, mk_size]; omega

end Go.Proofs.YtfbhjfpkhofifaaGreatDoor

namespace Go.Proofs.YtfbhjfpkhofifaaGreatDoor
open Go.RowKit

theorem own_shape {w : World} {base : Nat} {v : Value} {ps : List (List UInt8)} (h : w.ownsRow base 9 1 v ps.length (ps.map strV)) (hne : ps ≠ []) :
    ∃ g cap, v = .slice (some ⟨g, 0, none⟩) ps.length cap ∧ base ≤ g ∧ g < w.heap.size ∧ ps.length ≤ cap ∧ cap ≤ maxLen ∧ ∀ k p, ps[k]? = some p → w.cell? ⟨g, k, none⟩ = some (.string ⟨p.toArray⟩) := by
  have h' := h
  rcases h.2 with ⟨_, h0⟩ | ⟨g, cap, cur, rfl, hb, hg, hn, hm, _, _⟩
  · exact absurd (List.eq_nil_of_length_eq_zero h0) hne
  · refine ⟨g, cap, rfl, hb, (Array.getElem?_eq_some_iff.1 hg).1, hn, hm, fun k p hk => ?_⟩
    have hlt : k < ps.length := (List.getElem?_eq_some_iff.1 hk).1
    rw [h'.cellAt k (by omega), List.getElem?_map, hk]
    rfl

theorem partsL_mem (l : List UInt8) : ∀ p ∈ partsL l, p.length ≤ l.length := by
  induction l with
  | nil => intro p hp; simp [partsL] at hp; simp [hp]
  | cons c l ih =>
    intro p hp
    unfold partsL at hp
    split at hp
    · rcases List.mem_cons.1 hp with rfl | h
      · simp
      · have := ih p h; simp; omega
    · split at hp
      · simp at hp; simp [hp]
      · rename_i q qs e
        rw [e] at ih
        rcases List.mem_cons.1 hp with rfl | h
        · have := ih q (List.mem_cons_self ..); simp; omega
        · have := ih p (List.mem_cons_of_mem _ h); simp; omega

theorem all_step (ps : List (List UInt8)) (k : Nat) (p : List UInt8) (h : ps[k]? = some p) : (ps.take (k + 1)).all partL = ((ps.take k).all partL && partL p) := by
  obtain ⟨hlt, rfl⟩ := List.getElem?_eq_some_iff.1 h
  rw [List.take_succ_eq_append_getElem hlt, List.all_append]
  simp

theorem all_stop (ps : List (List UInt8)) (k : Nat) (p : List UInt8) (h : ps[k]? = some p) (hp : partL p = false) : ps.all partL = false := by
  rw [List.all_eq_false]
  exact ⟨p, List.mem_of_getElem? h, by simp [hp]⟩

set_option maxHeartbeats 400000 in
theorem valid_any (s : ByteArray) (hs : s.size ≤ maxLen) (w : World) :
    Calls Tryz.prog 53 #[.string s] w fun e w' => e = .returned (.bool (validL s.data.toList)) ∧ Below w.heap.size w w' := by
  have hlen : s.data.toList.length = s.size := by simp
  unfold maxLen at hs
  by_cases h60 : s.size ≤ 60
  · have HV : Hid (validL s.data.toList = (partsL s.data.toList).all partL) := by unfold validL; rw [hlen]; simp [Hid, h60]
    have HP : Hid (∀ w, _) := parts_any s (by omega)
    have hne := partsL_ne s.data.toList
    have hpl := partsL_length s.data.toList
    rw [hlen] at hpl
    have hel : ∀ p ∈ partsL s.data.toList, p.length ≤ 60 := fun p hp => by have := partsL_mem s.data.toList p hp; omega
    generalize validL s.data.toList = b at *
    generalize partsL s.data.toList = ps at *
    have HN : Hid (ps ≠ []) := hne
    have HE : Hid (∀ p ∈ ps, p.length ≤ 60) := hel
    clear hne hlen hel
    go_enter Tryz.func53, Tryz.ntmps53
    go_wp2_with (go_at_call 99; refine ((HP.out) _).mono ?_; rintro e w1 ⟨v, rfl, hown, hbel⟩; obtain ⟨g, cap, rfl, hg, hgl, hcap, hcm, hcell⟩ := own_shape hown HN.out; clear hown)
    have HC : Hid (∀ k p, ps[k]? = some p → w1.cell? ⟨g, k, none⟩ = some (.string ⟨p.toArray⟩)) := hcell
    clear hcell HP HN
    go_loop [11] (fun i => ∃ k : Nat, k ≤ ps.length ∧ i = .int .i64 k ∧ Hid ((ps.take k).all partL = true)) (fun i => ps.length - (intOf i).toNat)
    case atStart => exact ⟨0, Nat.zero_le _, rfl, by simp [Hid]⟩
    case round =>
      obtain ⟨k, hk, rfl, hr⟩ := hrel
      by_cases hlt : k < ps.length
      · obtain ⟨p, hp⟩ : ∃ p, ps[k]? = some p := ⟨_, List.getElem?_eq_getElem hlt⟩
        have hc := HC.out k p hp
        have HS : Hid _ := all_step ps k p hp
        have HF : Hid _ := all_stop ps k p hp
        have hl60 := HE.out p (List.mem_of_getElem? hp)
        have HI : Hid (∀ w, _) := isPart_any ⟨p.toArray⟩ (by rw [mk_size]; unfold maxLen; omega)
        clear hp
        have e : (⟨p.toArray⟩ : ByteArray).data.toList = p := by simp
        rw [e] at HI
        clear e
        generalize partL p = d at *
        cases d
        · go_wp2_with (go_at_call 100; refine ((HI.out) _).mono ?_; rintro e w' ⟨rfl, rfl⟩)
          go_ret
          exact ⟨ret_bool (by rw [HV.out]; exact (HF.out trivial).symm), hbel⟩
        · go_wp2_with (go_at_call 100; refine ((HI.out) _).mono ?_; rintro e w' ⟨rfl, rfl⟩)
          go_round
          case rel => exact ⟨k + 1, by omega, by go_num, by rw [Hid, HS.out, hr.out]; rfl⟩
          case measure => simp [intOf]; omega
      · have hk' : k = ps.length := by omega
        go_wp2
        go_ret
        refine ⟨ret_bool ?_, hbel⟩
        rw [HV.out, ← hr.out, hk', List.take_length]
  · have HV : Hid (validL s.data.toList = false) := by unfold validL; rw [hlen]; simp [Hid, h60]
    clear hlen
    go_enter Tryz.func53, Tryz.ntmps53
    go_wp2
    go_ret
    exact ⟨ret_bool HV.out.symm, Below.refl _ _⟩

theorem init_beq (s : ByteArray) : (s.toList == [60, 105, 110, 105, 116, 62]) = (s.data.toList == initL) := by rw [Lib.toList_data]; rfl

set_option maxHeartbeats 400000 in
theorem member_any (s : ByteArray) (hs : s.size ≤ maxLen) (w : World) :
    Calls Tryz.prog 103 #[.string s] w fun e w' => e = .returned (.bool (memberL s.data.toList)) ∧ w' = w := by
  have hlen : s.data.toList.length = s.size := by simp
  have HM : Hid (memberL s.data.toList = ((s.toList == [60, 105, 110, 105, 116, 62]) || (decide (s.size ≤ 60) && partL s.data.toList))) := by
    unfold memberL; rw [init_beq, hlen]; rfl
  have HI : Hid (∀ w, _) := isPart_any s hs
  unfold maxLen at hs
  generalize memberL s.data.toList = b at *
  generalize partL s.data.toList = d at *
  clear hlen
  by_cases hq : (s.toList == [60, 105, 110, 105, 116, 62]) = true
  · go_enter Tryz.func103, Tryz.ntmps103
    go_wp2
    go_ret
    exact ⟨ret_bool (by rw [HM.out]; simp [hq]), rfl⟩
  · have hq' : (s.toList == [60, 105, 110, 105, 116, 62]) = false := by simpa using hq
    clear hq
    by_cases h60 : s.size ≤ 60
    · go_enter Tryz.func103, Tryz.ntmps103
      go_wp2_with (go_at_call 100; refine ((HI.out) _).mono ?_; rintro e w' ⟨rfl, rfl⟩)
      go_ret
      exact ⟨ret_bool (by rw [HM.out, hq']; simp [h60]), rfl⟩
    · go_enter Tryz.func103, Tryz.ntmps103
      go_wp2
      go_ret
      exact ⟨ret_bool (by rw [HM.out, hq']; simp [h60]), rfl⟩

end Go.Proofs.YtfbhjfpkhofifaaGreatDoor

namespace Go.Proofs.YtfbhjfpkhofifaaGreatDoor

theorem part_all {p : List UInt8} (h : partL p = true) : ∀ c ∈ p, wordB c = true := by
  cases p with
  | nil => simp [partL] at h
  | cons c r =>
    have h2 : (c :: r).all wordB = true := by unfold partL at h; exact (Bool.and_eq_true_iff.1 h).2
    exact List.all_eq_true.1 h2

theorem part_free {p : List UInt8} (h : partL p = true) : (47 : UInt8) ∉ p := fun m => by
  have := part_all h 47 m
  revert this; decide

theorem part_ne {p : List UInt8} (h : partL p = true) : p ≠ [] := by rintro rfl; simp [partL] at h

theorem parts_one {l : List UInt8} (h : (partsL l).length = 1) : (47 : UInt8) ∉ l := by
  rcases lastL_spec l with ⟨_, h2⟩ | ⟨a, b, rfl, h2, _⟩
  · exact h2
  · rw [partsL_back a b h2] at h
    have := partsL_ne a
    have : (partsL a).length ≠ 0 := fun e => this (List.eq_nil_of_length_eq_zero e)
    simp at h
    contradiction

theorem mem_parts (l : List UInt8) : ∀ c ∈ l, c = 47 ∨ ∃ p ∈ partsL l, c ∈ p := by
  induction l with
  | nil => simp
  | cons d l ih =>
    intro c hc
    by_cases hd : d = 47
    · rcases List.mem_cons.1 hc with rfl | h
      · exact .inl hd
      · rcases ih c h with h | ⟨p, hp, hcp⟩
        · exact .inl h
        · exact .inr ⟨p, by simp [partsL, hd, hp], hcp⟩
    · have hn := partsL_ne l
      cases e : partsL l with
      | nil => contradiction
      | cons q qs =>
        have e2 : partsL (d :: l) = (d :: q) :: qs := by simp [partsL, hd, e]
        rw [e2]
        rcases List.mem_cons.1 hc with rfl | h
        · exact .inr ⟨c :: q, by simp, by simp⟩
        · rcases ih c h with h | ⟨p, hp, hcp⟩
          · exact .inl h
          · rw [e] at hp
            rcases List.mem_cons.1 hp with rfl | hp
            · exact .inr ⟨d :: p, by simp, by simp [hcp]⟩
            · exact .inr ⟨p, by simp [hp], hcp⟩

theorem valid_len {l : List UInt8} (h : validL l = true) : l.length ≤ 60 := by unfold validL at h; simp at h; exact h.1
theorem valid_parts {l : List UInt8} (h : validL l = true) : ∀ p ∈ partsL l, partL p = true := by
  unfold validL at h; exact List.all_eq_true.1 (Bool.and_eq_true_iff.1 h).2

theorem valid_bytes {l : List UInt8} (h : validL l = true) : ∀ c ∈ l, c = 47 ∨ wordB c = true := by
  intro c hc
  rcases mem_parts l c hc with h1 | ⟨p, hp, hcp⟩
  · exact .inl h1
  · exact .inr (part_all (valid_parts h p hp) c hcp)

theorem valid_free {l : List UInt8} (h : (47 : UInt8) ∉ l) : validL l = (decide (l.length ≤ 60) && partL l) := by
  unfold validL; rw [partsL_free l h]; simp

theorem valid_ne {l : List UInt8} (h : validL l = true) : 1 ≤ l.length := by
  cases l with
  | nil => revert h; decide
  | cons c r => simp

theorem valid_back {a b : List UInt8} (h : validL (a ++ 47 :: b) = true) (hb : (47 : UInt8) ∉ b) : validL a = true ∧ partL b = true ∧ a ≠ [] := by
  have hp := valid_parts h
  rw [partsL_back a b hb] at hp
  have hl := valid_len h
  have ha : validL a = true := by
    unfold validL
    rw [List.all_eq_true.2 (fun p m => hp p (List.mem_append_left _ m))]
    simp at hl
    simp; omega
  refine ⟨ha, hp b (by simp), ?_⟩
  have := valid_ne ha
  rintro rfl
  simp at this

/-- the three shapes of a text that the law parts on -/
theorem law_cases (l : List UInt8) : (l = initL) ∨ (l ≠ initL ∧ validL l = false ∧ memberL l = false) ∨
    (l ≠ initL ∧ validL l = true ∧ memberL l = true ∧ pkgL l = [] ∧ (partsL l).length = 1 ∧ memberL (simpleL l) = true) ∨
    (l ≠ initL ∧ validL l = true ∧ memberL l = false ∧ pkgL l ≠ [] ∧ validL (pkgL l) = true ∧ memberL (simpleL l) = true) := by
  by_cases hi : l = initL
  · exact .inl hi
  · right
    have hm : memberL l = (decide (l.length ≤ 60) && partL l) := by
      unfold memberL
      have : (l == initL) = false := by simpa using hi
      simp [this]
    rcases lastL_spec l with ⟨h1, h2⟩ | ⟨a, b, rfl, h2, h3⟩
    · have hv := valid_free h2
      cases hvv : validL l with
      | false => left; exact ⟨hi, rfl, by rw [hm, ← hv]; exact hvv⟩
      | true =>
        right; left
        have hp := pkgL_miss l h1
        have hmm : memberL l = true := by rw [hm, ← hv]; exact hvv
        refine ⟨hi, rfl, hmm, hp.1, by rw [partsL_free l h2]; rfl, by rw [hp.2]; exact hmm⟩
    · have hnp : partL (a ++ 47 :: b) = false := by
        cases hq : partL (a ++ 47 :: b) with
        | false => rfl
        | true => exact absurd (by simp) (part_free hq)
      have hmm : memberL (a ++ 47 :: b) = false := by rw [hm, hnp]; simp
      cases hvv : validL (a ++ 47 :: b) with
      | false => left; exact ⟨hi, rfl, hmm⟩
      | true =>
        right; right
        obtain ⟨v1, v2, v3⟩ := valid_back hvv h2
        obtain ⟨p1, p2⟩ := pkgL_hit a b h3
        have hl := valid_len hvv
        refine ⟨hi, rfl, hmm, by rw [p1]; exact v3, by rw [p1]; exact v1, ?_⟩
        rw [p2]
        unfold memberL
        simp at hl
        rw [v2]
        simp; right; omega

end Go.Proofs.YtfbhjfpkhofifaaGreatDoor

namespace Go.Proofs.YtfbhjfpkhofifaaGreatDoor
end Go.Proofs.YtfbhjfpkhofifaaGreatDoor

namespace Go.Proofs.YtfbhjfpkhofifaaGreatDoor
open Go.RowKit

def joinOk (ps : List (List UInt8)) : Bool := !ps.isEmpty && ps.all partL && decide (ps.length - 1 + Lib.lens ps ≤ 60)
def joinS (ps : List (List UInt8)) : List UInt8 := if joinOk ps then Lib.join ps [47] else []
def joinE (ps : List (List UInt8)) : Int := if joinOk ps then 0 else 1

/-- the value v is a list of texts ps in the world w -/
def IsStrs (w : World) (v : Value) (ps : List (List UInt8)) : Prop :=
  ∃ ao cap, v = .slice ao ps.length cap ∧ ps.length ≤ cap ∧ cap ≤ maxLen ∧
    (ps ≠ [] → ∃ bk o, ao = some ⟨bk, o, none⟩ ∧ bk < w.heap.size ∧ ∀ k p, ps[k]? = some p → w.cell? ⟨bk, o + k, none⟩ = some (.string ⟨p.toArray⟩))

theorem IsStrs.keep {w w' : World} {v : Value} {ps : List (List UInt8)} (h : IsStrs w v ps) (hb : Below w.heap.size w w') : IsStrs w' v ps := by
  obtain ⟨ao, cap, rfl, h1, h2, h3⟩ := h
  refine ⟨ao, cap, rfl, h1, h2, fun hne => ?_⟩
  obtain ⟨bk, o, e, hlt, hc⟩ := h3 hne
  exact ⟨bk, o, e, Nat.lt_of_lt_of_le hlt hb.size, fun k p hk => (hb.cell hlt).trans (hc k p hk)⟩

theorem own_strs {w : World} {base : Nat} {v : Value} {ps : List (List UInt8)} (h : w.ownsRow base 9 1 v ps.length (ps.map strV)) : IsStrs w v ps := by
  by_cases hne : ps = []
  · subst hne
    rcases h.2 with ⟨rfl, _⟩ | ⟨g, cap, cur, rfl, hb, hg, hn, hm, _, _⟩
    · exact ⟨none, 0, rfl, Nat.le_refl _, by unfold maxLen; omega, fun h => absurd rfl h⟩
    · exact ⟨_, cap, rfl, hn, hm, fun h => absurd rfl h⟩
  · obtain ⟨g, cap, rfl, _, hgl, hcap, hcm, hcell⟩ := own_shape h hne
    exact ⟨_, cap, rfl, hcap, hcm, fun _ => ⟨g, 0, rfl, hgl, fun k p hk => by rw [Nat.zero_add]; exact hcell k p hk⟩⟩

theorem lens_take_le (ps : List (List UInt8)) (k : Nat) : Lib.lens (ps.take k) ≤ Lib.lens ps := by
  have h : Lib.lens (ps.take k ++ ps.drop k) = Lib.lens (ps.take k) + Lib.lens (ps.drop k) := by unfold Lib.lens; rw [List.map_append, List.sum_append]
  rw [List.take_append_drop] at h
  omega

theorem joinOk_stop (ps : List (List UInt8)) (k : Nat) (p : List UInt8) (h : ps[k]? = some p) (hp : partL p = false ∨ 60 < ps.length - 1 + Lib.lens (ps.take (k + 1))) : joinOk ps = false := by
  unfold joinOk
  rcases hp with hp | hp
  · rw [all_stop ps k p h hp]; simp
  · have := lens_take_le ps (k + 1)
    have : decide (ps.length - 1 + Lib.lens ps ≤ 60) = false := by simp; omega
    rw [this]; simp

theorem join_len (ps : List (List UInt8)) (h : ps ≠ []) : (Lib.join ps [47]).length = ps.length - 1 + Lib.lens ps := by
  cases ps with
  | nil => contradiction
  | cons x r => rw [Lib.join_length]; simp

end Go.Proofs.YtfbhjfpkhofifaaGreatDoor

namespace Go.Proofs.YtfbhjfpkhofifaaGreatDoor

theorem tail_snoc (r : List (List UInt8)) (p : List UInt8) : Lib.joinTail [47] (r ++ [p]) = Lib.joinTail [47] r ++ 47 :: p := by
  simp [Lib.joinTail]

theorem join_snoc (ps : List (List UInt8)) (p : List UInt8) (h : ps ≠ []) : Lib.join (ps ++ [p]) [47] = Lib.join ps [47] ++ 47 :: p := by
  cases ps with
  | nil => contradiction
  | cons x r => rw [List.cons_append, Lib.join_cons, Lib.join_cons, tail_snoc]; simp

theorem join_head (x : List UInt8) (r : List (List UInt8)) (h : r ≠ []) : Lib.join (x :: r) [47] = x ++ 47 :: Lib.join r [47] := by
  cases r with
  | nil => contradiction
  | cons y r => rw [Lib.join_cons, Lib.join_cons]; simp [Lib.joinTail]

theorem join_parts (l : List UInt8) : Lib.join (partsL l) [47] = l := by
  induction l with
  | nil => rfl
  | cons c l ih =>
    have hn := partsL_ne l
    by_cases hc : c = 47
    · simp only [partsL, hc, if_true]
      rw [join_head _ _ hn, ih]; rfl
    · simp only [partsL, hc, if_false]
      cases e : partsL l with
      | nil => contradiction
      | cons p ps =>
        rw [e] at ih
        simp only
        rw [Lib.join_cons] at ih ⊢
        rw [List.cons_append, ih]

theorem join_length_eq (ps : List (List UInt8)) (h : ps ≠ []) : (Lib.join ps [47]).length = ps.length - 1 + Lib.lens ps := by
  cases ps with
  | nil => contradiction
  | cons x r => rw [Lib.join_length]; simp

theorem parts_len (l : List UInt8) : (partsL l).length - 1 + Lib.lens (partsL l) = l.length := by
  rw [← join_length_eq _ (partsL_ne l), join_parts]

theorem lens_take (ps : List (List UInt8)) (k : Nat) : Lib.lens (ps.take k) ≤ Lib.lens ps := by
  have h : Lib.lens (ps.take k ++ ps.drop k) = Lib.lens (ps.take k) + Lib.lens (ps.drop k) := by unfold Lib.lens; rw [List.map_append, List.sum_append]
  rw [List.take_append_drop] at h
  omega

theorem join_take_le (l : List UInt8) (k : Nat) : (Lib.join ((partsL l).take k) [47]).length ≤ l.length := by
  by_cases h : (partsL l).take k = []
  · rw [h]; simp [Lib.join_nil]
  · rw [join_length_eq _ h]
    have h1 := lens_take (partsL l) k
    have h2 := parts_len l
    have h3 : ((partsL l).take k).length ≤ (partsL l).length := by rw [List.length_take]; omega
    omega

theorem join_take_succ (ps : List (List UInt8)) (k : Nat) (p : List UInt8) (hk : 1 ≤ k) (h : ps[k]? = some p) : Lib.join (ps.take (k + 1)) [47] = Lib.join (ps.take k) [47] ++ 47 :: p := by
  obtain ⟨hlt, rfl⟩ := List.getElem?_eq_some_iff.1 h
  rw [List.take_succ_eq_append_getElem hlt, join_snoc]
  intro e
  have h2 : (ps.take k).length = 0 := by rw [e]; rfl
  rw [List.length_take] at h2
  omega

theorem join_take_one (ps : List (List UInt8)) (p : List UInt8) (h : ps[0]? = some p) : Lib.join (ps.take 1) [47] = p := by
  cases ps with
  | nil => simp at h
  | cons x r => simp at h; subst h; simp [Lib.join_one]

/-- the two shapes of a text -/
theorem cut_cases (l : List UInt8) : (partsL l = [l] ∧ pkgL l = [] ∧ simpleL l = l) ∨
    (1 < (partsL l).length ∧ (partsL l)[(partsL l).length - 1]? = some (simpleL l) ∧ pkgL l ++ 47 :: simpleL l = l) := by
  rcases lastL_spec l with ⟨h1, h2⟩ | ⟨a, b, rfl, h2, h3⟩
  · exact .inl ⟨partsL_free l h2, pkgL_miss l h1⟩
  · right
    obtain ⟨p1, p2⟩ := pkgL_hit a b h3
    rw [p1, p2, partsL_back a b h2]
    have := partsL_ne a
    have : (partsL a).length ≠ 0 := fun e => this (List.eq_nil_of_length_eq_zero e)
    refine ⟨by simp; omega, by simp, rfl⟩

end Go.Proofs.YtfbhjfpkhofifaaGreatDoor

namespace Go.Proofs.YtfbhjfpkhofifaaGreatDoor

/-- a comparison that is an order -/
structure IsCmp {α : Type} (c : α → α → Int) : Prop where
  anti : ∀ a b, c a b = - c b a
  zero : ∀ a b, c a b = 0 ↔ a = b
  trans : ∀ a b d, c a b ≤ 0 → c b d ≤ 0 → c a d ≤ 0
  lo : ∀ a b, -1 ≤ c a b
  hi : ∀ a b, c a b ≤ 1

/-- element by element, a beginning first -/
def lexC {α : Type} (c : α → α → Int) : List α → List α → Int
  | [], [] => 0
  | [], _ :: _ => -1
  | _ :: _, [] => 1
  | x :: xs, y :: ys => if c x y = 0 then lexC c xs ys else c x y

theorem lexC_isCmp {α : Type} {c : α → α → Int} (h : IsCmp c) : IsCmp (lexC c) where
  anti := by
    intro a
    induction a with
    | nil => intro b; cases b <;> simp [lexC]
    | cons x xs ih =>
      intro b
      cases b with
      | nil => simp [lexC]
      | cons y ys =>
        simp only [lexC]
        have := h.anti x y
        by_cases e : c x y = 0
        · rw [if_pos e, if_pos (by omega)]; exact ih ys
        · rw [if_neg e, if_neg (by omega)]; exact this
  zero := by
    intro a
    induction a with
    | nil => intro b; cases b <;> simp [lexC]
    | cons x xs ih =>
      intro b
      cases b with
      | nil => simp [lexC]
      | cons y ys =>
        simp only [lexC]
        by_cases e : c x y = 0
        · rw [if_pos e, ih ys]
          have := (h.zero x y).1 e
          simp [this]
        · rw [if_neg e]
          have : x ≠ y := fun q => e ((h.zero x y).2 q)
          simp [e, this]
  trans := by
    intro a
    induction a with
    | nil => intro b d _ _; cases d <;> simp [lexC]
    | cons x xs ih =>
      intro b d h1 h2
      cases b with
      | nil => simp [lexC] at h1
      | cons y ys =>
        cases d with
        | nil => simp [lexC] at h2
        | cons z zs =>
          simp only [lexC] at h1 h2 ⊢
          by_cases e1 : c x y = 0
          · have q1 := (h.zero x y).1 e1
            subst q1
            rw [if_pos e1] at h1
            by_cases e2 : c x z = 0
            · rw [if_pos e2] at h2 ⊢; exact ih ys zs h1 h2
            · rw [if_neg e2] at h2 ⊢; exact h2
          · rw [if_neg e1] at h1
            by_cases e2 : c y z = 0
            · have q2 := (h.zero y z).1 e2
              subst q2
              rw [if_neg e1]; exact h1
            · rw [if_neg e2] at h2
              have t := h.trans x y z h1 h2
              by_cases e3 : c x z = 0
              · have q3 := (h.zero x z).1 e3
                subst q3
                have := h.anti x y
                omega
              · rw [if_neg e3]; exact t
  lo := by
    intro a
    induction a with
    | nil => intro b; cases b <;> simp [lexC]
    | cons x xs ih =>
      intro b
      cases b with
      | nil => simp [lexC]
      | cons y ys =>
        simp only [lexC]
        split
        · exact ih ys
        · exact h.lo x y
  hi := by
    intro a
    induction a with
    | nil => intro b; cases b <;> simp [lexC]
    | cons x xs ih =>
      intro b
      cases b with
      | nil => simp [lexC]
      | cons y ys =>
        simp only [lexC]
        split
        · exact ih ys
        · exact h.hi x y

theorem lexC_prefix {α : Type} {c : α → α → Int} (h : IsCmp c) (a b : List α) (hb : b ≠ []) : lexC c a (a ++ b) = -1 := by
  induction a with
  | nil => cases b with
    | nil => contradiction
    | cons y ys => rfl
  | cons x xs ih =>
    simp only [List.cons_append, lexC]
    rw [if_pos ((h.zero x x).2 rfl)]; exact ih

/-- a byte against a byte -/
def byteC (a b : UInt8) : Int := if a < b then -1 else if a = b then 0 else 1

theorem byteC_isCmp : IsCmp byteC where
  anti := by
    intro a b
    unfold byteC
    simp only [UInt8.lt_iff_toNat_lt, ← UInt8.toNat_inj]
    split <;> split <;> (try split) <;> (try split) <;> omega
  zero := by
    intro a b
    unfold byteC
    simp only [UInt8.lt_iff_toNat_lt, ← UInt8.toNat_inj]
    split
    · simp; omega
    · split <;> simp_all
  trans := by
    intro a b d
    unfold byteC
    simp only [UInt8.lt_iff_toNat_lt, ← UInt8.toNat_inj]
    repeat' split
    all_goals omega
  lo := by intro a b; unfold byteC; split <;> (try split) <;> omega
  hi := by intro a b; unfold byteC; split <;> (try split) <;> omega

/-- a text against a text -/
def strC : List UInt8 → List UInt8 → Int := lexC byteC
theorem strC_isCmp : IsCmp strC := lexC_isCmp byteC_isCmp
/-- a list of texts against a list of texts -/
def textsC : List (List UInt8) → List (List UInt8) → Int := lexC strC
theorem textsC_isCmp : IsCmp textsC := lexC_isCmp strC_isCmp
/-- a name against a name -/
def nameC (a b : List UInt8) : Int := textsC (partsL a) (partsL b)

theorem strC_less (a b : List UInt8) : Op.bytesLess a b = decide (strC a b = -1) := by
  induction a generalizing b with
  | nil => cases b <;> simp [Op.bytesLess, strC, lexC]
  | cons x xs ih =>
    cases b with
    | nil => simp [Op.bytesLess, strC, lexC]
    | cons y ys =>
      have e : strC (x :: xs) (y :: ys) = if byteC x y = 0 then strC xs ys else byteC x y := rfl
      rw [Op.bytesLess, e, ih ys]
      by_cases h : x = y
      · subst h
        rw [if_pos ((byteC_isCmp.zero x x).2 rfl)]
        simp
      · have hz : byteC x y ≠ 0 := fun q => h ((byteC_isCmp.zero x y).1 q)
        rw [if_neg hz]
        have hb : (x == y) = false := by simpa using h
        rw [hb]
        unfold byteC
        by_cases hl : x < y <;> simp [hl, h]

theorem partsL_append (a b : List UInt8) : partsL (a ++ 47 :: b) = partsL a ++ partsL b := by
  induction a with
  | nil => simp [partsL]
  | cons c l ih =>
    have hn := partsL_ne l
    by_cases hc : c = 47
    · simp [partsL, hc, ih]
    · simp only [List.cons_append, partsL, hc, if_false, ih]
      cases e : partsL l with
      | nil => contradiction
      | cons p ps => simp

theorem nameC_zero (a b : List UInt8) : nameC a b = 0 ↔ a = b := by
  unfold nameC
  rw [textsC_isCmp.zero]
  constructor
  · intro h; rw [← join_parts a, h, join_parts]
  · intro h; rw [h]

theorem nameC_below (a b : List UInt8) : nameC a (a ++ 47 :: b) = -1 := by
  unfold nameC
  rw [partsL_append]
  exact lexC_prefix strC_isCmp _ _ (partsL_ne b)

theorem textsC_step (ps qs : List (List UInt8)) (k : Nat) (p q : List UInt8) (hp : ps[k]? = some p) (hq : qs[k]? = some q) :
    textsC (ps.drop k) (qs.drop k) = if strC p q = 0 then textsC (ps.drop (k + 1)) (qs.drop (k + 1)) else strC p q := by
  obtain ⟨h1, rfl⟩ := List.getElem?_eq_some_iff.1 hp
  obtain ⟨h2, rfl⟩ := List.getElem?_eq_some_iff.1 hq
  rw [List.drop_eq_getElem_cons h1, List.drop_eq_getElem_cons h2]
  rfl

theorem textsC_long (ps qs : List (List UInt8)) (k : Nat) (h1 : k < ps.length) (h2 : qs.length ≤ k) : textsC (ps.drop k) (qs.drop k) = 1 := by
  rw [List.drop_eq_getElem_cons h1, List.drop_of_length_le h2]; rfl

theorem textsC_short (ps qs : List (List UInt8)) (k : Nat) (h1 : ps.length ≤ k) (h2 : k < qs.length) : textsC (ps.drop k) (qs.drop k) = -1 := by
  rw [List.drop_eq_getElem_cons h2, List.drop_of_length_le h1]; rfl

theorem textsC_end (ps qs : List (List UInt8)) (k : Nat) (h1 : ps.length ≤ k) (h2 : qs.length ≤ k) : textsC (ps.drop k) (qs.drop k) = 0 := by
  rw [List.drop_of_length_le h2, List.drop_of_length_le h1]; rfl

end Go.Proofs.YtfbhjfpkhofifaaGreatDoor

namespace Go.Proofs.YtfbhjfpkhofifaaGreatDoor
open Go.RowKit

end Go.Proofs.YtfbhjfpkhofifaaGreatDoor

namespace Go.Proofs.YtfbhjfpkhofifaaGreatDoor
open Go.RowKit

set_option maxHeartbeats 400000 in
theorem rLetter_any (c : Int) (w : World) :
    Calls Tryz.prog 106 #[.int .u8 c] w fun e w' => e = .returned (.bool (ltrI c)) ∧ w' = w := by
  go_enter Tryz.func106, Tryz.ntmps106
  go_wp2
  all_goals (go_ret; exact ⟨ret_bool (by rw [Bool.eq_iff_iff]; simp [ltrI]; try omega), rfl⟩)

theorem lastIdx_hit (s : ByteArray) (k : Nat) (h : k < s.size) (e : ((s[k].toNat : Int) == 47) = true) : Lib.Pa.lastIdx s.data.toList 47 (k + 1) = (k : Int) := by
  rw [Lib.Pa.lastIdx, Lib.Pa.at_eq s k h, if_pos]
  congr 1; apply UInt8.toNat_inj.1; have := beq_iff_eq.1 e; simpa using (by omega : (s[k]).toNat = 47)
theorem lastIdx_miss (s : ByteArray) (k : Nat) (h : k < s.size) (e : ((s[k].toNat : Int) == 47) = false) : Lib.Pa.lastIdx s.data.toList 47 (k + 1) = Lib.Pa.lastIdx s.data.toList 47 k := by
  rw [Lib.Pa.lastIdx, Lib.Pa.at_eq s k h, if_neg]
  intro q
  have h' : s[k] = 47 := by simpa using q
  rw [h'] at e; simp at e

theorem ltr_not_dig (c : Int) (h : ltrI c = true) : digI c = false := by
  simp [ltrI] at h
  simp [digI]
  omega

set_option maxHeartbeats 1000000 in
theorem rPart_any (s : ByteArray) (hs : s.size ≤ maxLen) (w : World) :
    Calls Tryz.prog 59 #[.string s] w fun e w' => e = .returned (.bool (partL s.data.toList)) ∧ w' = w := by
  unfold maxLen at hs
  have HP : Hid (∀ h : 0 < s.size, partL s.data.toList = (!digI (s[0]).toNat && s.data.toList.all wordB)) := partL_head s
  have H0 : Hid (s.size = 0 → partL s.data.toList = false) := fun h => by
    have : s.data.toList.length = 0 := by simpa using h
    rw [List.eq_nil_of_length_eq_zero this]; rfl
  generalize partL s.data.toList = b at *
  go_enter Tryz.func59, Tryz.ntmps59
  go_wp2
  go_loop [3] (fun i => ∃ k : Nat, k ≤ s.size ∧ i = .int .i64 k ∧ Hid ((s.data.toList.take k).all wordB = true) ∧ Hid (∀ h : 0 < s.size, 0 < k → digI (s[0]).toNat = false)) (fun i => s.size - (intOf i).toNat)
  case atStart => exact ⟨0, Nat.zero_le _, rfl, by simp [Hid], fun _ h => absurd h (by omega)⟩
  case round =>
    obtain ⟨k, hk, rfl, hr, hd0⟩ := hrel
    by_cases hlt : k < s.size
    · have HS : Hid _ := all_take_succ s wordB k hlt
      have HF : Hid _ := all_false_of s wordB k hlt
      have hw : wordB s[k] = (ltrI (s[k]).toNat || digI (s[k]).toNat) := rfl
      rw [hw] at HS HF
      clear hw
      have HL : Hid (∀ w, _) := rLetter_any (s[k]).toNat
      have HN : Hid _ := ltr_not_dig (s[k]).toNat
      have HD : Hid (digI (s[k]).toNat = (decide (48 ≤ ((s[k]).toNat : Int)) && decide (((s[k]).toNat : Int) ≤ 57))) := rfl
      have HK : Hid (k = 0 → ∀ h : 0 < s.size, digI (s[0]).toNat = digI (s[k]).toNat) := fun e h => by subst e; rfl
      generalize ltrI (s[k]).toNat = l at *
      cases l
      · by_cases h0 : k = 0
        · have hb : b = false := by
            rw [HP.out (by omega)]
            rw [HK.out h0 (by omega)]
            have := HF.out
            generalize digI (s[k]).toNat = d at *
            cases d
            · rw [this rfl]; rfl
            · rfl
          subst hb
          subst h0
          clear HP H0 HS HF HN HD HK hr hd0
          go_wp2_with (go_at_call 106; refine ((HL.out) _).mono ?_; rintro e w' ⟨rfl, rfl⟩)
          go_ret
          exact ⟨rfl, rfl⟩
        · have hkb : ((k : Int) == 0) = false := by rw [beq_eq_false_iff_ne]; omega
          generalize digI (s[k]).toNat = d at *
          cases d
          · have hb : b = false := by rw [HP.out (by omega), HF.out rfl]; simp
            subst hb
            have hor : ((s[k]).toNat : Int) < 48 ∨ 57 < ((s[k]).toNat : Int) := by have := HD.out; simp at this; omega
            clear HP H0 HS HF HN HD HK hr hd0
            rcases hor with h | h
            · go_wp2_with (go_at_call 106; refine ((HL.out) _).mono ?_; rintro e w' ⟨rfl, rfl⟩)
              go_ret
              exact ⟨rfl, rfl⟩
            · go_wp2_with (go_at_call 106; refine ((HL.out) _).mono ?_; rintro e w' ⟨rfl, rfl⟩)
              go_ret
              exact ⟨rfl, rfl⟩
          · have h1 : (48 : Int) ≤ ((s[k]).toNat : Int) := by have := HD.out; simp at this; omega
            have h2 : ((s[k]).toNat : Int) ≤ 57 := by have := HD.out; simp at this; omega
            clear HP H0 HF HN HD HK
            go_wp2_with (go_at_call 106; refine ((HL.out) _).mono ?_; rintro e w' ⟨rfl, rfl⟩)
            go_round
            case rel => exact ⟨k + 1, by omega, by go_num, by rw [Hid, HS.out, hr.out]; rfl, fun h _ => hd0.out h (by omega)⟩
            case measure => simp [intOf]; omega
      · have HQ : Hid (∀ h : 0 < s.size, 0 < k + 1 → digI (s[0]).toNat = false) := fun h _ => by
          by_cases h0 : k = 0
          · rw [HK.out h0 h]; exact HN.out rfl
          · exact hd0.out h (by omega)
        clear HP H0 HF HN HD HK
        go_wp2_with (go_at_call 106; refine ((HL.out) _).mono ?_; rintro e w' ⟨rfl, rfl⟩)
        go_round
        case rel => exact ⟨k + 1, by omega, by go_num, by rw [Hid, HS.out, hr.out]; rfl, HQ⟩
        case measure => simp [intOf]; omega
    · have hk' : k = s.size := by omega
      by_cases hz : s.size = 0
      · have hb := H0.out hz
        clear HP H0 hr hd0 hk'
        go_wp2
        go_ret
        exact ⟨ret_bool rfl, rfl⟩
      · have hb : b = true := by
          rw [HP.out (by omega), hd0.out (by omega) (by omega), ← all_take_full, ← hk', hr.out]; rfl
        clear HP H0 hr hd0 hk'
        go_wp2
        go_ret
        exact ⟨ret_bool (by simp; omega), rfl⟩

set_option maxHeartbeats 400000 in
theorem rMember_any (s : ByteArray) (hs : s.size ≤ maxLen) (w : World) :
    Calls Tryz.prog 62 #[.string s] w fun e w' => e = .returned (.bool (memberL s.data.toList)) ∧ w' = w := by
  have hlen : s.data.toList.length = s.size := by simp
  have HM : Hid (memberL s.data.toList = ((s.toList == [60, 105, 110, 105, 116, 62]) || (decide (s.size ≤ 60) && partL s.data.toList))) := by
    unfold memberL; rw [init_beq, hlen]; rfl
  have HI : Hid (∀ w, _) := rPart_any s hs
  unfold maxLen at hs
  generalize memberL s.data.toList = b at *
  generalize partL s.data.toList = d at *
  clear hlen
  by_cases hq : (s.toList == [60, 105, 110, 105, 116, 62]) = true
  · go_enter Tryz.func62, Tryz.ntmps62
    go_wp2
    go_ret
    exact ⟨ret_bool (by rw [HM.out]; simp [hq]), rfl⟩
  · have hq' : (s.toList == [60, 105, 110, 105, 116, 62]) = false := by simpa using hq
    clear hq
    by_cases h60 : s.size ≤ 60
    · go_enter Tryz.func62, Tryz.ntmps62
      go_wp2_with (go_at_call 59; refine ((HI.out) _).mono ?_; rintro e w' ⟨rfl, rfl⟩)
      go_ret
      exact ⟨ret_bool (by rw [HM.out, hq']; simp [h60]), rfl⟩
    · go_enter Tryz.func62, Tryz.ntmps62
      go_wp2
      go_ret
      exact ⟨ret_bool (by rw [HM.out, hq']; simp [h60]), rfl⟩

end Go.Proofs.YtfbhjfpkhofifaaGreatDoor

namespace Go.Proofs.YtfbhjfpkhofifaaGreatDoor
open Go.RowKit

/-- what a round of the document's cutting loop leaves, behind the append -/
theorem rParts_rel {w wr w1 : World} {B : Nat} {v v' : Value} {done : List (List UInt8)} {part : ByteArray} {o : Obj}
    (hB : B ≤ wr.heap.size) (hown : wr.ownsRow B 9 1 v done.length (done.map strV)) (hbel : Below B w wr)
    (hown' : w1.ownsRow B 9 1 v' (done.length + 1) (done.map strV ++ [.string part])) (hg : (wr.alloc o).grownBy w1 v.ownBlock) :
    w1.ownsRow B 9 1 v' (done ++ [part.data.toList]).length ((done ++ [part.data.toList]).map strV) ∧ Below B w w1 := by
  constructor
  · simpa [strV] using hown'
  · refine (hbel.alloc hB o).grown hg (by simp; omega) ?_
    intro k hk
    exact (hown.lt k hk).1

theorem free_succ (s : ByteArray) (f k : Nat) (hf : f ≤ k) (hlt : k < s.size) (h : (47 : UInt8) ∉ (s.data.toList.drop f).take (k - f)) (e : (((s[k]).toNat : Int) == 47) = false) :
    (47 : UInt8) ∉ (s.data.toList.drop f).take (k + 1 - f) := by
  have hl : k - f < (s.data.toList.drop f).length := by rw [List.length_drop]; simp; omega
  rw [show k + 1 - f = (k - f) + 1 by omega, List.take_succ_eq_append_getElem hl]
  intro m
  rcases List.mem_append.1 m with m | m
  · exact h m
  · have m2 := List.mem_singleton.1 m
    rw [List.getElem_drop] at m2
    have e3 : s.data.toList[f + (k - f)]? = some s[k] := by rw [show f + (k - f) = k by omega]; exact Lib.Pa.at_eq s k hlt
    rw [List.getElem?_eq_getElem (by simp; omega)] at e3
    have e4 : s[k] = 47 := by rw [m2]; exact (Option.some.inj e3).symm
    rw [e4] at e; simp at e

theorem cut_here (s : ByteArray) (f k : Nat) (hf : f ≤ k) (hlt : k < s.size) (e : (((s[k]).toNat : Int) == 47) = true) :
    s.data.toList.drop f = (s.data.toList.drop f).take (k - f) ++ 47 :: s.data.toList.drop (k + 1) := by
  have h1 : s.data.toList.drop f = (s.data.toList.drop f).take (k - f) ++ (s.data.toList.drop f).drop (k - f) := (List.take_append_drop _ _).symm
  have h2 : (s.data.toList.drop f).drop (k - f) = s.data.toList.drop k := by rw [List.drop_drop]; congr 1; omega
  have h3 : s.data.toList.drop k = 47 :: s.data.toList.drop (k + 1) := by
    rw [List.drop_eq_getElem_cons (by simpa using hlt)]
    congr 1
    have e3 := Lib.Pa.at_eq s k hlt
    rw [List.getElem?_eq_getElem (by simpa using hlt)] at e3
    rw [Option.some.inj e3]
    apply UInt8.toNat_inj.1; have := beq_iff_eq.1 e; simpa using (by omega : (s[k]).toNat = 47)
  rw [h2, h3] at h1
  exact h1

set_option maxRecDepth 100000 in
set_option maxHeartbeats 1000000 in
theorem rParts_any (s : ByteArray) (hs : s.size ≤ 1099511627776) (w : World) :
    Calls Tryz.prog 58 #[.string s] w fun e w' => ∃ v, e = .returned v ∧ w'.ownsRow w.heap.size 9 1 v (partsL s.data.toList).length ((partsL s.data.toList).map strV) ∧ Below w.heap.size w w' := by
  obtain ⟨i0, hi, hz0, hz1, hz2⟩ := info_parts Tryz.info9
  have HL : Hid _ := partsL_length s.data.toList
  have HZ : Hid (s.data.toList.length = s.size) := by simp [Hid]
  go_enter Tryz.func58, Tryz.ntmps58
  go_wp2
  go_loopw [3, 4, 5] (fun v fr i wr => ∃ (done : List (List UInt8)) (f k : Nat), fr = .int .i64 f ∧ i = .int .i64 k ∧ f ≤ k ∧ k ≤ s.size ∧
      wr.ownsRow w.heap.size 9 1 v done.length (done.map strV) ∧ Below w.heap.size w wr ∧ Hid ((47 : UInt8) ∉ (s.data.toList.drop f).take (k - f)) ∧ Hid (done ++ partsL (s.data.toList.drop f) = partsL s.data.toList))
    (fun _ _ i _ => s.size - (intOf i).toNat)
  case atStart => exact ⟨[], 0, 0, rfl, rfl, Nat.le_refl _, Nat.zero_le _, World.ownsRow_nil _ _ _ _, Below.refl _ _, by simp [Hid], by simp [Hid]⟩
  case round =>
    obtain ⟨done, f, k, rfl, rfl, hfk, hks, hown, hbel, hfree, hp⟩ := hrel
    have hbs := hbel.size
    have hn1 := partsL_ne (s.data.toList.drop f)
    have hn2 : 1 ≤ (partsL (s.data.toList.drop f)).length := by
      cases e : partsL (s.data.toList.drop f) with
      | nil => exact absurd e hn1
      | cons a b => simp
    have hdl : done.length + 1 ≤ s.size + 1 := by have := HL.out; rw [← hp.out, HZ.out, List.length_append] at this; omega
    clear hn1 hn2
    by_cases hlt : k < s.size
    · cases he : (((s[k]).toNat : Int) == 47) with
      | true =>
        have HC : Hid _ := cut_here s f k hfk hlt he
        have hd : done ++ [(s.extract f k).data.toList] ++ partsL (s.data.toList.drop (k + 1)) = partsL s.data.toList := by
          rw [← hp.out, Lib.extract_data]
          conv => rhs; rw [HC.out, partsL_cut _ _ hfree.out]
          simp
        have HD : Hid _ := hd
        clear hd HC hp hfree
        have hex : (s.extract f k).size ≤ s.size := by simp; omega
        go_wp2_with (at_builtin; refine wpList_append_own _ rfl _ _ 22 rfl w.heap.size 9 i0 (.string ⟨#[]⟩) 1 16 Tryz.underlying22 hi hz0 hz1 hz2 rfl (by decide) _ _ _ rfl (hown.alloc _) ⟨wr.heap.size, 0, none⟩ 1 1 [.string (s.extract f k)] rfl rfl ?c1 ?c2 ?c3 ?c4 ?c5 ?_)
        case c1 => exact cell_one_new _ _ _
        case c2 => intro u hu; simp at hu; subst hu; rfl
        case c3 => unfold maxLen; omega
        case c4 => omega
        case c5 => simp; omega
        · intro v' w1 hown' hgrow _
          have R := rParts_rel hbs hown hbel hown' hgrow
          clear hown' hgrow hown
          go_wp2
          go_roundw
          case rel => exact ⟨done ++ [(s.extract f k).data.toList], k + 1, k + 1, by go_num, by go_num, Nat.le_refl _, by omega, R.1, R.2, by simp [Hid], HD.out⟩
          case measure => simp [intOf]; omega
      | false =>
        have HF : Hid _ := free_succ s f k hfk hlt hfree.out he
        clear hfree
        go_wp2
        go_roundw
        case rel => exact ⟨done, f, k + 1, rfl, by go_num, by omega, by omega, hown, hbel, HF, hp⟩
        case measure => simp [intOf]; omega
    · have hk' : k = s.size := by omega
      have hd : done ++ [(s.extract f s.size).data.toList] = partsL s.data.toList := by
        rw [← hp.out, Lib.extract_to_end]
        congr 1
        have : (47 : UInt8) ∉ s.data.toList.drop f := by
          have := hfree.out
          rw [hk', List.take_of_length_le (by rw [List.length_drop, HZ.out]; omega)] at this
          exact this
        rw [partsL_free _ this]
      have HD : Hid _ := hd
      subst hk'
      clear hd hp hfree
      go_wp2_with (at_builtin; refine wpList_append_own _ rfl _ _ 22 rfl w.heap.size 9 i0 (.string ⟨#[]⟩) 1 16 Tryz.underlying22 hi hz0 hz1 hz2 rfl (by decide) _ _ _ rfl (hown.alloc _) ⟨wr.heap.size, 0, none⟩ 1 1 [.string (s.extract f s.size)] rfl rfl ?d1 ?d2 ?d3 ?d4 ?d5 ?_)
      case d1 => exact cell_one_new _ _ _
      case d2 => intro u hu; simp at hu; subst hu; rfl
      case d3 => unfold maxLen; omega
      case d4 => omega
      case d5 => simp; omega
      · intro v' w1 hown' hgrow _
        have R := rParts_rel hbs hown hbel hown' hgrow
        rw [HD.out] at R
        clear hown' hgrow hown
        go_wp2
        go_ret
        exact ⟨_, rfl, R⟩

end Go.Proofs.YtfbhjfpkhofifaaGreatDoor

namespace Go.Proofs.YtfbhjfpkhofifaaGreatDoor
open Go.RowKit

set_option maxRecDepth 100000 in
set_option maxHeartbeats 400000 in
theorem rValid_any (s : ByteArray) (hs : s.size ≤ maxLen) (w : World) :
    Calls Tryz.prog 26 #[.string s] w fun e w' => e = .returned (.bool (validL s.data.toList)) ∧ Below w.heap.size w w' := by
  have hlen : s.data.toList.length = s.size := by simp
  unfold maxLen at hs
  by_cases h60 : s.size ≤ 60
  · have HV : Hid (validL s.data.toList = (partsL s.data.toList).all partL) := by unfold validL; rw [hlen]; simp [Hid, h60]
    have HP : Hid (∀ w, _) := rParts_any s (by omega)
    have hne := partsL_ne s.data.toList
    have hpl := partsL_length s.data.toList
    rw [hlen] at hpl
    have hel : ∀ p ∈ partsL s.data.toList, p.length ≤ 60 := fun p hp => by have := partsL_mem s.data.toList p hp; omega
    generalize validL s.data.toList = b at *
    generalize partsL s.data.toList = ps at *
    have HN : Hid (ps ≠ []) := hne
    have HE : Hid (∀ p ∈ ps, p.length ≤ 60) := hel
    clear hne hlen hel
    go_enter Tryz.func26, Tryz.ntmps26
    go_wp2_with (go_at_call 58; refine ((HP.out) _).mono ?_; rintro e w1 ⟨v, rfl, hown, hbel⟩; obtain ⟨g, cap, rfl, hg, hgl, hcap, hcm, hcell⟩ := own_shape hown HN.out; clear hown)
    have HC : Hid (∀ k p, ps[k]? = some p → w1.cell? ⟨g, k, none⟩ = some (.string ⟨p.toArray⟩)) := hcell
    clear hcell HP HN
    go_loop [4] (fun i => ∃ k : Nat, k ≤ ps.length ∧ i = .int .i64 k ∧ Hid ((ps.take k).all partL = true)) (fun i => ps.length - (intOf i).toNat)
    case atStart => exact ⟨0, Nat.zero_le _, rfl, by simp [Hid]⟩
    case round =>
      obtain ⟨k, hk, rfl, hr⟩ := hrel
      by_cases hlt : k < ps.length
      · obtain ⟨p, hp⟩ : ∃ p, ps[k]? = some p := ⟨_, List.getElem?_eq_getElem hlt⟩
        have hc := HC.out k p hp
        have HS : Hid _ := all_step ps k p hp
        have HF : Hid _ := all_stop ps k p hp
        have hl60 := HE.out p (List.mem_of_getElem? hp)
        have HI : Hid (∀ w, _) := rPart_any ⟨p.toArray⟩ (by rw [mk_size]; unfold maxLen; omega)
        clear hp
        have e : (⟨p.toArray⟩ : ByteArray).data.toList = p := by simp
        rw [e] at HI
        clear e
        generalize partL p = d at *
        cases d
        · go_wp2_with (go_at_call 59; refine ((HI.out) _).mono ?_; rintro e w' ⟨rfl, rfl⟩)
          go_ret
          exact ⟨ret_bool (by rw [HV.out]; exact (HF.out trivial).symm), hbel⟩
        · go_wp2_with (go_at_call 59; refine ((HI.out) _).mono ?_; rintro e w' ⟨rfl, rfl⟩)
          go_round
          case rel => exact ⟨k + 1, by omega, by go_num, by rw [Hid, HS.out, hr.out]; rfl⟩
          case measure => simp [intOf]; omega
      · have hk' : k = ps.length := by omega
        go_wp2
        go_ret
        refine ⟨ret_bool ?_, hbel⟩
        rw [HV.out, ← hr.out, hk', List.take_length]
  · have HV : Hid (validL s.data.toList = false) := by unfold validL; rw [hlen]; simp [Hid, h60]
    clear hlen
    go_enter Tryz.func26, Tryz.ntmps26
    go_wp2
    go_ret
    exact ⟨ret_bool HV.out.symm, Below.refl _ _⟩

theorem same_stop (ps qs : List (List UInt8)) (k : Nat) (p q : List UInt8) (hp : ps[k]? = some p) (hq : qs[k]? = some q) (h : p ≠ q) : decide (ps = qs) = false := by
  simp only [decide_eq_false_iff_not]
  intro e
  rw [e, hq] at hp
  exact h (Option.some.inj hp).symm

theorem same_end (ps qs : List (List UInt8)) (h : ps.length = qs.length) (ht : ps.take ps.length = qs.take ps.length) : decide (ps = qs) = true := by
  rw [List.take_length, h, List.take_length] at ht
  simp [ht]

end Go.Proofs.YtfbhjfpkhofifaaGreatDoor

