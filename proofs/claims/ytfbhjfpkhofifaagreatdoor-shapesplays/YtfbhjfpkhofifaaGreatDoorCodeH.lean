/- The walk of the document's Number (arbiterref04): the number that digits write; what was there before stays. -/
import Derived.Test.YtfbhjfpkhofifaaGreatDoorCodeL
import Derived.Test.YtfbhjfpkhofifaaGreatDoorCodeF
namespace Go.Proofs.YtfbhjfpkhofifaaGreatDoor
open Go.RowKit

def isDig (c : UInt8) : Bool := decide (48 ≤ c.toNat) && decide (c.toNat ≤ 57)
/-- the number that digits write -/
def digV (l : List UInt8) : Nat := l.foldl (fun n c => n * 10 + (c.toNat - 48)) 0
def minB (l : List UInt8) : Nat := if l.head? = some 45 then 1 else 0
def numN (l : List UInt8) : Int := if minB l = 1 then -(digV (l.drop 1) : Int) else digV l
def numB (l : List UInt8) : Bool := decide (minB l < l.length) && decide (l.length ≤ minB l + 10) && (l.drop (minB l)).all isDig
def numR (l : List UInt8) : Int × Bool := if numB l then (numN l, Lib.itoa (numN l) == l) else (0, false)

theorem digV_snoc (l : List UInt8) (c : UInt8) : digV (l ++ [c]) = digV l * 10 + (c.toNat - 48) := by simp [digV]

theorem digV_lt (l : List UInt8) (h : l.all isDig = true) : digV l < 10 ^ l.length := by
  have hg : ∀ (r : List UInt8) (n : Nat) (k : Nat), n < 10 ^ k → r.all isDig = true → r.foldl (fun n c => n * 10 + (c.toNat - 48)) n < 10 ^ (k + r.length) := by
    intro r
    induction r with
    | nil => intro n k hn _; simpa using hn
    | cons c r ih =>
      intro n k hn hr
      rw [List.all_cons, Bool.and_eq_true] at hr
      have h2 := hr.1
      simp only [isDig, Bool.and_eq_true, decide_eq_true_eq] at h2
      have := ih (n * 10 + (c.toNat - 48)) (k + 1) (by rw [Nat.pow_succ]; omega) hr.2
      rw [List.foldl_cons, List.length_cons, show k + (r.length + 1) = k + 1 + r.length by omega]
      exact this
  have := hg l 0 0 (by simp) h
  simpa [digV] using this

theorem digV_le (l : List UInt8) (h : l.all isDig = true) (hl : l.length ≤ 10) : digV l ≤ 9999999999 := by
  have h1 := digV_lt l h
  have h2 : 10 ^ l.length ≤ 10 ^ 10 := Nat.pow_le_pow_right (by omega) hl
  omega

theorem take_snoc (s : ByteArray) (a k : Nat) (h : a ≤ k) (hk : k < s.size) : (s.data.toList.drop a).take (k + 1 - a) = (s.data.toList.drop a).take (k - a) ++ [s[k]] := by
  have hl : k - a < (s.data.toList.drop a).length := by rw [List.length_drop]; simp; omega
  rw [show k + 1 - a = (k - a) + 1 by omega, List.take_succ_eq_append_getElem hl, List.getElem_drop]
  congr 2
  have e3 := Lib.Pa.at_eq s k hk
  rw [List.getElem?_eq_getElem (by simpa using hk)] at e3
  have e4 := Option.some.inj e3
  rw [← e4]
  congr 1
  omega

theorem all_not (s : ByteArray) (a k : Nat) (h : a ≤ k) (hk : k < s.size) (hd : isDig s[k] = false) : (s.data.toList.drop a).all isDig = false := by
  have h1 := take_snoc s a k h hk
  cases e : (s.data.toList.drop a).all isDig with
  | false => rfl
  | true =>
    have h2 : s[k] ∈ s.data.toList.drop a := by
      have : s[k] ∈ (s.data.toList.drop a).take (k + 1 - a) := by rw [h1]; simp
      exact List.mem_of_mem_take this
    rw [List.all_eq_true] at e
    rw [e _ h2] at hd
    exact absurd hd (by decide)

set_option maxRecDepth 100000 in
set_option maxHeartbeats 2000000 in
theorem number_neg (s : ByteArray) (h0 : 0 < s.size) (hm : minB s.data.toList = 1) (q45 : (((s[0]).toNat : Int) == 45) = true) (h1 : 1 < s.size) (h2 : s.size ≤ 1 + 10) (w : World) : Calls Tryz.prog 95 #[.string s] w fun e w' => e = .returned (.tuple #[.int .i64 (numR s.data.toList).1, .bool (numR s.data.toList).2]) ∧ Below w.heap.size w w' := by
  have hlen : s.data.toList.length = s.size := by simp
  have HNO : Hid ((s.data.toList.drop 1).all isDig = false → numR s.data.toList = (0, false)) := by
    intro h; rw [numR, numB, hm, h]; simp
  have HYES : Hid ((s.data.toList.drop 1).all isDig = true → numR s.data.toList = (numN s.data.toList, Lib.itoa (numN s.data.toList) == s.data.toList)) := by
    intro h; rw [numR, numB, hm, h, hlen]; simp; omega
  have HV : Hid (numN s.data.toList = -(digV (s.data.toList.drop 1) : Int)) := by
    rw [Hid, numN, hm]; rfl
  have hne : ((s.size : Int) == 1) = false := by rw [beq_eq_false_iff_ne]; omega
  have hgt : ¬ (1 + 10 : Int) < s.size := by omega
  have hgt2 : ¬ (11 : Int) < s.size := by omega
  generalize numR s.data.toList = z at *
  clear hm
  go_enter Tryz.func95, Tryz.ntmps95
  go_wp2
  go_loop [5, 6] (fun nv iv => ∃ (n k : Nat), nv = .int .i64 n ∧ iv = .int .i64 k ∧ 1 ≤ k ∧ k ≤ s.size ∧ n ≤ 9999999999 ∧ Hid (((s.data.toList.drop 1).take (k - 1)).all isDig = true ∧ n = digV ((s.data.toList.drop 1).take (k - 1)))) (fun _ iv => s.size - (intOf iv).toNat)
  case atStart => exact ⟨0, 1, rfl, rfl, Nat.le_refl _, by omega, by omega, by simp [Hid, digV]⟩
  case round =>
    obtain ⟨n, k, rfl, rfl, hk1, hk, hn, hD⟩ := hrel
    by_cases hlt : k < s.size
    · cases hd : isDig s[k] with
      | false =>
        have HZ : Hid (z = (0, false)) := HNO.out (all_not s 1 k hk1 hlt hd)
        have hd2 : ¬ (48 ≤ (s[k]).toNat ∧ (s[k]).toNat ≤ 57) := fun h => by rw [isDig] at hd; simp [h.1, h.2] at hd
        clear HNO HYES HV hD hd
        by_cases hlo : (s[k]).toNat < 48
        · have hlo2 : ((s[k]).toNat : Int) < 48 := by omega
          clear hd2
          go_wp2
          refine bodyPost_ret (v := .tuple #[.int .i64 0, .bool false]) (by simp [results, Tryz.results95, go_sem, *]) rfl ⟨by rw [HZ.out], Below.refl _ _⟩
        · have hhi : 57 < (s[k]).toNat := by omega
          have hlo2 : ¬ ((s[k]).toNat : Int) < 48 := by omega
          have hhi2 : (57 : Int) < ((s[k]).toNat : Int) := by omega
          clear hd2
          go_wp2
          refine bodyPost_ret (v := .tuple #[.int .i64 0, .bool false]) (by simp [results, Tryz.results95, go_sem, *]) rfl ⟨by rw [HZ.out], Below.refl _ _⟩
      | true =>
        have hd2 : 48 ≤ (s[k]).toNat ∧ (s[k]).toNat ≤ 57 := by rw [isDig] at hd; simpa using hd
        have hts := take_snoc s 1 k hk1 hlt
        have hall : ((s.data.toList.drop 1).take (k + 1 - 1)).all isDig = true := by rw [hts, List.all_append, hD.out.1]; simp [hd]
        have hval : n * 10 + ((s[k]).toNat - 48) = digV ((s.data.toList.drop 1).take (k + 1 - 1)) := by rw [hts, digV_snoc, ← hD.out.2]
        have HLE : Hid (n * 10 + ((s[k]).toNat - 48) ≤ 9999999999) := by
          rw [Hid, hval]
          exact digV_le _ hall (by rw [List.length_take]; omega)
        have HN : Hid (((s.data.toList.drop 1).take (k + 1 - 1)).all isDig = true ∧ n * 10 + ((s[k]).toNat - 48) = digV ((s.data.toList.drop 1).take (k + 1 - 1))) := ⟨hall, hval⟩
        obtain ⟨dg, hdg⟩ : ∃ dg : Nat, (s[k]).toNat = 48 + dg := ⟨(s[k]).toNat - 48, by omega⟩
        have hlo2 : ¬ ((s[k]).toNat : Int) < 48 := by omega
        have hhi2 : ¬ (57 : Int) < ((s[k]).toNat : Int) := by omega
        have hdb : dg ≤ 9 := by omega
        have hsub : ((s[k]).toNat : Int) - 48 = dg := by omega
        clear hval hall hts HNO HYES HV hD hd hd2
        go_wp2
        go_round
        case rel => exact ⟨n * 10 + ((s[k]).toNat - 48), k + 1, by go_num, by go_num, by omega, by omega, HLE.out, HN⟩
        case measure => simp [intOf]; omega
    · have hk' : k = s.size := by omega
      have hall : (s.data.toList.drop 1).all isDig = true := by
        have := hD.out.1
        rw [List.take_of_length_le (by rw [List.length_drop, hlen]; omega)] at this
        exact this
      have hval : n = digV (s.data.toList.drop 1) := by
        have := hD.out.2
        rw [List.take_of_length_le (by rw [List.length_drop, hlen]; omega)] at this
        exact this
      have hz := HYES.out hall
      have hnn : numN s.data.toList = (-(n : Int)) := by rw [HV.out, hval]
      rw [hnn] at hz
      have HD : Hid (∀ w, _) := rDecimal_any (-(n : Int)) (by omega) (by omega)
      obtain ⟨X, hX⟩ : ∃ X : ByteArray, X = ⟨(Lib.itoa (-(n : Int))).toArray⟩ := ⟨_, rfl⟩
      have hbe : (X.toList == s.toList) = (Lib.itoa (-(n : Int)) == s.data.toList) := by rw [str_beq, hX]
      rw [← hbe] at hz
      rw [← hX] at HD
      have HZ : Hid _ := hz
      subst hk'
      clear hbe hX hnn hval hall hz HNO HYES HV hD
      generalize hq : (X.toList == s.toList) = qq at *
      go_wp2_with (go_at_call 40; refine (HD.out _).mono ?_; rintro e w1 ⟨rfl, hb1⟩)
      refine bodyPost_ret (v := .tuple #[.int .i64 (-(n : Int)), .bool qq]) (by simp [results, Tryz.results95, go_sem, *]) rfl ⟨by rw [HZ.out], hb1⟩

set_option maxRecDepth 100000 in
set_option maxHeartbeats 2000000 in
theorem number_pos (s : ByteArray) (h0 : 0 < s.size) (hm : minB s.data.toList = 0) (q45 : (((s[0]).toNat : Int) == 45) = false) (h2 : s.size ≤ 0 + 10) (w : World) : Calls Tryz.prog 95 #[.string s] w fun e w' => e = .returned (.tuple #[.int .i64 (numR s.data.toList).1, .bool (numR s.data.toList).2]) ∧ Below w.heap.size w w' := by
  have hlen : s.data.toList.length = s.size := by simp
  have HNO : Hid ((s.data.toList.drop 0).all isDig = false → numR s.data.toList = (0, false)) := by
    intro h; rw [numR, numB, hm, h]; simp
  have HYES : Hid ((s.data.toList.drop 0).all isDig = true → numR s.data.toList = (numN s.data.toList, Lib.itoa (numN s.data.toList) == s.data.toList)) := by
    intro h; rw [numR, numB, hm, h, hlen]; simp; omega
  have HV : Hid (numN s.data.toList = (digV (s.data.toList.drop 0) : Int)) := by
    rw [Hid, numN, hm]; rfl
  have hne : ((s.size : Int) == 0) = false := by rw [beq_eq_false_iff_ne]; omega
  have hgt : ¬ (0 + 10 : Int) < s.size := by omega
  have hgt2 : ¬ (10 : Int) < s.size := by omega
  generalize numR s.data.toList = z at *
  clear hm
  go_enter Tryz.func95, Tryz.ntmps95
  go_wp2
  go_loop [5, 6] (fun nv iv => ∃ (n k : Nat), nv = .int .i64 n ∧ iv = .int .i64 k ∧ 0 ≤ k ∧ k ≤ s.size ∧ n ≤ 9999999999 ∧ Hid (((s.data.toList.drop 0).take (k - 0)).all isDig = true ∧ n = digV ((s.data.toList.drop 0).take (k - 0)))) (fun _ iv => s.size - (intOf iv).toNat)
  case atStart => exact ⟨0, 0, rfl, rfl, Nat.le_refl _, by omega, by omega, by simp [Hid, digV]⟩
  case round =>
    obtain ⟨n, k, rfl, rfl, hk1, hk, hn, hD⟩ := hrel
    by_cases hlt : k < s.size
    · cases hd : isDig s[k] with
      | false =>
        have HZ : Hid (z = (0, false)) := HNO.out (all_not s 0 k hk1 hlt hd)
        have hd2 : ¬ (48 ≤ (s[k]).toNat ∧ (s[k]).toNat ≤ 57) := fun h => by rw [isDig] at hd; simp [h.1, h.2] at hd
        clear HNO HYES HV hD hd
        by_cases hlo : (s[k]).toNat < 48
        · have hlo2 : ((s[k]).toNat : Int) < 48 := by omega
          clear hd2
          go_wp2
          refine bodyPost_ret (v := .tuple #[.int .i64 0, .bool false]) (by simp [results, Tryz.results95, go_sem, *]) rfl ⟨by rw [HZ.out], Below.refl _ _⟩
        · have hhi : 57 < (s[k]).toNat := by omega
          have hlo2 : ¬ ((s[k]).toNat : Int) < 48 := by omega
          have hhi2 : (57 : Int) < ((s[k]).toNat : Int) := by omega
          clear hd2
          go_wp2
          refine bodyPost_ret (v := .tuple #[.int .i64 0, .bool false]) (by simp [results, Tryz.results95, go_sem, *]) rfl ⟨by rw [HZ.out], Below.refl _ _⟩
      | true =>
        have hd2 : 48 ≤ (s[k]).toNat ∧ (s[k]).toNat ≤ 57 := by rw [isDig] at hd; simpa using hd
        have hts := take_snoc s 0 k hk1 hlt
        have hall : ((s.data.toList.drop 0).take (k + 1 - 0)).all isDig = true := by rw [hts, List.all_append, hD.out.1]; simp [hd]
        have hval : n * 10 + ((s[k]).toNat - 48) = digV ((s.data.toList.drop 0).take (k + 1 - 0)) := by rw [hts, digV_snoc, ← hD.out.2]
        have HLE : Hid (n * 10 + ((s[k]).toNat - 48) ≤ 9999999999) := by
          rw [Hid, hval]
          exact digV_le _ hall (by rw [List.length_take]; omega)
        have HN : Hid (((s.data.toList.drop 0).take (k + 1 - 0)).all isDig = true ∧ n * 10 + ((s[k]).toNat - 48) = digV ((s.data.toList.drop 0).take (k + 1 - 0))) := ⟨hall, hval⟩
        obtain ⟨dg, hdg⟩ : ∃ dg : Nat, (s[k]).toNat = 48 + dg := ⟨(s[k]).toNat - 48, by omega⟩
        have hlo2 : ¬ ((s[k]).toNat : Int) < 48 := by omega
        have hhi2 : ¬ (57 : Int) < ((s[k]).toNat : Int) := by omega
        have hdb : dg ≤ 9 := by omega
        have hsub : ((s[k]).toNat : Int) - 48 = dg := by omega
        clear hval hall hts HNO HYES HV hD hd hd2
        go_wp2
        go_round
        case rel => exact ⟨n * 10 + ((s[k]).toNat - 48), k + 1, by go_num, by go_num, by omega, by omega, HLE.out, HN⟩
        case measure => simp [intOf]; omega
    · have hk' : k = s.size := by omega
      have hall : (s.data.toList.drop 0).all isDig = true := by
        have := hD.out.1
        rw [List.take_of_length_le (by rw [List.length_drop, hlen]; omega)] at this
        exact this
      have hval : n = digV (s.data.toList.drop 0) := by
        have := hD.out.2
        rw [List.take_of_length_le (by rw [List.length_drop, hlen]; omega)] at this
        exact this
      have hz := HYES.out hall
      have hnn : numN s.data.toList = (n : Int) := by rw [HV.out, hval]
      rw [hnn] at hz
      have HD : Hid (∀ w, _) := rDecimal_any (n : Int) (by omega) (by omega)
      obtain ⟨X, hX⟩ : ∃ X : ByteArray, X = ⟨(Lib.itoa (n : Int)).toArray⟩ := ⟨_, rfl⟩
      have hbe : (X.toList == s.toList) = (Lib.itoa (n : Int) == s.data.toList) := by rw [str_beq, hX]
      rw [← hbe] at hz
      rw [← hX] at HD
      have HZ : Hid _ := hz
      subst hk'
      clear hbe hX hnn hval hall hz HNO HYES HV hD
      generalize hq : (X.toList == s.toList) = qq at *
      go_wp2_with (go_at_call 40; refine (HD.out _).mono ?_; rintro e w1 ⟨rfl, hb1⟩)
      refine bodyPost_ret (v := .tuple #[.int .i64 (n : Int), .bool qq]) (by simp [results, Tryz.results95, go_sem, *]) rfl ⟨by rw [HZ.out], hb1⟩

set_option maxRecDepth 100000 in
set_option maxHeartbeats 1000000 in
theorem number_short (s : ByteArray) (h : numR s.data.toList = (0, false)) (hq : s.size = 0 ∨ (∃ h0 : 0 < s.size, (((s[0]).toNat : Int) == 45) = true ∧ (s.size = 1 ∨ 11 < s.size)) ∨ (∃ h0 : 0 < s.size, (((s[0]).toNat : Int) == 45) = false ∧ 10 < s.size)) (w : World) : Calls Tryz.prog 95 #[.string s] w fun e w' => e = .returned (.tuple #[.int .i64 (numR s.data.toList).1, .bool (numR s.data.toList).2]) ∧ Below w.heap.size w w' := by
  rw [h]
  clear h
  rcases hq with hq | ⟨h0, q45, hq | hq⟩ | ⟨h0, q45, hq⟩
  · go_enter Tryz.func95, Tryz.ntmps95
    go_wp2
    exact bodyPost_ret (v := .tuple #[.int .i64 0, .bool false]) (by simp [results, Tryz.results95, go_sem, *]) rfl ⟨rfl, Below.refl _ _⟩
  · have hne : ((s.size : Int) == 1) = true := by rw [beq_iff_eq]; omega
    go_enter Tryz.func95, Tryz.ntmps95
    go_wp2
    exact bodyPost_ret (v := .tuple #[.int .i64 0, .bool false]) (by simp [results, Tryz.results95, go_sem, *]) rfl ⟨rfl, Below.refl _ _⟩
  · have hne : ((s.size : Int) == 1) = false := by rw [beq_eq_false_iff_ne]; omega
    have hgt : (11 : Int) < s.size := by omega
    go_enter Tryz.func95, Tryz.ntmps95
    go_wp2
    exact bodyPost_ret (v := .tuple #[.int .i64 0, .bool false]) (by simp [results, Tryz.results95, go_sem, *]) rfl ⟨rfl, Below.refl _ _⟩
  · have hne : ((s.size : Int) == 0) = false := by rw [beq_eq_false_iff_ne]; omega
    have hgt : (10 : Int) < s.size := by omega
    go_enter Tryz.func95, Tryz.ntmps95
    go_wp2
    exact bodyPost_ret (v := .tuple #[.int .i64 0, .bool false]) (by simp [results, Tryz.results95, go_sem, *]) rfl ⟨rfl, Below.refl _ _⟩

theorem rNumber_any (s : ByteArray) (w : World) : Calls Tryz.prog 95 #[.string s] w fun e w' => e = .returned (.tuple #[.int .i64 (numR s.data.toList).1, .bool (numR s.data.toList).2]) ∧ Below w.heap.size w w' := by
  have hlen : s.data.toList.length = s.size := by simp
  by_cases h0 : s.size = 0
  · refine number_short s ?_ (.inl h0) w
    rw [numR, numB, hlen, h0]; simp
  · have hp : 0 < s.size := by omega
    have hh := head_at s hp
    by_cases h45 : s[0] = 45
    · have hm : minB s.data.toList = 1 := by rw [minB, hh, h45]; rfl
      have q45 : (((s[0]).toNat : Int) == 45) = true := by rw [h45]; rfl
      by_cases hs : s.size = 1 ∨ 11 < s.size
      · refine number_short s ?_ (.inr (.inl ⟨hp, q45, hs⟩)) w
        rw [numR, numB, hlen, hm]
        rcases hs with hs | hs
        · simp [hs]
        · have : decide (s.size ≤ 1 + 10) = false := by simp; omega
          simp [this]
      · exact number_neg s hp hm q45 (by omega) (by omega) w
    · have hm : minB s.data.toList = 0 := by rw [minB, hh, if_neg (by simpa using h45)]
      have q45 : (((s[0]).toNat : Int) == 45) = false := by have := byte_eq s 0 hp 45; simp only [h45, decide_false] at this; exact this
      by_cases hs : 10 < s.size
      · refine number_short s ?_ (.inr (.inr ⟨hp, q45, hs⟩)) w
        rw [numR, numB, hlen, hm]
        have : decide (s.size ≤ 0 + 10) = false := by simp; omega
        simp [this]
      · exact number_pos s hp hm q45 (by omega) w

end Go.Proofs.YtfbhjfpkhofifaaGreatDoor
