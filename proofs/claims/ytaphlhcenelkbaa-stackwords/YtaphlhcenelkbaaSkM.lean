/- StackWords. -/
import Derived.Test.YtaphlhcenelkbaaSkL
namespace Go.Proofs.Ytaphlhcenelkbaa
open Go.RowKit Go.Maps

/-- n frames of one kind -/
def repP (l m n : Nat) : List PF := List.replicate n ⟨[], m, List.replicate l (false, 0)⟩
theorem repP_wd (l m : Nat) : ∀ n, wdP (repP l m n) = n * (l + m + 3)
  | 0 => by simp [repP, wdP]
  | n + 1 => by
    have ih := repP_wd l m n
    rw [repP, List.replicate_succ, wdP, ← repP, ih, Nat.add_mul]
    simp
    omega
theorem repP_ent (l m n : Nat) (hl : l ≤ 40) (hm : m ≤ 40) (hw : (n + 1) * (l + m + 3) ≤ 4000) : enE (repP l m n) (l : Int) (m : Int) = 0 ∧ enP (repP l m n) (l : Int) (m : Int) = repP l m (n + 1) := by
  have h1 : ¬ ((l : Int) < 0 ∨ 40 < (l : Int) ∨ (m : Int) < 0 ∨ 40 < (m : Int)) := by omega
  rw [Nat.add_mul] at hw
  have h2 : ¬ 4000 < (wdP (repP l m n) : Int) + (l : Int) + (m : Int) + 3 := by rw [repP_wd]; omega
  rw [enE, enP, if_neg h1, if_neg h1, if_neg h2, if_neg h2]
  exact ⟨rfl, by simp [repP, List.replicate_succ]⟩
theorem repP_full (l m n : Nat) (hl : l ≤ 40) (hm : m ≤ 40) (hw : 4000 < (n + 1) * (l + m + 3)) : enE (repP l m n) (l : Int) (m : Int) = 33 ∧ enP (repP l m n) (l : Int) (m : Int) = repP l m n := by
  have h1 : ¬ ((l : Int) < 0 ∨ 40 < (l : Int) ∨ (m : Int) < 0 ∨ 40 < (m : Int)) := by omega
  rw [Nat.add_mul] at hw
  have h2 : 4000 < (wdP (repP l m n) : Int) + (l : Int) + (m : Int) + 3 := by rw [repP_wd]; omega
  rw [enE, enP, if_neg h1, if_neg h1, if_pos h2, if_pos h2]
  exact ⟨rfl, rfl⟩
set_option maxRecDepth 100000 in
set_option maxHeartbeats 1000000 in
theorem StackWords_bad (W : World) (l m : Int) (hb : l < 0 ∨ 40 < l ∨ m < 0 ∨ 40 < m) : Calls Try.prog 5 #[.int .i64 l, .int .i64 m] W fun e w' => e = .returned (.bool true) ∧ Below W.heap.size W w' := by
  have HA : Hid (∀ w : World, Calls Try.prog 7 #[] w fun e w' => e = .returned (.bool true) ∧ Below w.heap.size w w') := awake_s
  have HN : Hid (∀ w, Below W.heap.size W w → Calls Try.prog 8 #[] w fun e w' => e = .returned (.pointer (some ⟨w.heap.size, 0, none⟩)) ∧ One true W w' (fun j => j = w.heap.size) w.heap.size [] ∧ Below w.heap.size w w') := fun w hb => one_new W w hb
  have HE : Hid (∀ w S sb, One true W w S sb [] → Calls Try.prog 15 #[.pointer (some ⟨sb, 0, none⟩), .int .i64 l, .int .i64 m] w fun e w' => e = .returned (.int .i64 2) ∧ OneN true W w S sb w' []) := fun w S sb h => by
    have := one_ent h l m
    rw [enE, enP, if_pos hb, if_pos hb] at this
    exact this
  have HW : Hid (∀ w S sb, One true W w S sb [] → Calls Try.prog 11 #[.pointer (some ⟨sb, 0, none⟩)] w fun e w' => e = .returned (.int .i64 0) ∧ Below w.heap.size w w') := fun w S sb h => one_wrd h
  clear hb
  go_enter Try.func5, Try.ntmps5
  go_wp2_with (first
    | (go_at_call 8; refine (HN.out _ B0.out).mono ?_; rintro e w1 ⟨rfl, o1, hb⟩; have O1 : Hid (One true W w1 (fun j => j = w0.heap.size) w0.heap.size []) := o1; clear o1 hb)
    | (go_at_call 7; refine (HA.out _).mono ?_; rintro e w0 ⟨rfl, hb⟩; have B0 : Hid (Below W.heap.size W w0) := hb; clear hb))
  go_loopw [6] (fun iv wr => iv = .int .i64 0 ∧ ∃ S, Hid (One true W wr S w0.heap.size [])) (fun _ _ => 0)
  case atStart => exact ⟨rfl, _, O1⟩
  case round =>
    obtain ⟨rfl, S, O2⟩ := hrel
    clear O1 HA HN
    go_wp2_with (first
      | (go_at_call 11; refine (HW.out _ _ _ O4.out).mono ?_; rintro e w5 ⟨rfl, hb⟩; have O5 : Hid (One true W w5 S4 w0.heap.size []) := O4.out.bel hb; clear hb)
      | (go_at_call 15; refine (HE.out _ _ _ O3.out).mono ?_; rintro e w4 ⟨rfl, S4, o4, t4, u4⟩; have O4 : Hid (One true W w4 S4 w0.heap.size []) := o4; clear o4 t4 u4)
      | (go_at_call 15; refine (HE.out _ _ _ O2.out).mono ?_; rintro e w3 ⟨rfl, S3, o3, t3, u3⟩; have O3 : Hid (One true W w3 S3 w0.heap.size []) := o3; clear o3 t3 u3))
    go_ret
    exact ⟨rfl, O5.out.bl⟩
set_option maxRecDepth 100000 in
set_option maxHeartbeats 1000000 in
theorem StackWords_ok (W : World) (l m : Nat) (hl : l ≤ 40) (hm : m ≤ 40) : Calls Try.prog 5 #[.int .i64 (l : Int), .int .i64 (m : Int)] W fun e w' => e = .returned (.bool true) ∧ Below W.heap.size W w' := by
  have HA : Hid (∀ w : World, Calls Try.prog 7 #[] w fun e w' => e = .returned (.bool true) ∧ Below w.heap.size w w') := awake_s
  have HN : Hid (∀ w, Below W.heap.size W w → Calls Try.prog 8 #[] w fun e w' => e = .returned (.pointer (some ⟨w.heap.size, 0, none⟩)) ∧ One true W w' (fun j => j = w.heap.size) w.heap.size [] ∧ Below w.heap.size w w') := fun w hb => one_new W w hb
  have HY : Hid (∀ n, (n + 1) * (l + m + 3) ≤ 4000 → ∀ w S sb, One true W w S sb (repP l m n) → Calls Try.prog 15 #[.pointer (some ⟨sb, 0, none⟩), .int .i64 (l : Int), .int .i64 (m : Int)] w fun e w' => e = .returned (.int .i64 0) ∧ OneN true W w S sb w' (repP l m (n + 1))) := fun n hn w S sb h => by
    have := one_ent h l m
    rw [(repP_ent l m n hl hm hn).1, (repP_ent l m n hl hm hn).2] at this
    exact this
  have HF : Hid (∀ n, 4000 < (n + 1) * (l + m + 3) → ∀ w S sb, One true W w S sb (repP l m n) → Calls Try.prog 15 #[.pointer (some ⟨sb, 0, none⟩), .int .i64 (l : Int), .int .i64 (m : Int)] w fun e w' => e = .returned (.int .i64 33) ∧ OneN true W w S sb w' (repP l m n)) := fun n hn w S sb h => by
    have := one_ent h l m
    rw [(repP_full l m n hl hm hn).1, (repP_full l m n hl hm hn).2] at this
    exact this
  have HW : Hid (∀ n z, n * (l + m + 3) = z → ∀ w S sb, One true W w S sb (repP l m n) → Calls Try.prog 11 #[.pointer (some ⟨sb, 0, none⟩)] w fun e w' => e = .returned (.int .i64 (z : Int)) ∧ Below w.heap.size w w') := fun n z hz w S sb h => by
    have := one_wrd h
    rw [repP_wd, hz] at this
    exact this
  have HL : Hid (∀ n w S sb, One true W w S sb (repP l m (n + 1)) → Calls Try.prog 16 #[.pointer (some ⟨sb, 0, none⟩)] w fun e w' => e = .returned (.int .i64 0) ∧ OneN true W w S sb w' (repP l m n)) := fun n w S sb h => one_lev h
  have HG : Hid (∀ w S sb, One true W w S sb [] → Calls Try.prog 10 #[.pointer (some ⟨sb, 0, none⟩)] w fun e w' => e = .returned (.int .i64 0) ∧ Below w.heap.size w w') := fun w S sb h => one_frm h
  go_enter Try.func5, Try.ntmps5
  go_wp2_with (first
    | (go_at_call 8; refine (HN.out _ B0.out).mono ?_; rintro e w1 ⟨rfl, o1, hb⟩; have O1 : Hid (One true W w1 (fun j => j = w0.heap.size) w0.heap.size []) := o1; clear o1 hb)
    | (go_at_call 7; refine (HA.out _).mono ?_; rintro e w0 ⟨rfl, hb⟩; have B0 : Hid (Below W.heap.size W w0) := hb; clear hb))
  go_loopw [6] (fun iv wr => ∃ n : Nat, iv = .int .i64 (n : Int) ∧ Hid (n * (l + m + 3) ≤ 4000) ∧ n ≤ 1333 ∧ ∃ S, Hid (One true W wr S w0.heap.size (repP l m n))) (fun iv _ => 1334 - (intOf iv).toNat)
  case atStart => exact ⟨0, rfl, by simp [Hid], by omega, _, O1⟩
  case round =>
    obtain ⟨n, rfl, hn4, hn, S, O2⟩ := hrel
    clear O1 HA HN
    have k0 : (n : Int) < 2000 := by omega
    by_cases hk : (n + 1) * (l + m + 3) ≤ 4000
    · have HE : Hid (∀ w S sb, One true W w S sb (repP l m n) → Calls Try.prog 15 #[.pointer (some ⟨sb, 0, none⟩), .int .i64 (l : Int), .int .i64 (m : Int)] w fun e w' => e = .returned (.int .i64 0) ∧ OneN true W w S sb w' (repP l m (n + 1))) := HY.out n hk
      have hk2 : n + 1 ≤ 1333 := by
        have : (n + 1) * 3 ≤ (n + 1) * (l + m + 3) := Nat.mul_le_mul_left _ (by omega)
        omega
      have HK : Hid ((n + 1) * (l + m + 3) ≤ 4000) := hk
      clear hk HY HF HW HL HG hn4
      go_wp2_with (go_at_call 15; refine (HE.out _ _ _ O2.out).mono ?_; rintro e w3 ⟨rfl, S3, o3, t3, u3⟩; have O3 : Hid (One true W w3 S3 w0.heap.size (repP l m (n + 1))) := o3; clear o3 t3 u3)
      go_roundw
      case rel => exact ⟨n + 1, by go_num, HK, hk2, S3, O3⟩
      case measure => simp [intOf]; omega
    · have hn0 : n ≠ 0 := fun e => hk (by rw [e]; omega)
      obtain ⟨z, hz⟩ : ∃ z, n * (l + m + 3) = z := ⟨_, rfl⟩
      have HE : Hid (∀ w S sb, One true W w S sb (repP l m n) → Calls Try.prog 15 #[.pointer (some ⟨sb, 0, none⟩), .int .i64 (l : Int), .int .i64 (m : Int)] w fun e w' => e = .returned (.int .i64 33) ∧ OneN true W w S sb w' (repP l m n)) := HF.out n (by omega)
      have H1 : Hid (∀ w S sb, One true W w S sb (repP l m n) → Calls Try.prog 11 #[.pointer (some ⟨sb, 0, none⟩)] w fun e w' => e = .returned (.int .i64 (z : Int)) ∧ Below w.heap.size w w') := HW.out n z hz
      have hz4 : z ≤ 4000 := by rw [← hz]; exact hn4.out
      have hz5 : ¬ ((z : Int) + ((l : Int) + (m : Int) + 3) ≤ 4000) := by
        rw [Nat.add_mul, hz] at hk
        omega
      have hz6 : ¬ (4000 < (z : Int)) := by omega
      have hmul : (n : Int) * ((l : Int) + (m : Int) + 3) = (z : Int) := by rw [← hz]; push_cast; rfl
      have hw1 : IntKind.i64.wrap (z : Int) = (z : Int) := by rw [IntKind.wrap_i64]; omega
      have hn1 : ¬ (n : Int) = 0 := by omega
      have HZ : Hid (∀ w S sb, One true W w S sb [] → Calls Try.prog 11 #[.pointer (some ⟨sb, 0, none⟩)] w fun e w' => e = .returned (.int .i64 0) ∧ Below w.heap.size w w') := HW.out 0 0 (by simp)
      clear hk HY HF HW hn4 hz
      go_wp2_with (first
        | (go_at_call 15; refine (HE.out _ _ _ O6.out).mono ?_; rintro e w7 ⟨rfl, S7, o7, t7, u7⟩; have O7 : Hid (One true W w7 S7 w0.heap.size (repP l m n)) := o7; clear o7 t7 u7)
        | (go_at_call 11; refine (H1.out _ _ _ O5.out).mono ?_; rintro e w6 ⟨rfl, hb⟩; have O6 : Hid (One true W w6 S3 w0.heap.size (repP l m n)) := O5.out.bel hb; clear hb)
        | (go_at_call 11; refine (H1.out _ _ _ O4.out).mono ?_; rintro e w5 ⟨rfl, hb⟩; have O5 : Hid (One true W w5 S3 w0.heap.size (repP l m n)) := O4.out.bel hb; clear hb)
        | (go_at_call 11; refine (H1.out _ _ _ O3.out).mono ?_; rintro e w4 ⟨rfl, hb⟩; have O4 : Hid (One true W w4 S3 w0.heap.size (repP l m n)) := O3.out.bel hb; clear hb)
        | (go_at_call 15; refine (HE.out _ _ _ O2.out).mono ?_; rintro e w3 ⟨rfl, S3, o3, t3, u3⟩; have O3 : Hid (One true W w3 S3 w0.heap.size (repP l m n)) := o3; clear o3 t3 u3))
      clear HE H1 O2 O3 O4 O5 O6 hmul hw1 hz4 hz5 hz6
      go_loopw [8] (fun iv wr => ∃ k : Nat, iv = .int .i64 (k : Int) ∧ k ≤ n ∧ ∃ S, Hid (One true W wr S w0.heap.size (repP l m (n - k)))) (fun iv _ => n - (intOf iv).toNat)
      case atStart => exact ⟨0, rfl, Nat.zero_le _, _, O7⟩
      case round =>
        obtain ⟨k, rfl, hkn, S8, O8⟩ := hrel
        clear O7
        by_cases hlt : k < n
        · have hltI : (k : Int) < (n : Int) := by omega
          have O9 : Hid (One true W wr S8 w0.heap.size (repP l m (n - (k + 1) + 1))) := by
            have e : n - (k + 1) + 1 = n - k := by omega
            rw [e]; exact O8
          clear O8
          go_wp2_with (go_at_call 16; refine (HL.out _ _ _ _ O9.out).mono ?_; rintro e wa ⟨rfl, Sa, oa, ta, ua⟩; have OA : Hid (One true W wa Sa w0.heap.size (repP l m (n - (k + 1)))) := oa; clear oa ta ua)
          go_roundw
          case rel => exact ⟨k + 1, by go_num, by omega, Sa, OA⟩
          case measure => simp [intOf]; omega
        · obtain rfl : k = n := by omega
          have O9 : Hid (One true W wr S8 w0.heap.size []) := by
            have := O8
            rw [Nat.sub_self] at this
            exact this
          clear O8
          have hltI : ¬ (k : Int) < (k : Int) := by omega
          go_wp2_with (first
            | (go_at_call 10; refine (HG.out _ _ _ OA.out).mono ?_; rintro e wb ⟨rfl, hb⟩; have OB : Hid (One true W wb S8 w0.heap.size []) := OA.out.bel hb; clear hb)
            | (go_at_call 11; refine (HZ.out _ _ _ O9.out).mono ?_; rintro e wa ⟨rfl, hb⟩; have OA : Hid (One true W wa S8 w0.heap.size []) := O9.out.bel hb; clear hb))
          go_ret
          exact ⟨rfl, OB.out.bl⟩
theorem StackWords_any (l m : Int) (W : World) : Calls Try.prog 5 #[.int .i64 l, .int .i64 m] W fun e w' => e = .returned (.bool true) ∧ Below W.heap.size W w' := by
  by_cases hb : l < 0 ∨ 40 < l ∨ m < 0 ∨ 40 < m
  · exact StackWords_bad W l m hb
  · obtain ⟨a, rfl⟩ : ∃ a : Nat, l = (a : Int) := ⟨l.toNat, by omega⟩
    obtain ⟨b, rfl⟩ : ∃ b : Nat, m = (b : Int) := ⟨m.toNat, by omega⟩
    exact StackWords_ok W a b (by omega) (by omega)
end Go.Proofs.Ytaphlhcenelkbaa
