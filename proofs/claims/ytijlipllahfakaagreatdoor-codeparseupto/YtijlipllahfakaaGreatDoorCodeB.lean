/- The walk of the document's Decimal (arbiterref04): a number's digits; what was there before stays. -/
import Derived.Test.YtijlipllahfakaaGreatDoorCodeA
namespace Go.Proofs.YtijlipllahfakaaGreatDoor
open Go.RowKit

theorem byte_conv (r : Nat) (hr : r < 10) (w : World) :
    (convert 78 9 (.slice (some ⟨w.heap.size, 0, none⟩) 1 1)).run Tryz.prog (w.alloc (.cells #[.int .u8 (48 + (r : Int))] 5)) = .ok (.string ⟨#[UInt8.ofNat (48 + r)]⟩) (w.alloc (.cells #[.int .u8 (48 + (r : Int))] 5)) := by
  have hm : (UInt8.ofNat (48 + r)).toNat = 48 + r := by simp; omega
  exact run_convert_bytes_back (P := Tryz.prog) (w.alloc (.cells #[.int .u8 (48 + (r : Int))] 5)) 78 9 5 ⟨w.heap.size, 0, none⟩ 1 [UInt8.ofNat (48 + r)] Tryz.underlying78 Tryz.underlying5 Tryz.underlying9 (fun j hj => by
    match j, hj with
    | 0, _ => rw [Addr.add_lit, cell_of_row _ w.heap.size 0 _ 5 (0, 0) (heap_alloc_new w _)]; simp only [List.getElem?_toArray, List.getElem?_cons_zero]; simp; omega)

set_option maxRecDepth 100000 in
set_option maxHeartbeats 4000000 in
theorem decimal_pos (u : Nat) (hu : u ≤ 9223372036854775807) (h0 : u ≠ 0) (w : World) : Calls Tryz.prog 31 #[.int .i64 u] w fun e w' => e = .returned (.string ⟨(Lib.decDigits u).toArray⟩) ∧ Below w.heap.size w w' := by
  have hu0 : ((u : Int) == 0) = false := by rw [beq_eq_false_iff_ne]; omega
  have hun : ¬ (u : Int) < 0 := by omega
  go_enter Tryz.func31, Tryz.ntmps31
  go_wp2
  go_loopw [3, 4] (fun sv mv wr => ∃ (v : Nat) (acc : ByteArray), sv = .string acc ∧ mv = .int .i64 v ∧ v ≤ u ∧ acc.size ≤ 20 ∧ Hid (decInv u v acc.data.toList) ∧ Hid (Below w.heap.size w wr)) (fun _ mv _ => (intOf mv).natAbs)
  case atStart => exact ⟨u, ⟨#[]⟩, rfl, rfl, Nat.le_refl _, by decide, by simp [Hid, decInv, h0], Below.refl _ _⟩
  case round =>
    obtain ⟨v, acc, rfl, rfl, hv, hacc, hd, hb⟩ := hrel
    by_cases hv0 : v = 0
    · subst hv0
      have HN : Hid (acc.data.toList = Lib.decDigits u) := by have := hd.out; simp [decInv] at this; exact this.symm
      have hz : (((0 : Nat) : Int) != 0) = false := by decide
      clear hd
      go_wp2
      go_ret
      exact ⟨ret_str (by apply bytes_ext; rw [HN.out]), hb.out⟩
    · have hne : ((v : Int) != 0) = true := by rw [bne_iff_ne]; omega
      obtain ⟨r, hr⟩ : ∃ r, r = v % 10 := ⟨_, rfl⟩
      obtain ⟨q, hq⟩ : ∃ q, q = v / 10 := ⟨_, rfl⟩
      have hr10 : r < 10 := by omega
      have hqv : q < v := by omega
      have hmp : (v : Int).tmod 10 = (r : Int) := by rw [Int.tmod_eq_emod_of_nonneg (by omega)]; omega
      have hdp : (v : Int).tdiv 10 = (q : Int) := by rw [Int.tdiv_eq_ediv_of_nonneg (by omega)]; omega
      obtain ⟨c, hc⟩ : ∃ c : UInt8, c = UInt8.ofNat (48 + r) := ⟨_, rfl⟩
      have hcv := byte_conv r hr10 wr
      have hst := decInv_step hv0 hd.out
      rw [← hr, ← hq, ← hc] at hst
      rw [← hc] at hcv
      have HST : Hid (decInv u q ((⟨#[c]⟩ ++ acc : ByteArray).data.toList)) := by rw [Hid]; simpa [ByteArray.data_append] using hst
      have hsz := decInv_len hst (by omega)
      have HSZ : Hid ((⟨#[c]⟩ ++ acc : ByteArray).size ≤ 20) := by
        rw [Hid, ByteArray.size_append]
        simp at hsz
        show 1 + acc.size ≤ 20
        omega
      clear hst hsz hd hr hq hv0 hc
      have hrn : ¬ (r : Int) < 0 := by omega
      go_wp2
      go_roundw
      case rel => exact ⟨q, _, rfl, by go_num, by omega, HSZ.out, HST, hb.out.alloc hb.out.size _⟩
      case measure => simp [intOf]; omega

set_option maxRecDepth 100000 in
set_option maxHeartbeats 4000000 in
theorem decimal_neg (u : Nat) (hu : u ≤ 9223372036854775808) (h0 : u ≠ 0) (w : World) : Calls Tryz.prog 31 #[.int .i64 (-(u : Int))] w fun e w' => e = .returned (.string ⟨(45 :: Lib.decDigits u).toArray⟩) ∧ Below w.heap.size w w' := by
  have hu0 : ((-(u : Int)) == 0) = false := by rw [beq_eq_false_iff_ne]; omega
  have hun : (-(u : Int)) < 0 := by omega
  go_enter Tryz.func31, Tryz.ntmps31
  go_wp2
  go_loopw [3, 4] (fun sv mv wr => ∃ (v : Nat) (acc : ByteArray), sv = .string acc ∧ mv = .int .i64 (-(v : Int)) ∧ v ≤ u ∧ acc.size ≤ 20 ∧ Hid (decInv u v acc.data.toList) ∧ Hid (Below w.heap.size w wr)) (fun _ mv _ => (intOf mv).natAbs)
  case atStart => exact ⟨u, ⟨#[]⟩, rfl, rfl, Nat.le_refl _, by decide, by simp [Hid, decInv, h0], Below.refl _ _⟩
  case round =>
    obtain ⟨v, acc, rfl, rfl, hv, hacc, hd, hb⟩ := hrel
    by_cases hv0 : v = 0
    · subst hv0
      have HN : Hid (acc.data.toList = Lib.decDigits u) := by have := hd.out; simp [decInv] at this; exact this.symm
      have hz : ((-((0 : Nat) : Int)) != 0) = false := by decide
      clear hd
      go_wp2
      go_ret
      exact ⟨ret_str (by apply bytes_ext; simp [ByteArray.data_append, HN.out]), hb.out⟩
    · have hne : ((-(v : Int)) != 0) = true := by rw [bne_iff_ne]; omega
      obtain ⟨r, hr⟩ : ∃ r, r = v % 10 := ⟨_, rfl⟩
      obtain ⟨q, hq⟩ : ∃ q, q = v / 10 := ⟨_, rfl⟩
      have hr10 : r < 10 := by omega
      have hqv : q < v := by omega
      have hmp : (v : Int).tmod 10 = (r : Int) := by rw [Int.tmod_eq_emod_of_nonneg (by omega)]; omega
      have hdp : (v : Int).tdiv 10 = (q : Int) := by rw [Int.tdiv_eq_ediv_of_nonneg (by omega)]; omega
      have hm : (-(v : Int)).tmod 10 = -(r : Int) := by rw [Int.neg_tmod, hmp]
      have hdv : (-(v : Int)).tdiv 10 = -(q : Int) := by rw [Int.neg_tdiv, hdp]
      clear hmp hdp
      obtain ⟨c, hc⟩ : ∃ c : UInt8, c = UInt8.ofNat (48 + r) := ⟨_, rfl⟩
      have hcv := byte_conv r hr10 wr
      have hst := decInv_step hv0 hd.out
      rw [← hr, ← hq, ← hc] at hst
      rw [← hc] at hcv
      have HST : Hid (decInv u q ((⟨#[c]⟩ ++ acc : ByteArray).data.toList)) := by rw [Hid]; simpa [ByteArray.data_append] using hst
      have hsz := decInv_len hst (by omega)
      have HSZ : Hid ((⟨#[c]⟩ ++ acc : ByteArray).size ≤ 20) := by
        rw [Hid, ByteArray.size_append]
        simp at hsz
        show 1 + acc.size ≤ 20
        omega
      clear hst hsz hd hr hq hv0 hc
      by_cases hr0 : r = 0
      · subst hr0
        rw [show (48 : Int) + ((0 : Nat) : Int) = 48 from rfl] at hcv
        go_wp2
        go_roundw
        case rel => exact ⟨q, _, rfl, by go_num, by omega, HSZ.out, HST, hb.out.alloc hb.out.size _⟩
        case measure => simp [intOf]; omega
      · have hrn : -(r : Int) < 0 := by omega
        go_wp2
        go_roundw
        case rel => exact ⟨q, _, rfl, by go_num, by omega, HSZ.out, HST, hb.out.alloc hb.out.size _⟩
        case measure => simp [intOf]; omega

set_option maxRecDepth 100000 in
set_option maxHeartbeats 400000 in
theorem decimal_zero (w : World) : Calls Tryz.prog 31 #[.int .i64 0] w fun e w' => e = .returned (.string ⟨#[48]⟩) ∧ w' = w := by
  go_enter Tryz.func31, Tryz.ntmps31
  go_wp2
  go_ret
  exact ⟨rfl, rfl⟩

/-- a number's digits -/
theorem rDecimal_any (n : Int) (h1 : -9223372036854775808 ≤ n) (h2 : n ≤ 9223372036854775807) (w : World) : Calls Tryz.prog 31 #[.int .i64 n] w fun e w' => e = .returned (.string ⟨(Lib.itoa n).toArray⟩) ∧ Below w.heap.size w w' := by
  by_cases h0 : n = 0
  · subst h0
    refine (decimal_zero w).mono fun e w' ⟨he, hw⟩ => ⟨?_, by rw [hw]; exact Below.refl _ _⟩
    rw [he]
    have : Lib.itoa 0 = [48] := by rw [Lib.itoa, if_neg (by omega)]; exact dec_small (by decide)
    rw [this]
  · by_cases hn : n < 0
    · obtain ⟨u, rfl⟩ : ∃ u : Nat, n = -(u : Int) := ⟨n.natAbs, by omega⟩
      have : Lib.itoa (-(u : Int)) = 45 :: Lib.decDigits u := by rw [Lib.itoa, if_pos hn]; congr 2; omega
      rw [this]
      exact decimal_neg u (by omega) (by omega) w
    · obtain ⟨u, rfl⟩ : ∃ u : Nat, n = (u : Int) := ⟨n.toNat, by omega⟩
      have : Lib.itoa (u : Int) = Lib.decDigits u := by rw [Lib.itoa, if_neg hn]; rfl
      rw [this]
      exact decimal_pos u (by omega) (by omega) w

end Go.Proofs.YtijlipllahfakaaGreatDoor
