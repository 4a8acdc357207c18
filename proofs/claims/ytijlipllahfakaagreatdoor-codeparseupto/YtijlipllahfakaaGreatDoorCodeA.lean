/- Walks of the document's answers of layer 4 (arbiterref04): Operand and Decimal: each returns what the plain functions say; what was there before stays. -/
import Derived.Test.YtijlipllahfakaaGreatDoorRefDesc
import Derived.Lib.ItoaNum
import Derived.Lib.ItoaLen
import Derived.Laws.IdiomStrings
namespace Go.Proofs.YtijlipllahfakaaGreatDoor
open Go.RowKit

/-- the kinds of operands, in the order of the instructions' numbers -/
def opdTab : List Int := [-1, 1, 2, 2, 2, 2, 0, 0, 0, 0, 0, 3, 3, 3, 3, 3, 3, 3, 3, 0, 0, 0, 4, 6, 7, 0, 0, 0, 0, 0, 5, 5, 8, 8, 8, 8, 0, 0, 0, 0, 0]
def opdI (op : Int) : Int := if op < 1 ∨ 40 < op then -1 else opdTab.getD op.toNat 0

set_option maxRecDepth 100000 in
set_option maxHeartbeats 8000000 in
theorem rOperand_any (op : Int) (w : World) : Calls Tryz.prog 17 #[.int .i64 op] w fun e w' => e = .returned (.int .i64 (opdI op)) ∧ w' = w := by
  by_cases h : op < 1 ∨ 40 < op
  · have HO : Hid (opdI op = -1) := by rw [Hid, opdI, if_pos h]
    have hk : ∀ k : Int, 1 ≤ k → k ≤ 40 → (op == k) = false := fun k h1 h2 => by rw [beq_eq_false_iff_ne]; omega
    have e1 := hk 1 (by omega) (by omega); have e2 := hk 2 (by omega) (by omega); have e3 := hk 3 (by omega) (by omega); have e4 := hk 4 (by omega) (by omega); have e5 := hk 5 (by omega) (by omega)
    have e11 := hk 11 (by omega) (by omega); have e12 := hk 12 (by omega) (by omega); have e13 := hk 13 (by omega) (by omega); have e14 := hk 14 (by omega) (by omega); have e15 := hk 15 (by omega) (by omega); have e16 := hk 16 (by omega) (by omega); have e17 := hk 17 (by omega) (by omega); have e18 := hk 18 (by omega) (by omega)
    have e22 := hk 22 (by omega) (by omega); have e30 := hk 30 (by omega) (by omega); have e31 := hk 31 (by omega) (by omega); have e23 := hk 23 (by omega) (by omega); have e24 := hk 24 (by omega) (by omega)
    have e32 := hk 32 (by omega) (by omega); have e33 := hk 33 (by omega) (by omega); have e34 := hk 34 (by omega) (by omega); have e35 := hk 35 (by omega) (by omega)
    clear hk
    by_cases h1 : op < 1
    · clear h
      go_enter Tryz.func17, Tryz.ntmps17
      go_wp2
      go_ret
      exact ⟨ret_int HO.out.symm, rfl⟩
    · have h2 : 40 < op := by omega
      clear h
      go_enter Tryz.func17, Tryz.ntmps17
      go_wp2
      go_ret
      exact ⟨ret_int HO.out.symm, rfl⟩
  · obtain ⟨k, rfl⟩ : ∃ k : Nat, op = k := ⟨op.toNat, by omega⟩
    have hk : k = 1 ∨ k = 2 ∨ k = 3 ∨ k = 4 ∨ k = 5 ∨ k = 6 ∨ k = 7 ∨ k = 8 ∨ k = 9 ∨ k = 10 ∨ k = 11 ∨ k = 12 ∨ k = 13 ∨ k = 14 ∨ k = 15 ∨ k = 16 ∨ k = 17 ∨ k = 18 ∨ k = 19 ∨ k = 20 ∨ k = 21 ∨ k = 22 ∨ k = 23 ∨ k = 24 ∨ k = 25 ∨ k = 26 ∨ k = 27 ∨ k = 28 ∨ k = 29 ∨ k = 30 ∨ k = 31 ∨ k = 32 ∨ k = 33 ∨ k = 34 ∨ k = 35 ∨ k = 36 ∨ k = 37 ∨ k = 38 ∨ k = 39 ∨ k = 40 := by omega
    clear h
    rcases hk with rfl | rfl | rfl | rfl | rfl | rfl | rfl | rfl | rfl | rfl | rfl | rfl | rfl | rfl | rfl | rfl | rfl | rfl | rfl | rfl | rfl | rfl | rfl | rfl | rfl | rfl | rfl | rfl | rfl | rfl | rfl | rfl | rfl | rfl | rfl | rfl | rfl | rfl | rfl | rfl
    all_goals
      go_enter Tryz.func17, Tryz.ntmps17
      go_wp2
      go_ret
      exact ⟨rfl, rfl⟩

theorem dec_small {u : Nat} (h : u < 10) : Lib.decDigits u = [UInt8.ofNat (48 + u)] := by rw [Lib.decDigits, dif_pos h]
theorem dec_big {u : Nat} (h : ¬ u < 10) : Lib.decDigits u = Lib.decDigits (u / 10) ++ [UInt8.ofNat (48 + u % 10)] := by rw [Lib.decDigits, dif_neg h]

/-- the digits that are written while v is left of u -/
def decInv (u v : Nat) (l : List UInt8) : Prop := if v = 0 then Lib.decDigits u = l else Lib.decDigits u = Lib.decDigits v ++ l

theorem decInv_step {u v : Nat} {l : List UInt8} (hv : v ≠ 0) (h : decInv u v l) : decInv u (v / 10) (UInt8.ofNat (48 + v % 10) :: l) := by
  unfold decInv at *
  rw [if_neg hv] at h
  by_cases h10 : v < 10
  · have e0 : v / 10 = 0 := by omega
    have e1 : v % 10 = v := by omega
    rw [if_pos e0, h, dec_small h10, e1]; rfl
  · have e0 : v / 10 ≠ 0 := by omega
    rw [if_neg e0, h, dec_big h10]
    simp

theorem decInv_len {u v : Nat} {l : List UInt8} (h : decInv u v l) (hu : u < 18446744073709551616) : l.length ≤ 20 := by
  have h1 := Lib.nDigits_le20 u hu
  have h2 := Lib.decDigits_length u
  unfold decInv at h
  split at h
  · rw [h] at h2; omega
  · rw [h, List.length_append] at h2; omega

end Go.Proofs.YtijlipllahfakaaGreatDoor
