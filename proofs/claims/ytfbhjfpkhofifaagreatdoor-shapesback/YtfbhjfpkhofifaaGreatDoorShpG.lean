/- The walk of the document's SameTexts (arbiterref01) at all lists. -/
import Derived.Test.YtfbhjfpkhofifaaGreatDoorSoA
namespace Go.Proofs.YtfbhjfpkhofifaaGreatDoor
open Go.RowKit

set_option maxRecDepth 100000 in
set_option maxHeartbeats 1000000 in
theorem same_all (v1 v2 : Value) (ps qs : List (List UInt8)) (w : World) (h1 : IsStrs w v1 ps) (h2 : IsStrs w v2 qs) :
    Calls Tryz.prog 50 #[v1, v2] w fun e w' => e = .returned (.bool (decide (ps = qs))) ∧ Below w.heap.size w w' := by
  by_cases n1 : ps = []
  · by_cases n2 : qs = []
    · subst n1 n2
      obtain ⟨a1, c1, rfl, _, _, _⟩ := h1
      obtain ⟨a2, c2, rfl, _, _, _⟩ := h2
      simp only [List.length_nil]
      go_enter Tryz.func50, Tryz.ntmps50
      go_wp2
      go_loopw [5] (fun iv wr => iv = .int .i64 0 ∧ wr = w) (fun _ _ => 0)
      case atStart => exact ⟨rfl, rfl⟩
      case round =>
        obtain ⟨rfl, rfl⟩ := hrel
        go_wp2
        go_ret
        exact ⟨ret_bool (by simp), Below.refl _ _⟩
    · subst n1
      obtain ⟨a1, c1, rfl, _, _, _⟩ := h1
      obtain ⟨a2, c2, rfl, _, _, _⟩ := h2
      simp only [List.length_nil]
      have hl : 0 < qs.length := List.length_pos_iff.2 n2
      have hne : (((0 : Nat) : Int) != (qs.length : Int)) = true := by rw [bne_iff_ne]; omega
      have hd : decide (([] : List (List UInt8)) = qs) = false := by rw [decide_eq_false_iff_not]; exact fun e => n2 e.symm
      rw [hd]
      generalize qs.length = K at *
      go_enter Tryz.func50, Tryz.ntmps50
      go_wp2
      go_ret
      exact ⟨rfl, Below.refl _ _⟩
  · by_cases n2 : qs = []
    · subst n2
      obtain ⟨a1, c1, rfl, _, _, _⟩ := h1
      obtain ⟨a2, c2, rfl, _, _, _⟩ := h2
      simp only [List.length_nil]
      have hl : 0 < ps.length := List.length_pos_iff.2 n1
      have hne : ((ps.length : Int) != ((0 : Nat) : Int)) = true := by rw [bne_iff_ne]; omega
      have hd : decide (ps = ([] : List (List UInt8))) = false := by rw [decide_eq_false_iff_not]; exact n1
      rw [hd]
      generalize ps.length = K at *
      go_enter Tryz.func50, Tryz.ntmps50
      go_wp2
      go_ret
      exact ⟨rfl, Below.refl _ _⟩
    · exact (same_any v1 v2 ps qs w h1 h2 n1 n2).mono fun e w' ⟨he, n, hw⟩ => ⟨he, by rw [hw]; exact below_drewN (Below.refl _ _) n⟩
end Go.Proofs.YtfbhjfpkhofifaaGreatDoor
