/- Walks of package shapes: Words, hasSoundBody, isSound: is a method sound in a class? What was there before stays. -/
import Derived.Test.YtfbhjfpkhofifaaGreatDoorSoA
import Derived.Test.YtfbhjfpkhofifaaGreatDoorShpC
import Derived.Test.YtfbhjfpkhofifaaGreatDoorOwnL
import Derived.Test.YtfbhjfpkhofifaaGreatDoorDescA
import Derived.Test.YtfbhjfpkhofifaaGreatDoorFOwnA
namespace Go.Proofs.YtfbhjfpkhofifaaGreatDoor
open Go.RowKit

set_option maxRecDepth 100000 in
set_option maxHeartbeats 1000000 in
theorem words_any (nm ds : ByteArray) (fl lo st : Int) (vc : Value) (hd : ds.size ≤ maxLen) (w : World) : Calls Tryz.prog 12 #[.agg #[.string nm, .string ds, .int .i64 fl, .int .i64 lo, .int .i64 st, vc]] w fun e w' => e = .returned (.tuple #[.int .i64 (wdsN ds.data.toList fl), .int .i64 (wdsE ds.data.toList)]) ∧ Below w.heap.size w w' := by
  have HD : Hid (∀ w, _) := parseDesc_any ds hd
  have HN : Hid (wdsN ds.data.toList fl = if pdE ds.data.toList = 0 then ((pdD ds.data.toList).1.length : Int) + (if hasI fl 8 then 0 else 1) else 0) := rfl
  have HE : Hid (wdsE ds.data.toList = if pdE ds.data.toList = 0 then 0 else 1) := rfl
  have hlen := pdD_len ds.data.toList
  have hh8 : (bits .and .i64 fl 8 != 0) = hasI fl 8 := rfl
  clear hd
  unfold DOut at HD
  generalize wdsN ds.data.toList fl = wn at *
  generalize wdsE ds.data.toList = we at *
  generalize pdE ds.data.toList = pd at *
  generalize hpa : (pdD ds.data.toList).1 = pa at *
  generalize hasI fl 8 = hh at *
  clear hpa
  by_cases hpd : pd = 0
  · subst hpd
    cases hh with
    | false =>
      go_enter Tryz.func12, Tryz.ntmps12
      go_wp2_with (first
        | (go_at_call 32; refine ((HD.out) _).mono ?_; rintro e w1 ⟨v, rfl, ho, hb1⟩; obtain ⟨v1, v2, rfl⟩ := own_slice ho; have hs1 : w.heap.size < w1.heap.size := (by have := hb1.size; simp at this; omega); have hc2 : w1.cell? ⟨w.heap.size, 2, none⟩ = some (.int .i64 fl) := (hb1.cell (p := ⟨w.heap.size, 2, none⟩) (by simp)).trans (by simp [go_sem, *])))
      go_ret2
      exact ⟨by rw [HN.out, HE.out]; rfl, (Below.step ((Below.refl _ _).alloc (Nat.le_refl _) _) hb1).alloc (by have := hb1.size; simp at this; omega) _⟩
    | true =>
      go_enter Tryz.func12, Tryz.ntmps12
      go_wp2_with (first
        | (go_at_call 32; refine ((HD.out) _).mono ?_; rintro e w1 ⟨v, rfl, ho, hb1⟩; obtain ⟨v1, v2, rfl⟩ := own_slice ho; have hs1 : w.heap.size < w1.heap.size := (by have := hb1.size; simp at this; omega); have hc2 : w1.cell? ⟨w.heap.size, 2, none⟩ = some (.int .i64 fl) := (hb1.cell (p := ⟨w.heap.size, 2, none⟩) (by simp)).trans (by simp [go_sem, *])))
      go_ret2
      exact ⟨by rw [HN.out, HE.out]; simp, (Below.step ((Below.refl _ _).alloc (Nat.le_refl _) _) hb1).alloc (by have := hb1.size; simp at this; omega) _⟩
  · have hne : (pd != 0) = true := by rw [bne_iff_ne]; exact hpd
    go_enter Tryz.func12, Tryz.ntmps12
    go_wp2_with (first
      | (go_at_call 32; refine ((HD.out) _).mono ?_; rintro e w1 ⟨v, rfl, ho, hb1⟩; obtain ⟨v1, v2, rfl⟩ := own_slice ho))
    go_ret2
    exact ⟨by rw [HN.out, HE.out, if_neg hpd, if_neg hpd]; rfl, (Below.step ((Below.refl _ _).alloc (Nat.le_refl _) _) hb1).alloc (by have := hb1.size; simp at this; omega) _⟩

/-- is a method's body sound, where it has one? -/
def bodyB (ds : List UInt8) (fl lo st : Int) (code : List Ins) : Bool :=
  (wdsE ds == 0) && (decide (wdsN ds fl ≤ lo) && decide (lo ≤ 40)) && (decide (0 ≤ st) && decide (st ≤ 40)) && (allE code lo == 0)

set_option maxRecDepth 100000 in
set_option maxHeartbeats 1000000 in
theorem body_any (nm ds : ByteArray) (fl lo st : Int) (vc : Value) (code : List Ins) (hd : ds.size ≤ maxLen) (w : World) (hI : IsInss w vc code) (hok : ∀ i ∈ code, InsOK i) :
    Calls Tryz.prog 105 #[.agg #[.string nm, .string ds, .int .i64 fl, .int .i64 lo, .int .i64 st, vc]] w fun e w' => e = .returned (.bool (bodyB ds.data.toList fl lo st code)) ∧ Below w.heap.size w w' := by
  have HI : Hid (IsInss w vc code) := hI
  have HW : Hid (∀ w, _) := words_any nm ds fl lo st vc hd
  have HCA : Hid (∀ w', IsInss w' vc code → _) := fun w' h => checkAll_any vc code lo w' h hok
  have HR : Hid (bodyB ds.data.toList fl lo st code = ((wdsE ds.data.toList == 0) && (decide (wdsN ds.data.toList fl ≤ lo) && decide (lo ≤ 40)) && (decide (0 ≤ st) && decide (st ≤ 40)) && (allE code lo == 0))) := rfl
  have HWI : Hid (∀ (n a b : Int) (w : World), _) := within_any
  obtain ⟨ao, cap, rfl, h1, h2, _⟩ := hI
  unfold maxLen at h2
  clear hd hok
  obtain ⟨K, hK⟩ : ∃ K, code.length = K := ⟨_, rfl⟩
  rw [hK] at h1 HI HW HCA ⊢
  clear hK
  generalize bodyB ds.data.toList fl lo st code = z at *
  obtain ⟨q1, hq1⟩ : ∃ q, (decide (wdsN ds.data.toList fl ≤ lo) && decide (lo ≤ 40)) = q := ⟨_, rfl⟩
  obtain ⟨q2, hq2⟩ : ∃ q, (decide (0 ≤ st) && decide (st ≤ 40)) = q := ⟨_, rfl⟩
  rw [hq1, hq2] at HR
  have E1 : Hid _ := hq1
  have E2 : Hid _ := hq2
  clear hq1 hq2
  generalize wdsN ds.data.toList fl = wn at *
  generalize wdsE ds.data.toList = we at *
  generalize allE code lo = al at *
  generalize hwe : (we == 0) = q0 at *
  generalize hal : (al == 0) = q3 at *
  cases q0
  all_goals (try cases q1)
  all_goals (try cases q2)
  all_goals (try cases q3)
  all_goals
    go_enter Tryz.func105, Tryz.ntmps105
    go_wp2_with (first
      | (go_at_call 12; refine ((HW.out) _).mono ?_; rintro e w1 ⟨rfl, hb1⟩; have hs1 : w.heap.size < w1.heap.size := (by have := hb1.size; simp at this; omega); have a0 : w1.cell? ⟨w.heap.size, 0, none⟩ = some (.string nm) := (hb1.cell (p := ⟨w.heap.size, 0, none⟩) (by simp)).trans (by simp [go_sem, *]); have a1 : w1.cell? ⟨w.heap.size, 1, none⟩ = some (.string ds) := (hb1.cell (p := ⟨w.heap.size, 1, none⟩) (by simp)).trans (by simp [go_sem, *]); have a2 : w1.cell? ⟨w.heap.size, 2, none⟩ = some (.int .i64 fl) := (hb1.cell (p := ⟨w.heap.size, 2, none⟩) (by simp)).trans (by simp [go_sem, *]); have a3 : w1.cell? ⟨w.heap.size, 3, none⟩ = some (.int .i64 lo) := (hb1.cell (p := ⟨w.heap.size, 3, none⟩) (by simp)).trans (by simp [go_sem, *]); have a4 : w1.cell? ⟨w.heap.size, 4, none⟩ = some (.int .i64 st) := (hb1.cell (p := ⟨w.heap.size, 4, none⟩) (by simp)).trans (by simp [go_sem, *]); have a5 : w1.cell? ⟨w.heap.size, 5, none⟩ = some (.slice ao K cap) := (hb1.cell (p := ⟨w.heap.size, 5, none⟩) (by simp)).trans (by simp [go_sem, *]); have B1 : Hid (Below w.heap.size w w1) := Below.step ((Below.refl _ _).alloc (Nat.le_refl _) _) hb1; clear hb1)
      | (go_at_call 24; refine ((HWI.out) _ _ _ _).mono ?_; rintro e w2 ⟨rfl, hw2⟩; rw [hw2]; first | rw [E1.out] | rw [E2.out]; clear hw2)
      | (go_at_call 140; refine ((HCA.out) _ (HI.out.keep B1.out)).mono ?_; rintro e w3 ⟨rfl, hb3⟩; have B3 : Hid (Below w.heap.size w w3) := Below.step B1.out hb3; clear hb3))
    go_ret
    first
      | exact ⟨ret_bool (by rw [HR.out]; simp [*]), B3.out⟩
      | exact ⟨ret_bool (by rw [HR.out]; simp [*]), B1.out⟩
end Go.Proofs.YtfbhjfpkhofifaaGreatDoor
