/- Walks of the document's answers of layer 4 (arbiterref04): references: noRef, SameRef, Same, RefCheck, RefText; what was there before stays. -/
import Derived.Test.YtijlipllahfakaaGreatDoorCodeB
namespace Go.Proofs.YtijlipllahfakaaGreatDoor
open Go.RowKit

def noRefB (b : Bool) (c n d : ByteArray) : Bool := !b && c.toList.isEmpty && n.toList.isEmpty && d.toList.isEmpty

set_option maxRecDepth 100000 in
set_option maxHeartbeats 1000000 in
theorem rNoRef_any (b : Bool) (c n d : ByteArray) (w : World) : Calls Tryz.prog 32 #[.agg #[.bool b, .string c, .string n, .string d]] w fun e w' => e = .returned (.bool (noRefB b c n d)) ∧ Below w.heap.size w w' := by
  have HN : Hid (noRefB b c n d = (!b && c.toList.isEmpty && n.toList.isEmpty && d.toList.isEmpty)) := rfl
  generalize noRefB b c n d = z at *
  go_enter Tryz.func32, Tryz.ntmps32
  go_wp2
  all_goals
    go_ret
    exact ⟨ret_bool (by rw [HN.out]; simp [*]), (Below.refl _ _).alloc (Nat.le_refl _) _⟩

def sameRefB (b1 : Bool) (c1 n1 d1 : ByteArray) (b2 : Bool) (c2 n2 d2 : ByteArray) : Bool := (b1 == b2) && (c1.toList == c2.toList) && (n1.toList == n2.toList) && (d1.toList == d2.toList)

set_option maxRecDepth 100000 in
set_option maxHeartbeats 1000000 in
theorem rSameRef_any (b1 : Bool) (c1 n1 d1 : ByteArray) (b2 : Bool) (c2 n2 d2 : ByteArray) (w : World) : Calls Tryz.prog 10 #[.agg #[.bool b1, .string c1, .string n1, .string d1], .agg #[.bool b2, .string c2, .string n2, .string d2]] w fun e w' => e = .returned (.bool (sameRefB b1 c1 n1 d1 b2 c2 n2 d2)) ∧ Below w.heap.size w w' := by
  have HN : Hid (sameRefB b1 c1 n1 d1 b2 c2 n2 d2 = ((b1 == b2) && (c1.toList == c2.toList) && (n1.toList == n2.toList) && (d1.toList == d2.toList))) := rfl
  generalize sameRefB b1 c1 n1 d1 b2 c2 n2 d2 = z at *
  generalize hc : (c1.toList == c2.toList) = qc at *
  generalize hn : (n1.toList == n2.toList) = qn at *
  generalize hd : (d1.toList == d2.toList) = qd at *
  generalize hb : (b1 == b2) = qb at *
  go_enter Tryz.func10, Tryz.ntmps10
  go_wp2
  all_goals
    go_ret
    exact ⟨ret_bool (by rw [HN.out]; simp [*]), ((Below.refl _ _).alloc (Nat.le_refl _) _).alloc (by simp) _⟩

set_option maxRecDepth 100000 in
set_option maxHeartbeats 1000000 in
theorem rSame_any (o1 m1 : Int) (t1 : ByteArray) (b1 : Bool) (c1 n1 d1 : ByteArray) (o2 m2 : Int) (t2 : ByteArray) (b2 : Bool) (c2 n2 d2 : ByteArray) (w : World) : Calls Tryz.prog 7 #[.agg #[.int .i64 o1, .int .i64 m1, .string t1, .bool b1, .string c1, .string n1, .string d1], .agg #[.int .i64 o2, .int .i64 m2, .string t2, .bool b2, .string c2, .string n2, .string d2]] w fun e w' => e = .returned (.bool ((o1 == o2) && (m1 == m2) && (t1.toList == t2.toList) && sameRefB b1 c1 n1 d1 b2 c2 n2 d2)) ∧ Below w.heap.size w w' := by
  have HS : Hid (∀ w, _) := rSameRef_any b1 c1 n1 d1 b2 c2 n2 d2
  generalize sameRefB b1 c1 n1 d1 b2 c2 n2 d2 = z at *
  obtain ⟨r, hr⟩ : ∃ r, r = ((o1 == o2) && (m1 == m2) && (t1.toList == t2.toList) && z) := ⟨_, rfl⟩
  have HR : Hid (r = ((o1 == o2) && (m1 == m2) && (t1.toList == t2.toList) && z)) := hr
  rw [← hr]
  clear hr
  generalize ho : (o1 == o2) = qo at *
  generalize hm : (m1 == m2) = qm at *
  generalize ht : (t1.toList == t2.toList) = qt at *
  go_enter Tryz.func7, Tryz.ntmps7
  go_wp2_with (go_at_call 10; refine ((HS.out) _).mono ?_; rintro e w1 ⟨rfl, hb1⟩)
  all_goals
    go_ret
    first
      | exact ⟨ret_bool (by rw [HR.out]; simp [*]), ((Below.refl _ _).alloc (Nat.le_refl _) _).alloc (by simp) _⟩
      | exact ⟨ret_bool (by rw [HR.out]; simp [*]), Below.step (((Below.refl _ _).alloc (Nat.le_refl _) _).alloc (by simp) _) hb1⟩

/-- is a reference sound? -/
def rckB (c n d : List UInt8) : Bool := (prfE c == 0) && memberL n && (pdE d == 0)
def rckE (c n d : List UInt8) : Int := if rckB c n d then 0 else 1

set_option maxRecDepth 100000 in
set_option maxHeartbeats 1000000 in
theorem rRefCheck_any (b : Bool) (c n d : ByteArray) (hc : c.size ≤ maxLen) (hn : n.size ≤ maxLen) (hd : d.size ≤ maxLen) (w : World) : Calls Tryz.prog 23 #[.agg #[.bool b, .string c, .string n, .string d]] w fun e w' => e = .returned (.int .i64 (rckE c.data.toList n.data.toList d.data.toList)) ∧ Below w.heap.size w w' := by
  have HP : Hid (∀ w, _) := rParseRef_any c hc
  have HM : Hid (∀ w, _) := rMember_any n hn
  have HD : Hid (∀ w, _) := rParseDesc_any d hd
  have HR : Hid (rckE c.data.toList n.data.toList d.data.toList = if ((prfE c.data.toList == 0) && memberL n.data.toList && (pdE d.data.toList == 0)) then 0 else 1) := rfl
  clear hc hn hd
  unfold DOut at HD
  generalize rckE c.data.toList n.data.toList d.data.toList = z at *
  generalize prfE c.data.toList = pc at *
  generalize prfT c.data.toList = pt at *
  generalize memberL n.data.toList = mm at *
  generalize pdE d.data.toList = pd at *
  generalize pdD d.data.toList = dd at *
  by_cases hpc : pc = 0
  · subst hpc
    cases mm with
    | false =>
      go_enter Tryz.func23, Tryz.ntmps23
      go_wp2_with (first
        | (go_at_call 34; refine ((HP.out) _).mono ?_; rintro e w1 ⟨rfl, hb1⟩; have hs1 : w.heap.size < w1.heap.size := (by have := hb1.size; simp at this; omega); have hc2 : w1.cell? ⟨w.heap.size, 2, none⟩ = some (.string n) := (hb1.cell (p := ⟨w.heap.size, 2, none⟩) (by simp)).trans (by simp [go_sem, *]))
        | (go_at_call 44; refine ((HM.out) _).mono ?_; rintro e w2 ⟨rfl, hw2⟩; rw [hw2]))
      go_ret
      exact ⟨ret_int (by rw [HR.out]; rfl), (Below.step ((Below.refl _ _).alloc (Nat.le_refl _) _) hb1).alloc (Below.step ((Below.refl _ _).alloc (Nat.le_refl _) _) hb1).size _⟩
    | true =>
      by_cases hpd : pd = 0
      · subst hpd
        go_enter Tryz.func23, Tryz.ntmps23
        go_wp2_with (first
          | (go_at_call 34; refine ((HP.out) _).mono ?_; rintro e w1 ⟨rfl, hb1⟩; have hs1 : w.heap.size < w1.heap.size := (by have := hb1.size; simp at this; omega); have hc2 : w1.cell? ⟨w.heap.size, 2, none⟩ = some (.string n) := (hb1.cell (p := ⟨w.heap.size, 2, none⟩) (by simp)).trans (by simp [go_sem, *]); have hc3 : w1.cell? ⟨w.heap.size, 3, none⟩ = some (.string d) := (hb1.cell (p := ⟨w.heap.size, 3, none⟩) (by simp)).trans (by simp [go_sem, *]))
          | (go_at_call 44; refine ((HM.out) _).mono ?_; rintro e w2 ⟨rfl, hw2⟩; rw [hw2])
          | (go_at_call 45; refine ((HD.out) _).mono ?_; rintro e w3 ⟨v, rfl, ho3, hb3⟩; obtain ⟨v1, v2, rfl⟩ := own_slice ho3))
        have hB := Below.step ((Below.step ((Below.refl w.heap.size w).alloc (Nat.le_refl _) _) hb1).alloc (Below.step ((Below.refl _ _).alloc (Nat.le_refl _) _) hb1).size _) hb3
        go_ret
        exact ⟨ret_int (by rw [HR.out]; rfl), hB.alloc hB.size _⟩
      · have hne : (pd != 0) = true := by rw [bne_iff_ne]; exact hpd
        go_enter Tryz.func23, Tryz.ntmps23
        go_wp2_with (first
          | (go_at_call 34; refine ((HP.out) _).mono ?_; rintro e w1 ⟨rfl, hb1⟩; have hs1 : w.heap.size < w1.heap.size := (by have := hb1.size; simp at this; omega); have hc2 : w1.cell? ⟨w.heap.size, 2, none⟩ = some (.string n) := (hb1.cell (p := ⟨w.heap.size, 2, none⟩) (by simp)).trans (by simp [go_sem, *]); have hc3 : w1.cell? ⟨w.heap.size, 3, none⟩ = some (.string d) := (hb1.cell (p := ⟨w.heap.size, 3, none⟩) (by simp)).trans (by simp [go_sem, *]))
          | (go_at_call 44; refine ((HM.out) _).mono ?_; rintro e w2 ⟨rfl, hw2⟩; rw [hw2])
          | (go_at_call 45; refine ((HD.out) _).mono ?_; rintro e w3 ⟨v, rfl, ho3, hb3⟩; obtain ⟨v1, v2, rfl⟩ := own_slice ho3))
        have hB := Below.step ((Below.step ((Below.refl w.heap.size w).alloc (Nat.le_refl _) _) hb1).alloc (Below.step ((Below.refl _ _).alloc (Nat.le_refl _) _) hb1).size _) hb3
        go_ret
        exact ⟨ret_int (by rw [HR.out]; simp [hpd]), hB.alloc hB.size _⟩
  · have hne : (pc != 0) = true := by rw [bne_iff_ne]; exact hpc
    go_enter Tryz.func23, Tryz.ntmps23
    go_wp2_with (go_at_call 34; refine ((HP.out) _).mono ?_; rintro e w1 ⟨rfl, hb1⟩)
    go_ret
    exact ⟨ret_int (by rw [HR.out]; simp [hpc]), (Below.step ((Below.refl _ _).alloc (Nat.le_refl _) _) hb1).alloc (Below.step ((Below.refl _ _).alloc (Nat.le_refl _) _) hb1).size _⟩

end Go.Proofs.YtijlipllahfakaaGreatDoor

namespace Go.Proofs.YtijlipllahfakaaGreatDoor
open Go.RowKit

theorem prf_len {l : List UInt8} (h : prfE l = 0) : l.length ≤ 2000 := by
  by_cases h1 : 2000 < l.length
  · rw [prfE, if_pos h1] at h; exact absurd h (by decide)
  · omega
theorem pd_len {l : List UInt8} (h : pdE l = 0) : l.length ≤ 2000 := by
  by_cases h1 : 2000 < l.length
  · rw [pdE, if_pos h1] at h; exact absurd h (by decide)
  · omega
theorem member_len {l : List UInt8} (h : memberL l = true) : l.length ≤ 60 := by
  unfold memberL at h
  simp only [Bool.or_eq_true, Bool.and_eq_true, decide_eq_true_eq, beq_iff_eq] at h
  rcases h with h | h
  · rw [h]; decide
  · exact h.1

theorem rck_len {c n d : List UInt8} (h : rckB c n d = true) : c.length ≤ 2000 ∧ n.length ≤ 60 ∧ d.length ≤ 2000 := by
  unfold rckB at h
  simp only [Bool.and_eq_true, beq_iff_eq] at h
  exact ⟨prf_len h.1.1, member_len h.1.2, pd_len h.2⟩

/-- a reference's text -/
def rtxL (b : Bool) (c n d : List UInt8) : List UInt8 := if rckB c n d then c ++ (if b then 58 else 46) :: (n ++ d) else []

end Go.Proofs.YtijlipllahfakaaGreatDoor

