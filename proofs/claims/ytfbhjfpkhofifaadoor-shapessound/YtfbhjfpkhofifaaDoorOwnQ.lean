/- Two instructions held against each other by ==, as the model does it; when an instruction is sound, in the words of package code. -/
import Derived.Test.YtfbhjfpkhofifaaDoorOwnY
namespace Go.Proofs.YtfbhjfpkhofifaaDoor
open Go.RowKit

theorem eq_str (d : Nat) (a b : ByteArray) (w : World) : (Op.equalIn (d + 1) 9 (.string a) (.string b)).run Tryd.prog w = .ok (a == b) w := by
  simp [Op.equalIn, run_underlying Tryd.underlying9, go_sem]
theorem eq_int (d : Nat) (a b : Int) (w : World) : (Op.equalIn (d + 1) 3 (.int .i64 a) (.int .i64 b)).run Tryd.prog w = .ok (a == b) w := by
  simp [Op.equalIn, run_underlying Tryd.underlying3, go_sem]
theorem eq_bool (d : Nat) (a b : Bool) (w : World) : (Op.equalIn (d + 1) 4 (.bool a) (.bool b)).run Tryd.prog w = .ok (a == b) w := by
  simp [Op.equalIn, run_underlying Tryd.underlying4, go_sem]
theorem str_eq (a b : ByteArray) : (a == b) = (a.toList == b.toList) := by
  obtain ⟨a⟩ := a
  obtain ⟨b⟩ := b
  have h : ((⟨a⟩ : ByteArray) == ⟨b⟩) = (a == b) := rfl
  rw [Lib.toList_data, Lib.toList_data, h, Bool.eq_iff_iff, beq_iff_eq, beq_iff_eq]
  exact ⟨fun h => by rw [h], fun h => Array.toList_inj.1 h⟩
set_option maxRecDepth 100000 in
theorem eq_ref (d : Nat) (b1 : Bool) (c1 n1 d1 : ByteArray) (b2 : Bool) (c2 n2 d2 : ByteArray) (w : World) : (Op.equalIn (d + 1 + 1) 56 (.agg #[.bool b1, .string c1, .string n1, .string d1]) (.agg #[.bool b2, .string c2, .string n2, .string d2])).run Tryd.prog w = .ok (sameRefB b1 c1 n1 d1 b2 c2 n2 d2) w := by
  rw [Op.equalIn]
  simp [run_underlying Tryd.underlying56, go_sem, part, eq_str, eq_bool]
  unfold sameRefB
  rw [← str_eq, ← str_eq, ← str_eq]
  generalize (c1 == c2) = x
  generalize (n1 == n2) = y
  generalize (d1 == d2) = z
  cases b1 <;> cases b2 <;> cases x <;> cases y <;> cases z <;> rfl
set_option maxRecDepth 100000 in
theorem eq_ins (a b : Ins) (w : World) : (Op.equal 58 (insV a) (insV b)).run Tryd.prog w = .ok (sameI a b) w := by
  have h : (Op.equalIn (9997 + 1 + 1 + 1) 58 (insV a) (insV b)).run Tryd.prog w = .ok (sameI a b) w := by
    rw [Op.equalIn]
    simp [run_underlying Tryd.underlying58, go_sem, part, eq_str, eq_int, eq_ref, insV, insC]
    unfold sameI
    rw [← str_eq]
    generalize sameRefB a.b a.c a.m a.d b.b b.c b.m b.d = x
    generalize (a.t == b.t) = y
    by_cases h1 : a.op = b.op <;> by_cases h2 : a.n = b.n <;> cases x <;> cases y <;> simp [h1, h2]
  exact h

theorem e_none (x : ByteArray) : (x.toList == (⟨#[]⟩ : ByteArray).toList) = x.toList.isEmpty := by
  have : (⟨#[]⟩ : ByteArray).toList = [] := by rw [Lib.toList_data]
  rw [this]
  cases x.toList <;> rfl
theorem r_none (b : Bool) (c m d : ByteArray) : sameRefB b c m d false ⟨#[]⟩ ⟨#[]⟩ ⟨#[]⟩ = noRefB b c m d := by
  unfold sameRefB noRefB
  rw [e_none, e_none, e_none]
  cases b <;> rfl
theorem r_self (b : Bool) (c m d : ByteArray) : sameRefB b c m d b c m d = true := by
  unfold sameRefB; simp
theorem ick_own (i : Ins) : ickI i = if sameI i (ownI i) && fitB (opdI i.op) i.n i.t.data.toList (rckB i.c.data.toList i.m.data.toList i.d.data.toList) then 0 else 1 := by
  unfold ickI ickE
  congr 2
  unfold insB fitB ownI sameI inB
  generalize rckB i.c.data.toList i.m.data.toList i.d.data.toList = r
  rcases opd_cases i.op with e | e | e | e | e | e | e | e | e | e
  all_goals simp only [e, Int.reduceEq, Int.reduceNeg, reduceIte, or_false, or_true, e_none, r_none, r_self, beq_self_eq_true, Bool.true_and, Bool.and_true, Bool.and_false]
  all_goals generalize noRefB i.b i.c i.m i.d = z
  all_goals generalize i.t.toList.isEmpty = te
  · generalize (i.n == 0) = x
    cases x <;> cases z <;> cases te <;> rfl
  · cases z <;> cases te <;> simp
  · have : decide (i.n < 40) = decide (i.n ≤ 39) := by rw [decide_eq_decide]; omega
    rw [this]; cases z <;> cases te <;> simp
  · have : decide (i.n < 200) = decide (i.n ≤ 199) := by rw [decide_eq_decide]; omega
    rw [this]; cases z <;> cases te <;> simp
  · generalize (i.n == 0) = x
    cases x <;> cases z <;> simp
  · generalize (i.n == 0) = x
    cases x <;> cases z <;> simp
  · generalize (i.n == 0) = x
    cases x <;> cases z <;> simp
  · cases z <;> simp [Bool.and_assoc]
end Go.Proofs.YtfbhjfpkhofifaaDoor
