/- Walks of package code: Check: it returns what the plain functions say; what was there before stays. -/
import Derived.Test.YtfbhjfpkhofifaaDoorOwnQ
import Derived.Deep.QuietTactic
import Derived.BigQuiet
namespace Go.Proofs.YtfbhjfpkhofifaaDoor
open Go.RowKit

set_option maxRecDepth 100000 in
set_option maxHeartbeats 4000000 in
theorem check_any (op n : Int) (t : ByteArray) (b : Bool) (c m d : ByteArray) (ht : t.size ≤ maxLen) (hc : c.size ≤ maxLen) (hm : m.size ≤ maxLen) (hd : d.size ≤ maxLen) (w : World) : Calls Tryd.prog 27 #[.agg #[.int .i64 op, .int .i64 n, .string t, .bool b, .string c, .string m, .string d]] w fun e w' => e = .returned (.int .i64 (ickE op n t b c m d)) ∧ Below w.heap.size w w' := by
  have HR : Hid (ickE op n t b c m d = if sameI ⟨op, n, t, b, c, m, d⟩ (ownI ⟨op, n, t, b, c, m, d⟩) && fitB (opdI op) n t.data.toList (rckB c.data.toList m.data.toList d.data.toList) then 0 else 1) := ick_own ⟨op, n, t, b, c, m, d⟩
  have HQ : ∀ w, (Op.equal 58 (.agg #[.int .i64 op, .int .i64 n, .string t, .bool b, .string c, .string m, .string d]) (insV (ownI ⟨op, n, t, b, c, m, d⟩))).run Tryd.prog w = .ok (sameI ⟨op, n, t, b, c, m, d⟩ (ownI ⟨op, n, t, b, c, m, d⟩)) w := eq_ins ⟨op, n, t, b, c, m, d⟩ _
  obtain ⟨BX, hBX⟩ : ∃ BX, BX = w.alloc (.cells #[.int .i64 op, .int .i64 n, .string t, .bool b, .string c, .string m, .string d] 58) := ⟨_, rfl⟩
  have HP : Hid (∀ w', Hid (Below (w.heap.size + 1) BX w') → Calls Tryd.prog 46 #[.agg #[.int .i64 op, .int .i64 n, .string t, .bool b, .string c, .string m, .string d]] w' fun e w'' => e = .returned (insV (ownI ⟨op, n, t, b, c, m, d⟩)) ∧ Hid (Below (w.heap.size + 1) BX w'')) :=
    fun w' h => (ownParts_any op n t b c m d w').mono fun e w'' ⟨he, hb⟩ => ⟨he, h.out.trans (hb.mono (by have := h.out.size; rw [hBX] at this; simpa using this))⟩
  have HF : Hid (∀ w', Hid (Below (w.heap.size + 1) BX w') → Calls Tryd.prog 47 #[.agg #[.int .i64 op, .int .i64 n, .string t, .bool b, .string c, .string m, .string d]] w' fun e w'' => e = .returned (.bool (fitB (opdI op) n t.data.toList (rckB c.data.toList m.data.toList d.data.toList))) ∧ Hid (Below (w.heap.size + 1) BX w'')) :=
    fun w' h => (fitsOperand_any op n t b c m d ht hc hm hd w').mono fun e w'' ⟨he, hb⟩ => ⟨he, h.out.trans (hb.mono (by have := h.out.size; rw [hBX] at this; simpa using this))⟩
  obtain ⟨σ, V, V1, V2⟩ : ∃ (σ : Type) (V : σ → World), Hid (∀ s, Hid (Below (w.heap.size + 1) BX (V s))) ∧ Hid (∀ w', Hid (Below (w.heap.size + 1) BX w') → ∃ s, w' = V s) :=
    ⟨{w' // Hid (Below (w.heap.size + 1) BX w')}, Subtype.val, fun s => s.2, fun w q => ⟨⟨w, q⟩, rfl⟩⟩
  have T0 : Hid (Below (w.heap.size + 1) BX BX.drew) := (Below.refl _ _).drew
  have hne : Nonempty σ := (V2.out _ T0).elim fun s _ => ⟨s⟩
  subst hBX
  have q0 : ∀ s, (V s).cell? ⟨w.heap.size, 0, none⟩ = some (.int .i64 op) := fun s => ((V1.out s).out.cell (p := ⟨w.heap.size, 0, none⟩) (by simp)).trans (by simp [go_sem])
  have q1 : ∀ s, (V s).cell? ⟨w.heap.size, 1, none⟩ = some (.int .i64 n) := fun s => ((V1.out s).out.cell (p := ⟨w.heap.size, 1, none⟩) (by simp)).trans (by simp [go_sem])
  have q2 : ∀ s, (V s).cell? ⟨w.heap.size, 2, none⟩ = some (.string t) := fun s => ((V1.out s).out.cell (p := ⟨w.heap.size, 2, none⟩) (by simp)).trans (by simp [go_sem])
  have q3 : ∀ s, (V s).cell? ⟨w.heap.size, 3, none⟩ = some (.bool b) := fun s => ((V1.out s).out.cell (p := ⟨w.heap.size, 3, none⟩) (by simp)).trans (by simp [go_sem])
  have q4 : ∀ s, (V s).cell? ⟨w.heap.size, 4, none⟩ = some (.string c) := fun s => ((V1.out s).out.cell (p := ⟨w.heap.size, 4, none⟩) (by simp)).trans (by simp [go_sem])
  have q5 : ∀ s, (V s).cell? ⟨w.heap.size, 5, none⟩ = some (.string m) := fun s => ((V1.out s).out.cell (p := ⟨w.heap.size, 5, none⟩) (by simp)).trans (by simp [go_sem])
  have q6 : ∀ s, (V s).cell? ⟨w.heap.size, 6, none⟩ = some (.string d) := fun s => ((V1.out s).out.cell (p := ⟨w.heap.size, 6, none⟩) (by simp)).trans (by simp [go_sem])
  have HB : Hid (∀ s, Below w.heap.size w (V s)) := fun s => ((Below.refl w.heap.size w).alloc (Nat.le_refl _) _).trans ((V1.out s).out.mono (by omega))
  generalize ickE op n t b c m d = z at *
  generalize fitB (opdI op) n t.data.toList (rckB c.data.toList m.data.toList d.data.toList) = fb at *
  generalize hgo : sameI ⟨op, n, t, b, c, m, d⟩ (ownI ⟨op, n, t, b, c, m, d⟩) = sb at *
  clear hgo
  generalize hO : insV (ownI ⟨op, n, t, b, c, m, d⟩) = O at *
  obtain ⟨cs, rfl⟩ : ∃ cs, O = .agg cs := ⟨_, hO.symm⟩
  have G1 : ∀ w, (eqGuard .neq 58 (.tmp 3) (.tmp 5) (.agg #[.int .i64 op, .int .i64 n, .string t, .bool b, .string c, .string m, .string d]) (.agg cs)).run Tryd.prog w = .ok () w := fun w => by
    simp [eqGuard, go_sem]
  have G2 : ∀ w, (binOp .neq 58 (.agg #[.int .i64 op, .int .i64 n, .string t, .bool b, .string c, .string m, .string d]) (.agg cs)).run Tryd.prog w = .ok (.bool (!sb)) w := fun w => by
    simp [binOp, HQ, go_sem]
  clear hO ht hc hm hd HQ
  cases sb <;> cases fb
  all_goals go_enter Tryd.func27, Tryd.ntmps27
  all_goals go_wp2
  all_goals refine wp_region_class (C := fun w' => ∃ s, w' = V s) (by kernel_rfl) (by kernel_rfl) (V2.out _ T0) ?_
  all_goals repeat (go_big_quiet_step (first
    | (go_at_call 46; exact (HP.out _ (V1.out _)).mono fun e w'' z => ⟨z.1, V2.out _ z.2⟩)
    | (go_at_call 47; exact (HF.out _ (V1.out _)).mono fun e w'' z => ⟨z.1, V2.out _ z.2⟩)))
  all_goals refine wpQuiet_nil ?_
  all_goals intro w9 hw9
  all_goals obtain ⟨s9, rfl⟩ := hw9
  all_goals go_wp2
  all_goals
    go_ret
    exact ⟨ret_int (by rw [HR.out]; rfl), HB.out _⟩

end Go.Proofs.YtfbhjfpkhofifaaDoor
