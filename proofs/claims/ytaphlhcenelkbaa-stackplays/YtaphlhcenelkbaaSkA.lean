/- Tools: what a call turns; rows of values in memory. -/
import Derived.Test.YtaphlhcenelkbaaChecked
import Derived.WalkKit
import Derived.OwnWalk
import Derived.Deep.OwnRows
import Derived.IntWalk
import Derived.Lib.SmallJoins
import Derived.Laws.MakeOwn
import Derived.Deep.AppendLies
import Derived.Deep.RegionLaw
import Derived.Deep.RegionWith
import Derived.Deep.DeepCutAuto
import Derived.Deep.QuietTactic
import Derived.BigQuiet
import Derived.Lib.SliceRun
import Derived.Shelf.RegionOpen
import Derived.Maps.AppendAt
namespace Go.Proofs.Ytaphlhcenelkbaa
open Go.RowKit Go.Maps

theorem Below.step {w w1 w2 : World} (h1 : Below w.heap.size w w1) (h2 : Below w1.heap.size w1 w2) : Below w.heap.size w w2 := h1.trans (h2.mono h1.size)
theorem ret_bool {a b : Bool} (h : a = b) : Ending.returned (.bool a) = .returned (.bool b) := by rw [h]
theorem ret_int {k : IntKind} {a b : Int} (h : a = b) : Ending.returned (.int k a) = .returned (.int k b) := by rw [h]
theorem halloc1 (w : World) (o : Obj) : (w.alloc o).heap[w.heap.size]? = some o := by unfold World.alloc; simp
theorem halloc2 (w : World) {n : Nat} (o : Obj) (hn : w.heap.size = n) : (w.alloc o).heap[n]? = some o := by subst hn; exact halloc1 w o
theorem ownv {w : World} {base : Nat} {e : TypeId} {k : Nat} {v : Value} {n : Nat} {xs : List Value} (h : w.ownsRow base e k v n xs) : ∃ a c, v = .slice a n c := by
  rcases h.2 with ⟨rfl, h2⟩ | ⟨g, cap, cur, rfl, _⟩
  · have : n = 0 := by first | exact h2 | exact h2.1 | (simp at h2; omega)
    subst this; exact ⟨none, 0, rfl⟩
  · exact ⟨_, cap, rfl⟩

theorem hkeep {w : World} {n : Nat} {x o : Obj} (h : w.heap[n]? = some x) : (w.alloc o).heap[n]? = some x := by
  have hb : Below w.heap.size w (w.alloc o) := (Below.refl _ w).alloc (Nat.le_refl _) _
  exact (hb.block n (Array.getElem?_eq_some_iff.1 h).1).trans h
theorem wp_region_class {P : Program} {C : World → Prop} {id : Nat} {Q : Exit → Act → World → Prop} {a : Act} {w : World} {l : List Oper} (hm : P.follows .mixedOrders = true) (hB : Region.lexB .any l.toArray = true) (hC : C { w with drawn := w.drawn + 1 })
    (h : wpQuiet P l.toArray C (fun a' => ∀ w', C w' → Q .normal a' w') l a) : (Code.region id l.toArray true).wp P Q a w :=
  wp_region_quiet (C := C) hm hB hC (by simpa using h)

theorem class_of' (C : World → Prop) (h : ∃ w, C w) : ∃ (σ : Type) (V : σ → World), Nonempty σ ∧ Hid (∀ s, C (V s)) ∧ Hid (∀ w, C w → ∃ s, w = V s) :=
  ⟨{w // C w}, Subtype.val, h.elim fun w hw => ⟨⟨w, hw⟩⟩, fun s => s.2, fun w hw => ⟨⟨w, hw⟩, rfl⟩⟩

theorem step_call1 {P : Program} {ops : Array Oper} {o : Oper} {a : Act} {w : World} {K : Act → World → Prop} {Q : Exit → Act → World → Prop} {E : Prop} (hg : o.guard = none) (f : Nat) (hf : ∀ (vs : Array Value) (w : World), (callFunc f vs).run P w = .ok (.enter f vs) w) (x : Operand) (t : TypeId)
    (hop : o.op = Op.call { callee := Callee.value (Operand.func f), args := #[x], argTypes := #[t] }) {R : Ending → World → Prop} (v : Value) (hv : a.eval x = v) (h : Calls P f #[v] w R) (hR : ∀ e w', R e w' → ∃ u, e = .returned u ∧ K (a.put o.dst u) w') :
    if Region.wanted o (yielded ops a.tmps) = true then Oper.wp P o a w K Q else E := by
  have hw : Region.wanted o (yielded ops a.tmps) = true := by simp [Region.wanted, hg]
  rw [if_pos hw]
  unfold Oper.wp
  have e : (execOp a.eval o).run P w = .ok (.enter f #[v]) w := by
    simp [execOp, hop, resolve, invoke, hv]
    simp [go_sem, hf]
  rw [e, Oper.upon_enter]
  exact h.mono (fun e w' hr => by obtain ⟨u, rfl, hk⟩ := hR e w' hr; exact hk)
theorem step_call3 {P : Program} {ops : Array Oper} {o : Oper} {a : Act} {w : World} {K : Act → World → Prop} {Q : Exit → Act → World → Prop} {E : Prop} (hg : o.guard = none) (f : Nat) (hf : ∀ (vs : Array Value) (w : World), (callFunc f vs).run P w = .ok (.enter f vs) w) (x y z : Operand) (t1 t2 t3 : TypeId)
    (hop : o.op = Op.call { callee := Callee.value (Operand.func f), args := #[x, y, z], argTypes := #[t1, t2, t3] }) {R : Ending → World → Prop} (v1 v2 v3 : Value) (hv1 : a.eval x = v1) (hv2 : a.eval y = v2) (hv3 : a.eval z = v3) (h : Calls P f #[v1, v2, v3] w R) (hR : ∀ e w', R e w' → ∃ u, e = .returned u ∧ K (a.put o.dst u) w') :
    if Region.wanted o (yielded ops a.tmps) = true then Oper.wp P o a w K Q else E := by
  have hw : Region.wanted o (yielded ops a.tmps) = true := by simp [Region.wanted, hg]
  rw [if_pos hw]
  unfold Oper.wp
  have e : (execOp a.eval o).run P w = .ok (.enter f #[v1, v2, v3]) w := by
    simp [execOp, hop, resolve, invoke, hv1, hv2, hv3]
    simp [go_sem, hf]
  rw [e, Oper.upon_enter]
  exact h.mono (fun e w' hr => by obtain ⟨u, rfl, hk⟩ := hR e w' hr; exact hk)
theorem step_call2 {P : Program} {ops : Array Oper} {o : Oper} {a : Act} {w : World} {K : Act → World → Prop} {Q : Exit → Act → World → Prop} {E : Prop} (hg : o.guard = none) (f : Nat) (hf : ∀ (vs : Array Value) (w : World), (callFunc f vs).run P w = .ok (.enter f vs) w) (x y : Operand) (t1 t2 : TypeId)
    (hop : o.op = Op.call { callee := Callee.value (Operand.func f), args := #[x, y], argTypes := #[t1, t2] }) {R : Ending → World → Prop} (v1 v2 : Value) (hv1 : a.eval x = v1) (hv2 : a.eval y = v2) (h : Calls P f #[v1, v2] w R) (hR : ∀ e w', R e w' → ∃ u, e = .returned u ∧ K (a.put o.dst u) w') :
    if Region.wanted o (yielded ops a.tmps) = true then Oper.wp P o a w K Q else E := by
  have hw : Region.wanted o (yielded ops a.tmps) = true := by simp [Region.wanted, hg]
  rw [if_pos hw]
  unfold Oper.wp
  have e : (execOp a.eval o).run P w = .ok (.enter f #[v1, v2]) w := by
    simp [execOp, hop, resolve, invoke, hv1, hv2]
    simp [go_sem, hf]
  rw [e, Oper.upon_enter]
  exact h.mono (fun e w' hr => by obtain ⟨u, rfl, hk⟩ := hR e w' hr; exact hk)

/-- of the blocks that W has, w turns none but those of S -/
structure Tch (S : Nat → Prop) (W w : World) : Prop where
  os : w.os = W.os
  tape : w.tape = W.tape
  output : w.output = W.output
  size : W.heap.size ≤ w.heap.size
  blk : ∀ k, k < W.heap.size → ¬ S k → w.heap[k]? = W.heap[k]?
theorem Tch.refl (S : Nat → Prop) (W : World) : Tch S W W := ⟨rfl, rfl, rfl, Nat.le_refl _, fun _ _ _ => rfl⟩
theorem Tch.bel {S : Nat → Prop} {W w w' : World} (h : Tch S W w) (hb : Below w.heap.size w w') : Tch S W w' :=
  ⟨hb.os.trans h.os, hb.tape.trans h.tape, hb.output.trans h.output, Nat.le_trans h.size hb.size, fun k hk hs => (hb.block k (Nat.lt_of_lt_of_le hk h.size)).trans (h.blk k hk hs)⟩
theorem Tch.alloc {S : Nat → Prop} {W w : World} (h : Tch S W w) (o : Obj) : Tch S W (w.alloc o) := h.bel ((Below.refl _ w).alloc (Nat.le_refl _) o)
theorem Tch.drew {S : Nat → Prop} {W w : World} (h : Tch S W w) : Tch S W w.drew := ⟨h.os, h.tape, h.output, h.size, h.blk⟩
theorem Tch.set {S : Nat → Prop} {W w : World} (h : Tch S W w) {p : Addr} (hp : S p.block ∨ W.heap.size ≤ p.block) (u : Value) : Tch S W (w.setCell p u) :=
  ⟨h.os, h.tape, h.output, by simpa [World.setCell] using h.size, fun k hk hs => (Below.heap_setCell w p u k (by rintro rfl; rcases hp with hp | hp; exact hs hp; omega)).trans (h.blk k hk hs)⟩
theorem Tch.grown {S : Nat → Prop} {W w w' : World} {r : Option Nat} (h : Tch S W w) (hg : w.grownBy w' r) (hr : ∀ k, r = some k → S k ∨ W.heap.size ≤ k) : Tch S W w' :=
  ⟨hg.os.trans h.os, hg.tape.trans h.tape, hg.output.trans h.output, Nat.le_trans h.size hg.size, fun k hk hs => (hg.block k (Nat.lt_of_lt_of_le hk h.size) (fun e => by rcases hr k e.symm with x | x; exact hs x; omega)).trans (h.blk k hk hs)⟩
theorem Tch.mono {S S' : Nat → Prop} {W w : World} (h : Tch S W w) (hs : ∀ k, k < W.heap.size → S k → S' k) : Tch S' W w := ⟨h.os, h.tape, h.output, h.size, fun k hk hn => h.blk k hk (fun x => hn (hs k hk x))⟩
theorem Tch.trans {S S' : Nat → Prop} {a b c : World} (h : Tch S a b) (k : Tch S' b c) (hs : ∀ k, k < a.heap.size → S' k → S k) : Tch S a c :=
  ⟨k.os.trans h.os, k.tape.trans h.tape, k.output.trans h.output, Nat.le_trans h.size k.size, fun i hi hn => (k.blk i (Nat.lt_of_lt_of_le hi h.size) (fun x => hn (hs i hi x))).trans (h.blk i hi hn)⟩
theorem Tch.below {S : Nat → Prop} {W w : World} (h : Tch S W w) {N : Nat} (hN : N ≤ W.heap.size) (hs : ∀ k, S k → N ≤ k) : Below N W w :=
  ⟨h.os, h.tape, h.output, h.size, fun k hk => h.blk k (Nat.lt_of_lt_of_le hk hN) (fun x => by have := hs k x; omega)⟩
/-- a set of blocks, and those that are new behind a call -/
def gS (S : Nat → Prop) (a b : Nat) : Nat → Prop := fun k => S k ∨ (a ≤ k ∧ k < b)
theorem own_keep {w w' : World} {N e s : Nat} {v : Value} {n : Nat} {xs : List Value} (h : w.ownsRow N e s v n xs) (hk : ∀ g, v.ownBlock = some g → w'.heap[g]? = w.heap[g]?) : w'.ownsRow N e s v n xs := by
  refine ⟨h.1, ?_⟩
  rcases h.2 with ⟨e, e2⟩ | ⟨g, cap, cur, rfl, h1, h2, h3⟩
  · exact .inl ⟨e, e2⟩
  · exact .inr ⟨g, cap, cur, rfl, h1, (hk g rfl).trans h2, h3⟩

theorem hkA {w : World} {n : Nat} {x o : Obj} (h : w.heap[n]? = some x) : (w.alloc o).heap[n]? = some x := by
  rw [Below.heap_alloc _ _ _ (Array.getElem?_eq_some_iff.1 h).1]; exact h
theorem haA (w : World) {n : Nat} (o : Obj) (hn : w.heap.size = n) : (w.alloc o).heap[n]? = some o := by subst hn; exact halloc1 w o
theorem r1c {w : World} {n : Nat} {t : TypeId} {a0 : Value} (h : w.heap[n]? = some (.cells #[a0] t (0, 0))) : w.cell? ⟨n, 0, none⟩ = some a0 ∧ (∀ k, w.frozen? ⟨n, k, none⟩ = false) ∧ n < w.heap.size :=
  ⟨(cell_of_row w n 0 _ _ _ h).trans rfl, fun k => frozen_of_row w n k _ _ h, (Array.getElem?_eq_some_iff.1 h).1⟩
theorem k1c {V w : World} {N n : Nat} {t : TypeId} {a0 : Value} (hb : Below N V w) (hn : n < N := by first | omega | (simp; try omega)) (h : V.heap[n]? = some (.cells #[a0] t (0, 0)) := by first | exact Hid.out (by assumption) | exact hkA (Hid.out (by assumption)) | exact hkA (hkA (Hid.out (by assumption))) | exact haA _ _ rfl | exact hkA (haA _ _ rfl) | exact hkA (hkA (haA _ _ rfl)) | exact haA _ _ (by simp; done) | exact hkA (haA _ _ (by simp; done))) : Hid (w.heap[n]? = some (.cells #[a0] t (0, 0))) ∧ w.cell? ⟨n, 0, none⟩ = some a0 ∧ (∀ k, w.frozen? ⟨n, k, none⟩ = false) ∧ n < w.heap.size ∧ ¬ n = w.heap.size := by
  have h2 := (hb.block n hn).trans h
  obtain ⟨c0, f, l⟩ := r1c h2
  exact ⟨h2, c0, f, l, by omega⟩
theorem r2c {w : World} {n : Nat} {t : TypeId} {a0 a1 : Value} (h : w.heap[n]? = some (.cells #[a0, a1] t (0, 0))) : w.cell? ⟨n, 0, none⟩ = some a0 ∧ w.cell? ⟨n, 1, none⟩ = some a1 ∧ (∀ k, w.frozen? ⟨n, k, none⟩ = false) ∧ n < w.heap.size :=
  ⟨(cell_of_row w n 0 _ _ _ h).trans rfl, (cell_of_row w n 1 _ _ _ h).trans rfl, fun k => frozen_of_row w n k _ _ h, (Array.getElem?_eq_some_iff.1 h).1⟩
theorem k2c {V w : World} {N n : Nat} {t : TypeId} {a0 a1 : Value} (hb : Below N V w) (hn : n < N := by first | omega | (simp; try omega)) (h : V.heap[n]? = some (.cells #[a0, a1] t (0, 0)) := by first | exact Hid.out (by assumption) | exact hkA (Hid.out (by assumption)) | exact hkA (hkA (Hid.out (by assumption))) | exact haA _ _ rfl | exact hkA (haA _ _ rfl) | exact hkA (hkA (haA _ _ rfl)) | exact haA _ _ (by simp; done) | exact hkA (haA _ _ (by simp; done))) : Hid (w.heap[n]? = some (.cells #[a0, a1] t (0, 0))) ∧ w.cell? ⟨n, 0, none⟩ = some a0 ∧ w.cell? ⟨n, 1, none⟩ = some a1 ∧ (∀ k, w.frozen? ⟨n, k, none⟩ = false) ∧ n < w.heap.size ∧ ¬ n = w.heap.size := by
  have h2 := (hb.block n hn).trans h
  obtain ⟨c0, c1, f, l⟩ := r2c h2
  exact ⟨h2, c0, c1, f, l, by omega⟩
theorem r3c {w : World} {n : Nat} {t : TypeId} {a0 a1 a2 : Value} (h : w.heap[n]? = some (.cells #[a0, a1, a2] t (0, 0))) : w.cell? ⟨n, 0, none⟩ = some a0 ∧ w.cell? ⟨n, 1, none⟩ = some a1 ∧ w.cell? ⟨n, 2, none⟩ = some a2 ∧ (∀ k, w.frozen? ⟨n, k, none⟩ = false) ∧ n < w.heap.size :=
  ⟨(cell_of_row w n 0 _ _ _ h).trans rfl, (cell_of_row w n 1 _ _ _ h).trans rfl, (cell_of_row w n 2 _ _ _ h).trans rfl, fun k => frozen_of_row w n k _ _ h, (Array.getElem?_eq_some_iff.1 h).1⟩
theorem k3c {V w : World} {N n : Nat} {t : TypeId} {a0 a1 a2 : Value} (hb : Below N V w) (hn : n < N := by first | omega | (simp; try omega)) (h : V.heap[n]? = some (.cells #[a0, a1, a2] t (0, 0)) := by first | exact Hid.out (by assumption) | exact hkA (Hid.out (by assumption)) | exact hkA (hkA (Hid.out (by assumption))) | exact haA _ _ rfl | exact hkA (haA _ _ rfl) | exact hkA (hkA (haA _ _ rfl)) | exact haA _ _ (by simp; done) | exact hkA (haA _ _ (by simp; done))) : Hid (w.heap[n]? = some (.cells #[a0, a1, a2] t (0, 0))) ∧ w.cell? ⟨n, 0, none⟩ = some a0 ∧ w.cell? ⟨n, 1, none⟩ = some a1 ∧ w.cell? ⟨n, 2, none⟩ = some a2 ∧ (∀ k, w.frozen? ⟨n, k, none⟩ = false) ∧ n < w.heap.size ∧ ¬ n = w.heap.size := by
  have h2 := (hb.block n hn).trans h
  obtain ⟨c0, c1, c2, f, l⟩ := r3c h2
  exact ⟨h2, c0, c1, c2, f, l, by omega⟩

def flatV : List (Bool × Int) → List Value
  | [] => []
  | v :: r => .bool v.1 :: .int .i64 v.2 :: flatV r
theorem flatV_len : ∀ vs : List (Bool × Int), (flatV vs).length = vs.length * 2
  | [] => rfl
  | v :: r => by have := flatV_len r; simp [flatV, this]; omega
theorem flatV_at : ∀ (vs : List (Bool × Int)) (k : Nat) (v : Bool × Int), vs[k]? = some v → (flatV vs)[k * 2]? = some (.bool v.1) ∧ (flatV vs)[k * 2 + 1]? = some (.int .i64 v.2)
  | [], k, v, h => by simp at h
  | p :: r, 0, v, h => by simp at h; subst h; exact ⟨rfl, rfl⟩
  | p :: r, k + 1, v, h => by
    have := flatV_at r k v (by simpa using h)
    rw [show (k + 1) * 2 = k * 2 + 2 by omega]
    exact ⟨by simpa [flatV] using this.1, by simpa [flatV] using this.2⟩
theorem flatV_set : ∀ (vs : List (Bool × Int)) (k : Nat) (v : Bool × Int), flatV (vs.set k v) = ((flatV vs).set (k * 2) (.bool v.1)).set (k * 2 + 1) (.int .i64 v.2)
  | [], k, v => by simp [flatV]
  | p :: r, 0, v => by simp [flatV]
  | p :: r, k + 1, v => by
    rw [List.set_cons_succ, flatV, flatV, flatV_set r k v, show (k + 1) * 2 = k * 2 + 1 + 1 by omega]
    simp
theorem own_type {w : World} {N e s n g : Nat} {v : Value} {xs : List Value} {C : Array Value} {t : Nat} (h : w.ownsRow N e s v n xs) (hg : w.heap[g]? = some (.cells C t (0, 0))) (ht : t ≠ e) : v.ownBlock ≠ some g := by
  intro hv
  rcases h.2 with ⟨rfl, _⟩ | ⟨x, cap, cur, rfl, _, h2, _⟩
  · simp [Value.ownBlock] at hv
  · simp [Value.ownBlock] at hv
    subst hv
    rw [hg] at h2
    simp at h2
    exact ht h2.2
theorem own_cut {w : World} {N e s n m : Nat} {a : Option Addr} {cap : Nat} {xs ys : List Value} (h : w.ownsRow N e s (.slice a m cap) m (xs ++ ys)) (hx : xs.length = n * s) (hn : n ≤ m) : w.ownsRow N e s (.slice a n cap) n xs := by
  refine ⟨hx, ?_⟩
  rcases h.2 with ⟨e1, e2⟩ | ⟨g, c, cur, e1, h1, h2, h3, h4, h5, h6⟩
  · cases e1
    have : n = 0 := by omega
    subst this
    exact .inl ⟨rfl, rfl⟩
  · cases e1
    refine .inr ⟨g, cap, cur, rfl, h1, h2, by omega, h4, h5, ?_⟩
    have : (cur.toList.take (m * s)).take (n * s) = xs := by rw [h6, ← hx]; simp
    rwa [List.take_take, Nat.min_eq_left (Nat.mul_le_mul_right s hn)] at this
theorem sl_own (a : Option Addr) (m n c : Nat) : (Value.slice a m c).ownBlock = (Value.slice a n c).ownBlock := by cases a <;> rfl

theorem Try.hinfoVl : (Try.prog.info? 32).map (fun i => (i.zero, i.size, i.bytes)) = some (some (.agg #[.bool false, .int .i64 0]), 2, 16) := by kernel_rfl
theorem flatV_rep (n : Nat) (k : Nat) (hk : k < n * 2) : (flatV (List.replicate n (false, (0 : Int))))[k]? = some (if k % 2 = 0 then .bool false else .int .i64 0) := by
  have hq : k / 2 < n := by omega
  have := flatV_at (List.replicate n (false, (0 : Int))) (k / 2) (false, 0) (by simp [hq])
  by_cases h : k % 2 = 0
  · rw [if_pos h]; have e : k = k / 2 * 2 := by omega
    rw [e]; simpa using this.1
  · rw [if_neg h]; have e : k = k / 2 * 2 + 1 := by omega
    rw [e]; simpa using this.2
theorem mk_vals (n : Nat) (hn : n ≤ 1000000) (w : World) : (Instr.makeSlice 38 (.int .i64 (n : Int)) (.int .i64 (n : Int))).run Try.prog w = .ok (.slice (some ⟨w.heap.size, 0, none⟩) n n) (w.alloc (.cells (flatV (List.replicate n (false, 0))).toArray 32)) := by
  obtain ⟨i0, hi, hz0, hz1, hz2⟩ := info_parts Try.hinfoVl
  have := run_make w (P := Try.prog) 38 32 i0 _ Try.underlying38 hi hz0 .i64 .i64 (n : Int) (n : Int) (by omega) (Int.le_refl _) (by rw [hz2]; omega) (by omega)
  rw [hz1, Int.toNat_natCast] at this
  rw [this]
  have e : madeCells (Value.agg #[.bool false, .int .i64 0]).cells (n * 2) = (flatV (List.replicate n (false, 0))).toArray := by
    apply Array.ext_getElem?
    intro k
    by_cases hk : k < n * 2
    · have e1 : (flatV (List.replicate n (false, (0 : Int)))).toArray[k]? = some (if k % 2 = 0 then .bool false else .int .i64 0) := by rw [List.getElem?_toArray]; exact flatV_rep n k hk
      rw [e1, Array.getElem?_eq_getElem (by rw [size_madeCells]; exact hk)]
      simp only [madeCells, Value.cells]
      have h2 : k % 2 = 0 ∨ k % 2 = 1 := by omega
      rcases h2 with h2 | h2 <;> simp [h2]
    · have e1 : (flatV (List.replicate n (false, (0 : Int)))).toArray[k]? = none := by rw [List.getElem?_toArray]; exact List.getElem?_eq_none (by rw [flatV_len]; simp; omega)
      rw [e1, Array.getElem?_eq_none (by rw [size_madeCells]; omega)]
  rw [e]

end Go.Proofs.Ytaphlhcenelkbaa
