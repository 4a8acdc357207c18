/- Lists of a cache's entries in memory (two cells each): IndexFunc, clear, append in place; small lemmas. -/
import Derived.Test.YtdjmjdlolhfejaaKaA
import Derived.Lib.SliceRun
import Derived.Shelf.RegionOpen
import Derived.Deep.RegionWith
import Derived.Deep.QuietTactic
import Derived.BigQuiet
import Derived.Maps.AppendAt
namespace Go.Proofs.Ytdjmjdlolhfejaa
open Go.RowKit Go.Maps

theorem Below.step {w w1 w2 : World} (h1 : Below w.heap.size w w1) (h2 : Below w1.heap.size w1 w2) : Below w.heap.size w w2 := h1.trans (h2.mono h1.size)
theorem ret_bool {a b : Bool} (h : a = b) : Ending.returned (.bool a) = .returned (.bool b) := by rw [h]
theorem ret_int {k : IntKind} {a b : Int} (h : a = b) : Ending.returned (.int k a) = .returned (.int k b) := by rw [h]
theorem halloc1 (w : World) (o : Obj) : (w.alloc o).heap[w.heap.size]? = some o := by unfold World.alloc; simp
theorem halloc2 (w : World) {n : Nat} (o : Obj) (hn : w.heap.size = n) : (w.alloc o).heap[n]? = some o := by subst hn; exact halloc1 w o
theorem ownv {w : World} {base : Nat} {e : TypeId} {k : Nat} {v : Value} {n : Nat} {xs : List Value} (h : w.ownsRow base e k v n xs) : ∃ a c, v = .slice a n c := by
  rcases h.2 with ⟨rfl, h2⟩ | ⟨g, cap, cur, rfl, _⟩
  · have : n = 0 := by first | exact h2 | exact h2.1 | (simp at h2; omega)
    subst this; exact ⟨none, 0, rfl⟩
  · exact ⟨_, cap, rfl⟩

theorem hkeep {w : World} {n : Nat} {x o : Obj} (h : w.heap[n]? = some x) : (w.alloc o).heap[n]? = some x := by
  have hb : Below w.heap.size w (w.alloc o) := (Below.refl _ w).alloc (Nat.le_refl _) _
  exact (hb.block n (Array.getElem?_eq_some_iff.1 h).1).trans h
theorem wp_region_class {P : Program} {C : World → Prop} {id : Nat} {Q : Exit → Act → World → Prop} {a : Act} {w : World} {l : List Oper} (hm : P.follows .mixedOrders = true) (hB : Region.lexB .any l.toArray = true) (hC : C { w with drawn := w.drawn + 1 })
    (h : wpQuiet P l.toArray C (fun a' => ∀ w', C w' → Q .normal a' w') l a) : (Code.region id l.toArray true).wp P Q a w :=
  wp_region_quiet (C := C) hm hB hC (by simpa using h)

theorem class_of' (C : World → Prop) (h : ∃ w, C w) : ∃ (σ : Type) (V : σ → World), Nonempty σ ∧ Hid (∀ s, C (V s)) ∧ Hid (∀ w, C w → ∃ s, w = V s) :=
  ⟨{w // C w}, Subtype.val, h.elim fun w hw => ⟨⟨w, hw⟩⟩, fun s => s.2, fun w hw => ⟨⟨w, hw⟩, rfl⟩⟩

theorem step_call1 {P : Program} {ops : Array Oper} {o : Oper} {a : Act} {w : World} {K : Act → World → Prop} {Q : Exit → Act → World → Prop} {E : Prop} (hg : o.guard = none) (f : Nat) (hf : ∀ (vs : Array Value) (w : World), (callFunc f vs).run P w = .ok (.enter f vs) w) (x : Operand) (t : TypeId)
    (hop : o.op = Op.call { callee := Callee.value (Operand.func f), args := #[x], argTypes := #[t] }) {R : Ending → World → Prop} (v : Value) (hv : a.eval x = v) (h : Calls P f #[v] w R) (hR : ∀ e w', R e w' → ∃ u, e = .returned u ∧ K (a.put o.dst u) w') :
    if Region.wanted o (yielded ops a.tmps) = true then Oper.wp P o a w K Q else E := by
  have hw : Region.wanted o (yielded ops a.tmps) = true := by simp [Region.wanted, hg]
  rw [if_pos hw]
  unfold Oper.wp
  have e : (execOp a.eval o).run P w = .ok (.enter f #[v]) w := by
    simp [execOp, hop, resolve, invoke, hv]
    simp [go_sem, hf]
  rw [e, Oper.upon_enter]
  exact h.mono (fun e w' hr => by obtain ⟨u, rfl, hk⟩ := hR e w' hr; exact hk)
theorem step_call3 {P : Program} {ops : Array Oper} {o : Oper} {a : Act} {w : World} {K : Act → World → Prop} {Q : Exit → Act → World → Prop} {E : Prop} (hg : o.guard = none) (f : Nat) (hf : ∀ (vs : Array Value) (w : World), (callFunc f vs).run P w = .ok (.enter f vs) w) (x y z : Operand) (t1 t2 t3 : TypeId)
    (hop : o.op = Op.call { callee := Callee.value (Operand.func f), args := #[x, y, z], argTypes := #[t1, t2, t3] }) {R : Ending → World → Prop} (v1 v2 v3 : Value) (hv1 : a.eval x = v1) (hv2 : a.eval y = v2) (hv3 : a.eval z = v3) (h : Calls P f #[v1, v2, v3] w R) (hR : ∀ e w', R e w' → ∃ u, e = .returned u ∧ K (a.put o.dst u) w') :
    if Region.wanted o (yielded ops a.tmps) = true then Oper.wp P o a w K Q else E := by
  have hw : Region.wanted o (yielded ops a.tmps) = true := by simp [Region.wanted, hg]
  rw [if_pos hw]
  unfold Oper.wp
  have e : (execOp a.eval o).run P w = .ok (.enter f #[v1, v2, v3]) w := by
    simp [execOp, hop, resolve, invoke, hv1, hv2, hv3]
    simp [go_sem, hf]
  rw [e, Oper.upon_enter]
  exact h.mono (fun e w' hr => by obtain ⟨u, rfl, hk⟩ := hR e w' hr; exact hk)
theorem step_call2 {P : Program} {ops : Array Oper} {o : Oper} {a : Act} {w : World} {K : Act → World → Prop} {Q : Exit → Act → World → Prop} {E : Prop} (hg : o.guard = none) (f : Nat) (hf : ∀ (vs : Array Value) (w : World), (callFunc f vs).run P w = .ok (.enter f vs) w) (x y : Operand) (t1 t2 : TypeId)
    (hop : o.op = Op.call { callee := Callee.value (Operand.func f), args := #[x, y], argTypes := #[t1, t2] }) {R : Ending → World → Prop} (v1 v2 : Value) (hv1 : a.eval x = v1) (hv2 : a.eval y = v2) (h : Calls P f #[v1, v2] w R) (hR : ∀ e w', R e w' → ∃ u, e = .returned u ∧ K (a.put o.dst u) w') :
    if Region.wanted o (yielded ops a.tmps) = true then Oper.wp P o a w K Q else E := by
  have hw : Region.wanted o (yielded ops a.tmps) = true := by simp [Region.wanted, hg]
  rw [if_pos hw]
  unfold Oper.wp
  have e : (execOp a.eval o).run P w = .ok (.enter f #[v1, v2]) w := by
    simp [execOp, hop, resolve, invoke, hv1, hv2]
    simp [go_sem, hf]
  rw [e, Oper.upon_enter]
  exact h.mono (fun e w' hr => by obtain ⟨u, rfl, hk⟩ := hR e w' hr; exact hk)
def flatD (l : List (Int × Int)) : List Value := l.flatMap fun p => [.int .i64 p.1, .int .i64 p.2]
theorem flatD_length (l : List (Int × Int)) : (flatD l).length = l.length * 2 := by
  induction l with
  | nil => rfl
  | cons t ts ih => simp only [flatD, List.flatMap_cons, List.length_append] at *; rw [ih]; simp; omega
theorem flatD_app (a b : List (Int × Int)) : flatD (a ++ b) = flatD a ++ flatD b := by rw [flatD, List.flatMap_append]; rfl
theorem flatD_at (l : List (Int × Int)) (k : Nat) (p : Int × Int) (h : l[k]? = some p) : (flatD l)[k * 2]? = some (.int .i64 p.1) ∧ (flatD l)[k * 2 + 1]? = some (.int .i64 p.2) := by
  induction l generalizing k with
  | nil => simp at h
  | cons u ts ih =>
    have e : flatD (u :: ts) = [.int .i64 u.1, .int .i64 u.2] ++ flatD ts := by simp [flatD]
    rw [e]
    cases k with
    | zero => simp at h; subst h; simp
    | succ k =>
      simp at h
      obtain ⟨h1, h2⟩ := ih k h
      rw [List.getElem?_append_right (by simp; omega), List.getElem?_append_right (by simp; omega)]
      constructor
      · rw [← h1]; congr 1; simp; omega
      · rw [← h2]; congr 1; simp; omega
theorem flatD_one (l : List (Int × Int)) : ∀ u ∈ flatD l, u.oneCell' = true := by
  intro u hu
  rw [flatD, List.mem_flatMap] at hu
  obtain ⟨p, _, hp⟩ := hu
  simp at hp
  rcases hp with rfl | rfl <;> rfl
/-- the place of the first that p takes -/
def idxP (p : Int × Int → Bool) : List (Int × Int) → Nat → Int
  | [], _ => -1
  | m :: r, k => if p m then (k : Int) else idxP p r (k + 1)
theorem idxP_at {p : Int × Int → Bool} {l : List (Int × Int)} (k : Nat) (x : Int × Int) (h : l[k]? = some x) : idxP p (l.drop k) k = if p x then (k : Int) else idxP p (l.drop (k + 1)) (k + 1) := by
  obtain ⟨h1, h2⟩ := List.getElem?_eq_some_iff.1 h
  rw [List.drop_eq_getElem_cons h1, h2, idxP]
theorem idxP_range (p : Int × Int → Bool) : ∀ (l : List (Int × Int)) (k : Nat), (idxP p l k = -1 ∧ l.any p = false) ∨ ∃ j : Nat, idxP p l k = ((k + j : Nat) : Int) ∧ j < l.length ∧ l.any p = true ∧ (∀ m ∈ l.take j, p m = false) ∧ ∃ m, l[j]? = some m ∧ p m = true
  | [], _ => .inl ⟨rfl, rfl⟩
  | m :: r, k => by
    rw [idxP]
    cases e : p m with
    | true => exact .inr ⟨0, by simp, by simp, by simp [e], by simp, m, rfl, e⟩
    | false =>
      rcases idxP_range p r (k + 1) with ⟨h, h2⟩ | ⟨j, h, hj, h2, h3, x, h4, h5⟩
      · exact .inl ⟨by simpa using h, by simp [e, h2]⟩
      · refine .inr ⟨j + 1, by simp only [Bool.false_eq_true, if_false]; rw [h]; congr 1; omega, by simp; omega, by simp [h2], ?_, x, by rw [List.getElem?_cons_succ]; exact h4, h5⟩
        intro y hy
        rw [List.take_succ_cons] at hy
        rcases List.mem_cons.1 hy with rfl | hy
        · exact e
        · exact h3 y hy
/-- what is asked of a predicate's function -/
def PredD (g : Nat) (cb : Array Value) (p : Int × Int → Bool) (l : List (Int × Int)) (N : Nat) (W : World) : Prop := ∀ m ∈ l, ∀ w, Below N W w → Calls Try.prog g (#[.agg #[.int .i64 m.1, .int .i64 m.2]] ++ cb) w fun e w' => e = .returned (.bool (p m)) ∧ Below w.heap.size w w'
theorem rowD_cells {w : World} {N : Nat} {l : List (Int × Int)} {g cap : Nat} (h : w.ownsRow N 75 2 (.slice (some ⟨g, 0, none⟩) l.length cap) l.length (flatD l)) {i : Nat} {x : Int × Int} (hx : l[i]? = some x) : w.cell? ⟨g, i * 2, none⟩ = some (.int .i64 x.1) ∧ w.cell? ⟨g, i * 2 + 1, none⟩ = some (.int .i64 x.2) ∧ g < w.heap.size := by
  have hi := (List.getElem?_eq_some_iff.1 hx).1
  obtain ⟨h1, h2⟩ := flatD_at l i x hx
  have c0 : w.cell? ⟨g, i * 2, none⟩ = some (.int .i64 x.1) := (h.cellAt (i * 2) (by omega)).trans h1
  exact ⟨c0, (h.cellAt (i * 2 + 1) (by omega)).trans h2, World.block_lt_of_cell? w _ c0⟩

set_option maxRecDepth 100000 in
set_option maxHeartbeats 4000000 in
theorem idxD_any (g : Nat) (eg : ∀ args w, (callFunc g args).run Try.prog w = .ok (.enter g args) w) (cb : Array Value) (p : Int × Int → Bool) (N : Nat) (l : List (Int × Int)) (v : Value) (W : World) (h : W.ownsRow N 75 2 v l.length (flatD l)) (hn : l.length ≤ 1000000) (hp : PredD g cb p l W.heap.size W) :
    Calls Try.prog 104 #[v, .func (.func g) #[] cb] W fun e w' => e = .returned (.int .i64 (idxP p l 0)) ∧ Below W.heap.size W w' := by
  obtain ⟨ao, cap, rfl⟩ := ownv h
  obtain ⟨K, hK⟩ : ∃ K, l.length = K := ⟨_, rfl⟩
  have HA : Hid (W.ownsRow N 75 2 (.slice ao l.length cap) l.length (flatD l)) := h
  have HK : Hid (l.length = K) := hK
  have HP : Hid (PredD g cb p l W.heap.size W) := hp
  rw [hK] at hn ⊢
  clear hK h hp
  go_enter Try.func104, Try.ntmps104
  go_wp2
  go_loopw [8] (fun iv wr => ∃ i : Nat, iv = .int .i64 i ∧ i ≤ K ∧ Hid (Below W.heap.size W wr) ∧ Hid (idxP p (l.drop i) i = idxP p l 0)) (fun iv _ => K - (intOf iv).toNat)
  case atStart => exact ⟨0, rfl, Nat.zero_le _, Below.refl _ _, rfl⟩
  case round =>
    obtain ⟨i, rfl, hi, hb, hs⟩ := hrel
    by_cases hlt : i < K
    · have hlq : i < l.length := by rw [HK.out]; exact hlt
      obtain ⟨x, hx⟩ : ∃ x, l[i]? = some x := ⟨_, List.getElem?_eq_getElem hlq⟩
      obtain ⟨gm, cm, hform⟩ := Go.Joins.ownsRow_form HA.out (by omega)
      have hrow := HA.out
      rw [hform] at hrow
      obtain ⟨e0, e1, hgl⟩ := rowD_cells hrow hx
      replace e0 := (hb.out.cell (p := ⟨gm, i * 2, none⟩) hgl).trans e0
      replace e1 := (hb.out.cell (p := ⟨gm, i * 2 + 1, none⟩) hgl).trans e1
      injection hform with hao _ hcap
      subst hao hcap
      have hst := idxP_at (p := p) i x hx
      rw [hs.out] at hst
      have HC : Hid (Calls Try.prog g (#[.agg #[.int .i64 x.1, .int .i64 x.2]] ++ cb) wr fun e w' => e = .returned (.bool (p x)) ∧ Below wr.heap.size wr w') := HP.out x (List.mem_of_getElem? hx) wr hb.out
      generalize p x = q at *
      obtain ⟨x1, x2⟩ := x
      simp only at e0 e1 HC
      clear hs HA hx hrow hlq HP
      cases q with
      | true =>
        have HZ : Hid (idxP p l 0 = (i : Int)) := by rw [Hid, hst]; rfl
        clear hst
        go_wp2_with (go_at_fn g; refine (HC.out).mono ?_; rintro e w1 ⟨rfl, hb1⟩)
        go_ret
        exact ⟨ret_int HZ.out.symm, Below.step hb.out hb1⟩
      | false =>
        have HZ : Hid (idxP p (l.drop (i + 1)) (i + 1) = idxP p l 0) := by rw [Hid, hst]; rfl
        clear hst
        go_wp2_with (go_at_fn g; refine (HC.out).mono ?_; rintro e w1 ⟨rfl, hb1⟩; have hb2 : Hid (Below W.heap.size W w1) := Below.step hb.out hb1; clear hb1)
        go_roundw
        case rel => exact ⟨i + 1, by go_num, by omega, hb2, HZ⟩
        case measure => simp [intOf]; omega
    · have e : i = K := by omega
      subst e
      have HZ : Hid (idxP p l 0 = -1) := by rw [Hid, ← hs.out, List.drop_of_length_le (by rw [HK.out]; exact Nat.le_refl _)]; rfl
      clear hs HA HP
      go_wp2
      go_ret
      exact ⟨ret_int HZ.out.symm, hb.out⟩
theorem zero2 (n : Nat) : (Builtin.zeroCells #[.int .i64 0, .int .i64 0] n).toList = List.replicate (n * 2) (.int .i64 0) := by
  simp only [Builtin.zeroCells, Array.toList_map]
  apply List.ext_getElem
  · simp
  · intro i h1 h2
    simp
    rcases Nat.mod_two_eq_zero_or_one i with h | h <;> simp [h]
theorem run_clear2 (w : World) (ty : TypeId) (b o n c : Nat) (hn : 0 < n) (hc : ∀ j, j < n * 2 → (w.cell? ⟨b, o + j, none⟩).isSome = true) (hf : ∀ j, w.frozen? ⟨b, o + j, none⟩ = false) :
    (Builtin.clear_ #[106] ty #[.slice (some ⟨b, o, none⟩) n c]).run Try.prog w = .ok (.tuple #[]) (w.setCells b o (List.replicate (n * 2) (.int .i64 0))) := by
  have hst := run_storeCells_cells (P := Try.prog) b o (List.replicate (n * 2) (.int .i64 0)) 0 w (by simpa using hc) (by intro j _; simpa using hf j) (by intro v hv'; rw [List.eq_of_mem_replicate hv']; rfl)
  simp only [Nat.add_zero] at hst
  have hz : (Value.agg #[.int .i64 0, .int .i64 0]).cells = #[.int .i64 0, .int .i64 0] := by simp [Value.cells]
  obtain ⟨m, rfl⟩ : ∃ m, n = m + 1 := ⟨n - 1, by omega⟩
  simp [Builtin.clear_, run_underlying Try.underlying106, Try.zeroValue75, hz, zero2, hst]
theorem flatD_take : ∀ (R : List (Int × Int)) (i : Nat), (flatD R).take (i * 2) = flatD (R.take i)
  | [], i => by simp [flatD]
  | x :: r, 0 => by simp [flatD]
  | x :: r, i + 1 => by
    have e : flatD (x :: r) = .int .i64 x.1 :: .int .i64 x.2 :: flatD r := by simp [flatD]
    have e2 : flatD ((x :: r).take (i + 1)) = .int .i64 x.1 :: .int .i64 x.2 :: flatD (r.take i) := by simp [flatD]
    rw [e, e2, show (i + 1) * 2 = i * 2 + 1 + 1 by omega, List.take_succ_cons, List.take_succ_cons, flatD_take r i]
theorem flatD_set : ∀ (R : List (Int × Int)) (i : Nat) (x : Int × Int), ((flatD R).set (i * 2) (.int .i64 x.1)).set (i * 2 + 1) (.int .i64 x.2) = flatD (R.set i x)
  | [], i, x => by simp [flatD]
  | y :: r, 0, x => by simp [flatD]
  | y :: r, i + 1, x => by
    have e : flatD (y :: r) = .int .i64 y.1 :: .int .i64 y.2 :: flatD r := by simp [flatD]
    have e2 : flatD ((y :: r).set (i + 1) x) = .int .i64 y.1 :: .int .i64 y.2 :: flatD (r.set i x) := by simp [flatD]
    rw [e, e2, show (i + 1) * 2 = i * 2 + 1 + 1 by omega, List.set_cons_succ, List.set_cons_succ, List.set_cons_succ, List.set_cons_succ, flatD_set r i x]
theorem rowD_cut {w : World} {N : Nat} {R : List (Int × Int)} {g cap n i : Nat} (h : w.ownsRow N 75 2 (.slice (some ⟨g, 0, none⟩) n cap) n (flatD R)) (hi : i ≤ n) : w.ownsRow N 75 2 (.slice (some ⟨g, 0, none⟩) i cap) i (flatD (R.take i)) := by
  have hl := h.1
  rw [flatD_length] at hl
  refine ⟨by rw [flatD_length, List.length_take]; omega, ?_⟩
  rcases h.2 with ⟨e, _⟩ | ⟨g', cap', cur, e, h1, h2, h3, h4, h5, h6⟩
  · simp at e
  · simp only [Value.slice.injEq, Option.some.injEq, Addr.mk.injEq, and_true, true_and] at e
    obtain ⟨rfl, rfl⟩ := e
    refine .inr ⟨g, cap, cur, rfl, h1, h2, by omega, h4, h5, ?_⟩
    rw [← flatD_take, ← h6, List.take_take, Nat.min_eq_left (by omega)]
theorem rowD_clear {N i g cap : Nat} {xs : List Value} : ∀ (vs : List Value) (o : Nat) (w : World), w.ownsRow N 75 2 (.slice (some ⟨g, 0, none⟩) i cap) i xs → i * 2 ≤ o → (w.setCells g o vs).ownsRow N 75 2 (.slice (some ⟨g, 0, none⟩) i cap) i xs ∧ w.grownBy (w.setCells g o vs) (some g)
  | [], o, w, h, _ => ⟨h, ⟨rfl, rfl, rfl, Nat.le_refl _, fun _ _ _ => rfl⟩⟩
  | v :: r, o, w, h, ho => by
    obtain ⟨h1, h2⟩ := h.stored o v
    rw [List.set_eq_of_length_le (by rw [h.1]; exact ho)] at h1
    obtain ⟨h3, h4⟩ := rowD_clear r (o + 1) _ h1 (by omega)
    exact ⟨h3, h2.trans h4⟩

theorem run_append_over {P : Program} (w : World) (base : Nat) (t ty e : TypeId) (i : TypeInfo) (size : Nat) (ht : P.underlying t = some (.slice e)) (hi : P.info? e = some i) (hsize : i.size = size)
    (g k K cap : Nat) (xs : List Value) (hown : w.ownsRow base e size (.slice (some ⟨g, 0, none⟩) K cap) K xs)
    (a : Addr) (m c : Nat) (news : List Value) (hl : news.length = m * size) (hnews : ∀ j u, news[j]? = some u → w.cell? (a.add j) = some u) (h1 : ∀ u ∈ news, u.oneCell' = true) (hroom : k + m ≤ K) :
    ∃ w', (Builtin.append_ #[t, t] ty #[.slice (some ⟨g, 0, none⟩) k cap, .slice (some a) m c]).run P w = .ok (.slice (some ⟨g, 0, none⟩) (k + m) cap) w' ∧
      w'.ownsRow base e size (.slice (some ⟨g, 0, none⟩) K cap) K (xs.take (k * size) ++ news ++ xs.drop ((k + m) * size)) ∧ w.grownBy w' (some g) := by
  subst hsize
  rcases hown.2 with ⟨h0, _⟩ | ⟨g', cap', cur, hv, hbg, hg, hnc, hcm, hcs, htake⟩
  · cases h0
  · cases hv
    have hKm : (k + m) * i.size ≤ K * i.size := Nat.mul_le_mul_right _ hroom
    have hKc : K * i.size ≤ cap * i.size := Nat.mul_le_mul_right _ hnc
    have hadd : (k + m) * i.size = k * i.size + m * i.size := Nat.add_mul _ _ _
    have hfit : k * i.size + news.length ≤ cur.size := by rw [hl, hcs]; omega
    have hr := run_append_room (P := P) w t ty e i ht hi g k cap cur hg a m c news hl hnews h1 (by omega) hfit
    have hxl := hown.1
    have hcl : cur.toList.length = cap * i.size := by rw [Array.length_toList, hcs]
    refine ⟨_, hr, ⟨?_, .inr ⟨g, cap, _, rfl, hbg, setRow_heap w g cur _ e _ hg, hnc, hcm, ?_, ?_⟩⟩, ⟨rfl, rfl, rfl, by simp, fun j _ hj => setRow_other w g j _ (fun e => hj (by simp [e]))⟩⟩
    · rw [List.length_append, List.length_append, List.length_take, List.length_drop, hxl, hl]; omega
    · rw [List.size_toArray, List.length_append, List.length_append, List.length_take, List.length_drop, hcl, hl]; omega
    · rw [← htake, List.take_take, Nat.min_eq_left (by omega), List.drop_take]
      show ((cur.toList.take (k * i.size) ++ news) ++ cur.toList.drop (k * i.size + news.length)).take (K * i.size) = _
      have hAl : (cur.toList.take (k * i.size) ++ news).length = (k + m) * i.size := by rw [List.length_append, List.length_take, hcl, hl]; omega
      rw [List.take_append, hAl, List.take_of_length_le (by rw [hAl]; exact hKm), hl, hadd]
theorem wpList_append_over {P : Program} (w : World) {ops : Array Oper} {rest : List Oper} {o : Oper} {a : Act} {Q : Exit → Act → World → Prop} (hgd : o.guard = none) (s x : Operand) (t : TypeId)
    (ho : o.op = .call { callee := .builtin .append, args := #[s, x], argTypes := #[t, t] })
    (base : Nat) (e : TypeId) (i : TypeInfo) (size : Nat) (ht : P.underlying t = some (.slice e)) (hi : P.info? e = some i) (hsize : i.size = size)
    (g k K cap : Nat) (xs : List Value) (hs : a.eval s = .slice (some ⟨g, 0, none⟩) k cap) (hown : w.ownsRow base e size (.slice (some ⟨g, 0, none⟩) K cap) K xs)
    (ad : Addr) (m c : Nat) (news : List Value) (hx : a.eval x = .slice (some ad) m c) (hl : news.length = m * size) (hnews : ∀ j u, news[j]? = some u → w.cell? (ad.add j) = some u) (h1 : ∀ u ∈ news, u.oneCell' = true) (hroom : k + m ≤ K)
    (h : ∀ w', w'.ownsRow base e size (.slice (some ⟨g, 0, none⟩) K cap) K (xs.take (k * size) ++ news ++ xs.drop ((k + m) * size)) → w.grownBy w' (some g) → wpList P ops Q rest (a.put o.dst (.slice (some ⟨g, 0, none⟩) (k + m) cap)) w') : wpList P ops Q (o :: rest) a w := by
  refine wpList_plain hgd fun K' hK => ?_
  obtain ⟨w', hr, h2, h3⟩ := run_append_over (P := P) w base t o.type e i size ht hi hsize g k K cap xs hown ad m c news hl hnews h1 hroom
  unfold Oper.wp execOp
  simp only [ho, resolve, invoke, builtin, Sem.run_bind, Sem.run_pure, Result.andThen_ok, List.map_toArray, List.map_cons, List.map_nil, hs, hx, hr]
  exact hK _ _ (h w' h2 h3)
end Go.Proofs.Ytdjmjdlolhfejaa
