/- The laws' own built and awake (layer 10); SameIDs of the document. -/
import Derived.Test.YtgppadlkollfaaaGreatRfQ
import Derived.Test.YtgppadlkollfaaaGreatRfF
import Derived.Test.YtgppadlkollfaaaGreatHrX
import Derived.Lib.SliceRun
import Derived.Shelf.RegionOpen
namespace Go.Proofs.YtgppadlkollfaaaGreat
open Go.RowKit Go.Maps

/-- the place of the first that p takes -/
def idxP (p : Int × Int → Bool) : List (Int × Int) → Nat → Int
  | [], _ => -1
  | m :: r, k => if p m then (k : Int) else idxP p r (k + 1)
theorem idxP_at {p : Int × Int → Bool} {l : List (Int × Int)} (k : Nat) (x : Int × Int) (h : l[k]? = some x) : idxP p (l.drop k) k = if p x then (k : Int) else idxP p (l.drop (k + 1)) (k + 1) := by
  obtain ⟨h1, h2⟩ := List.getElem?_eq_some_iff.1 h
  rw [List.drop_eq_getElem_cons h1, h2, idxP]
theorem idxP_range (p : Int × Int → Bool) : ∀ (l : List (Int × Int)) (k : Nat), (idxP p l k = -1 ∧ l.any p = false) ∨ ∃ j : Nat, idxP p l k = ((k + j : Nat) : Int) ∧ j < l.length ∧ l.any p = true ∧ (∀ m ∈ l.take j, p m = false) ∧ ∃ m, l[j]? = some m ∧ p m = true
  | [], _ => .inl ⟨rfl, rfl⟩
  | m :: r, k => by
    rw [idxP]
    cases e : p m with
    | true => exact .inr ⟨0, by simp, by simp, by simp [e], by simp, m, rfl, e⟩
    | false =>
      rcases idxP_range p r (k + 1) with ⟨h, h2⟩ | ⟨j, h, hj, h2, h3, x, h4, h5⟩
      · exact .inl ⟨by simpa using h, by simp [e, h2]⟩
      · refine .inr ⟨j + 1, by simp only [Bool.false_eq_true, if_false]; rw [h]; congr 1; omega, by simp; omega, by simp [h2], ?_, x, by rw [List.getElem?_cons_succ]; exact h4, h5⟩
        intro y hy
        rw [List.take_succ_cons] at hy
        rcases List.mem_cons.1 hy with rfl | hy
        · exact e
        · exact h3 y hy
/-- what is asked of a predicate's function -/
def PredD (g : Nat) (cb : Array Value) (p : Int × Int → Bool) (l : List (Int × Int)) (N : Nat) (W : World) : Prop := ∀ m ∈ l, ∀ w, Below N W w → Calls Tryz.prog g (#[.agg #[.int .i64 m.1, .int .i64 m.2]] ++ cb) w fun e w' => e = .returned (.bool (p m)) ∧ Below w.heap.size w w'
theorem rowD_cells {w : World} {N : Nat} {l : List (Int × Int)} {g cap : Nat} (h : w.ownsRow N 38 2 (.slice (some ⟨g, 0, none⟩) l.length cap) l.length (flatD l)) {i : Nat} {x : Int × Int} (hx : l[i]? = some x) : w.cell? ⟨g, i * 2, none⟩ = some (.int .i64 x.1) ∧ w.cell? ⟨g, i * 2 + 1, none⟩ = some (.int .i64 x.2) ∧ g < w.heap.size := by
  have hi := (List.getElem?_eq_some_iff.1 hx).1
  obtain ⟨h1, h2⟩ := flatD_at l i x hx
  have c0 : w.cell? ⟨g, i * 2, none⟩ = some (.int .i64 x.1) := (h.cellAt (i * 2) (by omega)).trans h1
  exact ⟨c0, (h.cellAt (i * 2 + 1) (by omega)).trans h2, World.block_lt_of_cell? w _ c0⟩

set_option maxRecDepth 100000 in
set_option maxHeartbeats 4000000 in
theorem idxD_any (g : Nat) (eg : ∀ args w, (callFunc g args).run Tryz.prog w = .ok (.enter g args) w) (cb : Array Value) (p : Int × Int → Bool) (N : Nat) (l : List (Int × Int)) (v : Value) (W : World) (h : W.ownsRow N 38 2 v l.length (flatD l)) (hn : l.length ≤ 1000000) (hp : PredD g cb p l W.heap.size W) :
    Calls Tryz.prog 173 #[v, .func (.func g) #[] cb] W fun e w' => e = .returned (.int .i64 (idxP p l 0)) ∧ Below W.heap.size W w' := by
  obtain ⟨ao, cap, rfl⟩ := ownv h
  obtain ⟨K, hK⟩ : ∃ K, l.length = K := ⟨_, rfl⟩
  have HA : Hid (W.ownsRow N 38 2 (.slice ao l.length cap) l.length (flatD l)) := h
  have HK : Hid (l.length = K) := hK
  have HP : Hid (PredD g cb p l W.heap.size W) := hp
  rw [hK] at hn ⊢
  clear hK h hp
  go_enter Tryz.func173, Tryz.ntmps173
  go_wp2
  go_loopw [8] (fun iv wr => ∃ i : Nat, iv = .int .i64 i ∧ i ≤ K ∧ Hid (Below W.heap.size W wr) ∧ Hid (idxP p (l.drop i) i = idxP p l 0)) (fun iv _ => K - (intOf iv).toNat)
  case atStart => exact ⟨0, rfl, Nat.zero_le _, Below.refl _ _, rfl⟩
  case round =>
    obtain ⟨i, rfl, hi, hb, hs⟩ := hrel
    by_cases hlt : i < K
    · have hlq : i < l.length := by rw [HK.out]; exact hlt
      obtain ⟨x, hx⟩ : ∃ x, l[i]? = some x := ⟨_, List.getElem?_eq_getElem hlq⟩
      obtain ⟨gm, cm, hform⟩ := Go.Joins.ownsRow_form HA.out (by omega)
      have hrow := HA.out
      rw [hform] at hrow
      obtain ⟨e0, e1, hgl⟩ := rowD_cells hrow hx
      replace e0 := (hb.out.cell (p := ⟨gm, i * 2, none⟩) hgl).trans e0
      replace e1 := (hb.out.cell (p := ⟨gm, i * 2 + 1, none⟩) hgl).trans e1
      injection hform with hao _ hcap
      subst hao hcap
      have hst := idxP_at (p := p) i x hx
      rw [hs.out] at hst
      have HC : Hid (Calls Tryz.prog g (#[.agg #[.int .i64 x.1, .int .i64 x.2]] ++ cb) wr fun e w' => e = .returned (.bool (p x)) ∧ Below wr.heap.size wr w') := HP.out x (List.mem_of_getElem? hx) wr hb.out
      generalize p x = q at *
      obtain ⟨x1, x2⟩ := x
      simp only at e0 e1 HC
      clear hs HA hx hrow hlq HP
      cases q with
      | true =>
        have HZ : Hid (idxP p l 0 = (i : Int)) := by rw [Hid, hst]; rfl
        clear hst
        go_wp2_with (go_at_fn g; refine (HC.out).mono ?_; rintro e w1 ⟨rfl, hb1⟩)
        go_ret
        exact ⟨ret_int HZ.out.symm, Below.step hb.out hb1⟩
      | false =>
        have HZ : Hid (idxP p (l.drop (i + 1)) (i + 1) = idxP p l 0) := by rw [Hid, hst]; rfl
        clear hst
        go_wp2_with (go_at_fn g; refine (HC.out).mono ?_; rintro e w1 ⟨rfl, hb1⟩; have hb2 : Hid (Below W.heap.size W w1) := Below.step hb.out hb1; clear hb1)
        go_roundw
        case rel => exact ⟨i + 1, by go_num, by omega, hb2, HZ⟩
        case measure => simp [intOf]; omega
    · have e : i = K := by omega
      subst e
      have HZ : Hid (idxP p l 0 = -1) := by rw [Hid, ← hs.out, List.drop_of_length_le (by rw [HK.out]; exact Nat.le_refl _)]; rfl
      clear hs HA HP
      go_wp2
      go_ret
      exact ⟨ret_int HZ.out.symm, hb.out⟩
set_option maxRecDepth 100000 in
theorem conD_any (g : Nat) (eg : ∀ args w, (callFunc g args).run Tryz.prog w = .ok (.enter g args) w) (cb : Array Value) (p : Int × Int → Bool) (N : Nat) (l : List (Int × Int)) (v : Value) (W : World) (h : W.ownsRow N 38 2 v l.length (flatD l)) (hn : l.length ≤ 1000000) (hp : PredD g cb p l W.heap.size W) :
    Calls Tryz.prog 107 #[v, .func (.func g) #[] cb] W fun e w' => e = .returned (.bool (l.any p)) ∧ Below W.heap.size W w' := by
  have HI : Hid (Calls Tryz.prog 173 #[v, .func (.func g) #[] cb] W fun e w' => e = .returned (.int .i64 (idxP p l 0)) ∧ Below W.heap.size W w') := idxD_any g eg cb p N l v W h hn hp
  rcases idxP_range p l 0 with ⟨e, e2⟩ | ⟨j, e, _, e2, _⟩
  · rw [e] at HI
    rw [e2]
    obtain ⟨ao, cap, rfl⟩ := ownv h
    clear h hp e e2
    go_enter Tryz.func107, Tryz.ntmps107
    go_wp2_with (go_at_call 173; refine HI.out.mono ?_; rintro e w1 ⟨rfl, hb⟩; have B1 : Hid (Below W.heap.size W w1) := hb; clear hb HI)
    exact bodyPost_ret (results_tmp rfl _ _ _) rfl ⟨rfl, B1.out⟩
  · rw [e, Nat.zero_add] at HI
    rw [e2]
    obtain ⟨ao, cap, rfl⟩ := ownv h
    clear h hp e e2
    go_enter Tryz.func107, Tryz.ntmps107
    go_wp2_with (go_at_call 173; refine HI.out.mono ?_; rintro e w1 ⟨rfl, hb⟩; have B1 : Hid (Below W.heap.size W w1) := hb; clear hb HI)
    exact bodyPost_ret (results_tmp rfl _ _ _) rfl ⟨rfl, B1.out⟩


theorem zero2 (n : Nat) : (Builtin.zeroCells #[.int .i64 0, .int .i64 0] n).toList = List.replicate (n * 2) (.int .i64 0) := by
  simp only [Builtin.zeroCells, Array.toList_map]
  apply List.ext_getElem
  · simp
  · intro i h1 h2
    simp
    rcases Nat.mod_two_eq_zero_or_one i with h | h <;> simp [h]
theorem run_clear2 (w : World) (ty : TypeId) (b o n c : Nat) (hn : 0 < n) (hc : ∀ j, j < n * 2 → (w.cell? ⟨b, o + j, none⟩).isSome = true) (hf : ∀ j, w.frozen? ⟨b, o + j, none⟩ = false) :
    (Builtin.clear_ #[53] ty #[.slice (some ⟨b, o, none⟩) n c]).run Tryz.prog w = .ok (.tuple #[]) (w.setCells b o (List.replicate (n * 2) (.int .i64 0))) := by
  have hst := run_storeCells_cells (P := Tryz.prog) b o (List.replicate (n * 2) (.int .i64 0)) 0 w (by simpa using hc) (by intro j _; simpa using hf j) (by intro v hv'; rw [List.eq_of_mem_replicate hv']; rfl)
  simp only [Nat.add_zero] at hst
  have hz : (Value.agg #[.int .i64 0, .int .i64 0]).cells = #[.int .i64 0, .int .i64 0] := by simp [Value.cells]
  obtain ⟨m, rfl⟩ : ∃ m, n = m + 1 := ⟨n - 1, by omega⟩
  simp [Builtin.clear_, run_underlying Tryz.underlying53, Tryz.zeroValue38, hz, zero2, hst]
theorem flatD_take : ∀ (R : List (Int × Int)) (i : Nat), (flatD R).take (i * 2) = flatD (R.take i)
  | [], i => by simp [flatD]
  | x :: r, 0 => by simp [flatD]
  | x :: r, i + 1 => by
    have e : flatD (x :: r) = .int .i64 x.1 :: .int .i64 x.2 :: flatD r := by simp [flatD]
    have e2 : flatD ((x :: r).take (i + 1)) = .int .i64 x.1 :: .int .i64 x.2 :: flatD (r.take i) := by simp [flatD]
    rw [e, e2, show (i + 1) * 2 = i * 2 + 1 + 1 by omega, List.take_succ_cons, List.take_succ_cons, flatD_take r i]
theorem flatD_set : ∀ (R : List (Int × Int)) (i : Nat) (x : Int × Int), ((flatD R).set (i * 2) (.int .i64 x.1)).set (i * 2 + 1) (.int .i64 x.2) = flatD (R.set i x)
  | [], i, x => by simp [flatD]
  | y :: r, 0, x => by simp [flatD]
  | y :: r, i + 1, x => by
    have e : flatD (y :: r) = .int .i64 y.1 :: .int .i64 y.2 :: flatD r := by simp [flatD]
    have e2 : flatD ((y :: r).set (i + 1) x) = .int .i64 y.1 :: .int .i64 y.2 :: flatD (r.set i x) := by simp [flatD]
    rw [e, e2, show (i + 1) * 2 = i * 2 + 1 + 1 by omega, List.set_cons_succ, List.set_cons_succ, List.set_cons_succ, List.set_cons_succ, flatD_set r i x]
theorem rowD_cut {w : World} {N : Nat} {R : List (Int × Int)} {g cap n i : Nat} (h : w.ownsRow N 38 2 (.slice (some ⟨g, 0, none⟩) n cap) n (flatD R)) (hi : i ≤ n) : w.ownsRow N 38 2 (.slice (some ⟨g, 0, none⟩) i cap) i (flatD (R.take i)) := by
  have hl := h.1
  rw [flatD_length] at hl
  refine ⟨by rw [flatD_length, List.length_take]; omega, ?_⟩
  rcases h.2 with ⟨e, _⟩ | ⟨g', cap', cur, e, h1, h2, h3, h4, h5, h6⟩
  · simp at e
  · simp only [Value.slice.injEq, Option.some.injEq, Addr.mk.injEq, and_true, true_and] at e
    obtain ⟨rfl, rfl⟩ := e
    refine .inr ⟨g, cap, cur, rfl, h1, h2, by omega, h4, h5, ?_⟩
    rw [← flatD_take, ← h6, List.take_take, Nat.min_eq_left (by omega)]
theorem rowD_clear {N i g cap : Nat} {xs : List Value} : ∀ (vs : List Value) (o : Nat) (w : World), w.ownsRow N 38 2 (.slice (some ⟨g, 0, none⟩) i cap) i xs → i * 2 ≤ o → (w.setCells g o vs).ownsRow N 38 2 (.slice (some ⟨g, 0, none⟩) i cap) i xs ∧ w.grownBy (w.setCells g o vs) (some g)
  | [], o, w, h, _ => ⟨h, ⟨rfl, rfl, rfl, Nat.le_refl _, fun _ _ _ => rfl⟩⟩
  | v :: r, o, w, h, ho => by
    obtain ⟨h1, h2⟩ := h.stored o v
    rw [List.set_eq_of_length_le (by rw [h.1]; exact ho)] at h1
    obtain ⟨h3, h4⟩ := rowD_clear r (o + 1) _ h1 (by omega)
    exact ⟨h3, h2.trans h4⟩

theorem eqNilD1 (w : World) : (binOp .eql 53 (.slice none 0 0) (.slice none 0 0)).run Tryz.prog w = .ok (.bool true) w := by
  have h : (Op.equalIn (9999 + 1) 53 (.slice none 0 0) (.slice none 0 0)).run Tryz.prog w = .ok true w := by
    rw [Op.equalIn]
    simp [run_underlying Tryz.underlying53, go_sem]
  have h2 : (Op.equal 53 (.slice none 0 0) (.slice none 0 0)).run Tryz.prog w = .ok true w := h
  simp [binOp, h2, go_sem]
theorem eqNilD2 (g n cap : Nat) (w : World) : (binOp .eql 53 (.slice (some ⟨g, 0, none⟩) n cap) (.slice none 0 0)).run Tryz.prog w = .ok (.bool false) w := by
  have h : (Op.equalIn (9999 + 1) 53 (.slice (some ⟨g, 0, none⟩) n cap) (.slice none 0 0)).run Tryz.prog w = .ok false w := by
    rw [Op.equalIn]
    simp [run_underlying Tryz.underlying53, go_sem]
  have h2 : (Op.equal 53 (.slice (some ⟨g, 0, none⟩) n cap) (.slice none 0 0)).run Tryz.prog w = .ok false w := h
  simp [binOp, h2, go_sem]
set_option maxRecDepth 100000 in
set_option maxHeartbeats 1000000 in
theorem cloD_any (N : Nat) (l : List (Int × Int)) (v : Value) (W : World) (h : W.ownsRow N 38 2 v l.length (flatD l)) (hn : l.length ≤ 1000000) : Calls Tryz.prog 105 #[v] W fun e w' => ∃ v', e = .returned v' ∧ w'.ownsRow W.heap.size 38 2 v' l.length (flatD l) ∧ Below W.heap.size W w' := by
  obtain ⟨i0, hi0, hz0, hz1, hz2⟩ := info_parts Tryz.hinfoD
  have HR : Hid (∀ o, Rdw (W.alloc o) v l.length 2 (flatD l)) := fun o => .inl (own_rds (h.alloc o))
  rcases h.2 with ⟨rfl, e⟩ | ⟨g, cap, cur, rfl, _⟩
  · have HE : Hid (W.ownsRow W.heap.size 38 2 (.slice none 0 0) l.length (flatD l)) := by
      have e2 : l = [] := List.length_eq_zero_iff.1 e
      rw [e2]; exact World.ownsRow_nil _ _ _ _
    clear h e HR
    have G2 := eqNilD1
    go_enter Tryz.func105, Tryz.ntmps105
    go_wp2
    refine bodyPost_ret (results_tmp rfl _ _ _) rfl ⟨_, rfl, ?_, Below.refl _ _⟩
    exact HE.out
  · have HO : Hid (∀ u ∈ flatD l, u.oneCell' = true) := flatD_one l
    obtain ⟨K, hK⟩ : ∃ K, l.length = K := ⟨_, rfl⟩
    rw [hK] at hn HR ⊢
    generalize flatD l = xs at *
    clear h hK
    have G2 := eqNilD2 g K cap
    go_enter Tryz.func105, Tryz.ntmps105
    go_wp2_with (at_builtin; refine wpList_append_rdw rfl _ _ 53 rfl W.heap.size 38 i0 (.agg #[.int .i64 0, .int .i64 0]) 2 16 Tryz.underlying53 hi0 hz0 hz1 hz2 rfl (by decide) (.slice (some ⟨W.heap.size, 0, none⟩) 0 0) 0 [] rfl (own_empty _ _ rfl _ _ _ (Nat.le_refl _)) (.slice (some ⟨g, 0, none⟩) K cap) K xs rfl (HR.out _) HO.out ?c1 ?c2 ?c3 ?_)
    case c1 => unfold maxLen; omega
    case c2 => omega
    case c3 => simp
    intro v' w2 hown hgrow
    obtain ⟨va2, vn2, rfl⟩ := ownv hown
    try simp only [Nat.zero_add] at hown
    try simp only [List.nil_append] at hown
    have B2 : Hid (Below W.heap.size W w2) := by
      refine Below.grown (w := _) ((Below.refl _ W).alloc (Nat.le_refl _) (.cells #[] 38)) hgrow (by simp) (fun x hx => ?_)
      simp [Value.ownBlock] at hx; omega
    have O2 : Hid _ := hown
    clear hown hgrow
    go_wp2
    refine bodyPost_ret (results_tmp rfl _ _ _) rfl ⟨_, rfl, ?_, B2.out⟩
    exact O2.out


/-- what a round of DeleteFunc keeps: the row R; i of the first j are kept -/
structure DelR (p : Int × Int → Bool) (l R : List (Int × Int)) (i j : Nat) : Prop where
  lt : i < j
  le : j ≤ l.length
  len : R.length = l.length
  pre : R.take i = (l.take j).filter (fun m => !p m)
  suf : ∀ k, j ≤ k → R[k]? = l[k]?
theorem DelR.start {p : Int × Int → Bool} {l : List (Int × Int)} {j : Nat} {m : Int × Int} (hm : l[j]? = some m) (hp : p m = true) (hl : ∀ x ∈ l.take j, p x = false) : DelR p l l j (j + 1) := by
  have hj := (List.getElem?_eq_some_iff.1 hm).1
  refine ⟨by omega, by omega, rfl, ?_, fun _ _ => rfl⟩
  rw [List.take_add_one, hm, List.filter_append]
  have e1 : (l.take j).filter (fun m => !p m) = l.take j := List.filter_eq_self.2 (fun x hx => by rw [hl x hx]; rfl)
  rw [e1]; simp [hp]
theorem DelR.keep {p : Int × Int → Bool} {l R : List (Int × Int)} {i j : Nat} {x : Int × Int} (h : DelR p l R i j) (hx : l[j]? = some x) (hp : p x = false) : DelR p l (R.set i x) (i + 1) (j + 1) := by
  have hj := (List.getElem?_eq_some_iff.1 hx).1
  have h1 := h.lt
  have h2 := h.len
  refine ⟨by omega, by omega, by rw [List.length_set]; exact h2, ?_, fun k hk => ?_⟩
  · rw [List.take_add_one, List.take_add_one, hx, List.filter_append, ← h.pre, List.getElem?_set_self (by omega), List.take_set_of_le (Nat.le_refl _)]
    simp [hp]
  · rw [List.getElem?_set_ne (by omega)]; exact h.suf k (by omega)
theorem DelR.skip {p : Int × Int → Bool} {l R : List (Int × Int)} {i j : Nat} {x : Int × Int} (h : DelR p l R i j) (hx : l[j]? = some x) (hp : p x = true) : DelR p l R i (j + 1) := by
  have hj := (List.getElem?_eq_some_iff.1 hx).1
  have h1 := h.lt
  refine ⟨by omega, by omega, h.len, ?_, fun k hk => h.suf k (by omega)⟩
  rw [List.take_add_one, hx, List.filter_append, ← h.pre]
  simp [hp]

set_option maxRecDepth 100000 in
set_option maxHeartbeats 4000000 in
theorem delD_any (g : Nat) (eg : ∀ args w, (callFunc g args).run Tryz.prog w = .ok (.enter g args) w) (cb : Array Value) (p : Int × Int → Bool) (N : Nat) (l : List (Int × Int)) (v : Value) (W : World) (h : W.ownsRow N 38 2 v l.length (flatD l)) (hN : N ≤ W.heap.size) (hn : l.length ≤ 1000000) (hp : PredD g cb p l N W) :
    Calls Tryz.prog 104 #[v, .func (.func g) #[] cb] W fun e w' => ∃ v', e = .returned v' ∧ w'.ownsRow N 38 2 v' (l.filter (fun m => !p m)).length (flatD (l.filter (fun m => !p m))) ∧ Below N W w' := by
  have HI : Hid (Calls Tryz.prog 173 #[v, .func (.func g) #[] cb] W fun e w' => e = .returned (.int .i64 (idxP p l 0)) ∧ Below W.heap.size W w') := idxD_any g eg cb p N l v W h hn (fun m hm w hb => hp m hm w (hb.mono hN))
  rcases idxP_range p l 0 with ⟨e1, e2⟩ | ⟨j0, e1, hj0, e2, hpre, m0, hm0, hpm⟩
  · rw [e1] at HI
    have e3 : l.filter (fun m => !p m) = l := List.filter_eq_self.2 (fun x hx => by
      rw [List.any_eq_false] at e2
      have := e2 x hx
      simpa using this)
    rw [e3]
    have HA : Hid (W.ownsRow N 38 2 v l.length (flatD l)) := h
    obtain ⟨ao, cap, rfl⟩ := ownv h
    clear h hp e1 e2 e3
    go_enter Tryz.func104, Tryz.ntmps104
    go_wp2_with (go_at_call 173; refine HI.out.mono ?_; rintro e w1 ⟨rfl, hb⟩; have B1 : Hid (Below W.heap.size W w1) := hb; clear hb HI)
    refine bodyPost_ret (results_tmp rfl _ _ _) rfl ⟨_, rfl, ?_, B1.out.mono hN⟩
    exact rowBelow HA.out B1.out
  · rw [e1, Nat.zero_add] at HI
    obtain ⟨gm, cap, hform⟩ := Go.Joins.ownsRow_form h (by omega)
    subst hform
    have HA : Hid (W.ownsRow N 38 2 (.slice (some ⟨gm, 0, none⟩) l.length cap) l.length (flatD l)) := h
    have hcap : l.length ≤ cap := by
      rcases h.2 with ⟨e, _⟩ | ⟨g', cap', cur, e, _, _, h3, _⟩
      · simp at e
      · simp only [Value.slice.injEq, Option.some.injEq, Addr.mk.injEq, and_true, true_and] at e
        obtain ⟨rfl, rfl⟩ := e
        exact h3
    have hgN : N ≤ gm := (h.lt gm rfl).1
    have HP : Hid (PredD g cb p l N W) := hp
    have HD0 : Hid (DelR p l l j0 (j0 + 1)) := DelR.start hm0 hpm hpre
    obtain ⟨K, hK⟩ : ∃ K, l.length = K := ⟨_, rfl⟩
    have HK : Hid (l.length = K) := hK
    rw [hK] at hn hj0 hcap HI ⊢
    clear h hp e1 e2 hpre hm0 hpm hK
    have hne : ((j0 : Int) == -1) = false := beq_eq_false_iff_ne.2 (by omega)
    go_enter Tryz.func104, Tryz.ntmps104
    go_wp2_with (go_at_call 173; refine HI.out.mono ?_; rintro e w1 ⟨rfl, hb⟩; have B1 : Hid (Below W.heap.size W w1) := hb; clear hb HI)
    go_loopw [5, 6] (fun iv jv wr => ∃ (i j : Nat) (R : List (Int × Int)), iv = .int .i64 i ∧ jv = .int .i64 j ∧ i < j ∧ j ≤ K ∧ Hid (DelR p l R i j) ∧ Hid (wr.ownsRow N 38 2 (.slice (some ⟨gm, 0, none⟩) K cap) K (flatD R)) ∧ Hid (Below N W wr)) (fun _ jv _ => K - (intOf jv).toNat)
    case atStart => exact ⟨j0, j0 + 1, l, rfl, by go_num, by omega, by omega, HD0, by have := rowBelow HA.out B1.out; rw [HK.out] at this; exact this, B1.out.mono hN⟩
    case round =>
      obtain ⟨i, j, R, rfl, rfl, hij, hjK, hD, hO, hB⟩ := hrel
      have hRK : R.length = K := hD.out.len.trans HK.out
      have hrow : wr.ownsRow N 38 2 (.slice (some ⟨gm, 0, none⟩) R.length cap) R.length (flatD R) := by rw [hRK]; exact hO.out
      obtain ⟨y, hy⟩ : ∃ y, R[i]? = some y := ⟨_, List.getElem?_eq_getElem (by omega)⟩
      by_cases hlt : j < K
      · obtain ⟨x, hx⟩ : ∃ x, l[j]? = some x := ⟨_, List.getElem?_eq_getElem (by rw [HK.out]; exact hlt)⟩
        obtain ⟨e0, e1, hgl⟩ := rowD_cells hrow ((hD.out.suf j (Nat.le_refl _)).trans hx)
        obtain ⟨y0, y1, _⟩ := rowD_cells hrow hy
        obtain ⟨cur, hcur⟩ := row_cur hrow
        have HX : Hid (l[j]? = some x) := hx
        have HC : Hid (∀ w, Below N W w → Calls Tryz.prog g (#[.agg #[.int .i64 x.1, .int .i64 x.2]] ++ cb) w fun e w' => e = .returned (.bool (p x)) ∧ Below w.heap.size w w') := fun w hb => HP.out x (List.mem_of_getElem? hx) w hb
        have Y0 : Hid (wr.cell? ⟨gm, i * 2, none⟩ = some (.int .i64 y.1)) := y0
        have Y1 : Hid (wr.cell? ⟨gm, i * 2 + 1, none⟩ = some (.int .i64 y.2)) := y1
        have HCU : Hid (wr.heap[gm]? = some (.cells cur 38 (0, 0))) := hcur
        have hiK : (i : Int) < (K : Int) := by omega
        have hjI : (j : Int) < (K : Int) := by omega
        have hNw : N ≤ wr.heap.size := Nat.le_trans hN hB.out.size
        have hnw : ¬ gm = wr.heap.size := by omega
        obtain ⟨q, hq⟩ : ∃ q, p x = q := ⟨_, rfl⟩
        have HQ : Hid (p x = q) := hq
        rw [hq] at HC
        clear hx hrow hy y0 y1 hcur hq HP HA HD0 B1
        obtain ⟨x1, x2⟩ := x
        simp only at e0 e1 HC
        cases q with
        | false =>
          go_wp2_with (go_at_fn g; refine (HC.out _ (hB.out.alloc hNw _)).mono ?_; rintro e w1 ⟨rfl, hb⟩; have O1 : Hid (w1.ownsRow N 38 2 (.slice (some ⟨gm, 0, none⟩) K cap) K (flatD R)) := rowBelow (hO.out.alloc _) hb; have B1 : Hid (Below N W w1) := (hB.out.alloc hNw _).trans (hb.mono (by simp; omega)); have m0 : w1.cell? ⟨wr.heap.size, 0, none⟩ = some (.int .i64 x1) := (hb.cell (p := ⟨wr.heap.size, 0, none⟩) (by simp)).trans (by simp [go_sem]); have m1 : w1.cell? ⟨wr.heap.size, 1, none⟩ = some (.int .i64 x2) := (hb.cell (p := ⟨wr.heap.size, 1, none⟩) (by simp)).trans (by simp [go_sem]); have z0 : w1.cell? ⟨gm, i * 2, none⟩ = some (.int .i64 y.1) := (hb.cell (p := ⟨gm, i * 2, none⟩) (by simp; omega)).trans (Lib.cell?_alloc_some _ Y0.out); have z1 : w1.cell? ⟨gm, i * 2 + 1, none⟩ = some (.int .i64 y.2) := (hb.cell (p := ⟨gm, i * 2 + 1, none⟩) (by simp; omega)).trans (Lib.cell?_alloc_some _ Y1.out); have hcu : w1.heap[gm]? = some (.cells cur 38 (0, 0)) := (hb.block gm (by simp; omega)).trans ((((Below.refl _ wr).alloc (Nat.le_refl _) _).block gm hgl).trans HCU.out); have f0 := frozen_of_row w1 gm (i * 2) _ _ hcu; have f1 := frozen_of_row w1 gm (i * 2 + 1) _ _ hcu; clear hb hcu HC e0 e1 Y0 Y1 HCU)
          have O2 : Hid (((w1.setCell ⟨gm, i * 2, none⟩ (.int .i64 x1)).setCell ⟨gm, i * 2 + 1, none⟩ (.int .i64 x2)).ownsRow N 38 2 (.slice (some ⟨gm, 0, none⟩) K cap) K (flatD (R.set i (x1, x2)))) := by
            obtain ⟨s0, _⟩ := O1.out.stored (i * 2) (.int .i64 x1)
            obtain ⟨s1, _⟩ := s0.stored (i * 2 + 1) (.int .i64 x2)
            rw [flatD_set R i (x1, x2)] at s1
            exact s1
          have B2 : Hid (Below N W ((w1.setCell ⟨gm, i * 2, none⟩ (.int .i64 x1)).setCell ⟨gm, i * 2 + 1, none⟩ (.int .i64 x2))) := (B1.out.setCell hgN _).setCell hgN _
          go_roundw
          case rel => exact ⟨i + 1, j + 1, _, by go_num, by go_num, by omega, by omega, hD.out.keep HX.out HQ.out, O2, B2⟩
          case measure => simp [intOf]; omega
        | true =>
          go_wp2_with (go_at_fn g; refine (HC.out _ (hB.out.alloc hNw _)).mono ?_; rintro e w1 ⟨rfl, hb⟩; have O1 : Hid (w1.ownsRow N 38 2 (.slice (some ⟨gm, 0, none⟩) K cap) K (flatD R)) := rowBelow (hO.out.alloc _) hb; have B1 : Hid (Below N W w1) := (hB.out.alloc hNw _).trans (hb.mono (by simp; omega)); clear hb HC e0 e1 Y0 Y1 HCU)
          go_roundw
          case rel => exact ⟨i, j + 1, R, rfl, by go_num, by omega, by omega, hD.out.skip HX.out HQ.out, O1, B1⟩
          case measure => simp [intOf]; omega
      · obtain rfl : j = K := by omega
        have hcl : ∀ ty, (Builtin.clear_ #[53] ty #[.slice (some ⟨gm, i * 2, none⟩) (j - i) (cap - i)]).run Tryz.prog wr = .ok (.tuple #[]) (wr.setCells gm (i * 2) (List.replicate ((j - i) * 2) (.int .i64 0))) := fun ty => by
          obtain ⟨cur, hcur⟩ := row_cur hrow
          refine run_clear2 wr ty gm (i * 2) (j - i) (cap - i) (by omega) (fun t ht => ?_) (fun t => frozen_of_row wr gm _ _ _ hcur)
          rw [hrow.cellAt (i * 2 + t) (by omega), List.getElem?_eq_getElem (by rw [flatD_length]; omega)]; rfl
        clear hrow hy
        have HF : Hid (l.filter (fun m => !p m) = R.take i) := by rw [Hid, hD.out.pre, List.take_of_length_le (by rw [HK.out]; exact Nat.le_refl _)]
        go_wp2
        refine bodyPost_ret (results_tmp rfl _ _ _) rfl ⟨.slice (some ⟨gm, 0, none⟩) i cap, rfl, ?_, ?_⟩
        · rw [HF.out, List.length_take, hRK, Nat.min_eq_left (by omega)]
          exact (rowD_clear _ _ wr (rowD_cut hO.out (by omega)) (Nat.le_refl _)).1
        · refine hB.out.grown (rowD_clear _ _ wr (rowD_cut hO.out (Nat.le_of_lt hij)) (Nat.le_refl _)).2 (Nat.le_trans hN hB.out.size) (fun x hx => ?_)
          cases hx; exact hgN


theorem wld_wj (l : List Cls) (hl : ∀ c ∈ l, ClsW c) : WI (wld l) ∧ WJ (wld l) := wld_ind (P := fun ps => WI ps ∧ WJ ps) ⟨wi3, wj3⟩ (fun _ c h hc => ⟨h.1.define c hc, WJ.define h.1 h.2 c hc⟩) l hl


theorem cand_mem {ps : List Plc} {nm ds : ByteArray} {cl : List Nat} {m : Int × Int} (h : m ∈ candL ps nm ds cl) : ∃ i ∈ cl, m.1 = (i : Int) ∧ fndI ps i nm ds = (m.2, 0) ∧ hasS ps i m.2 10 = false := by
  rw [candL, List.mem_flatMap] at h
  obtain ⟨i, hi, hm⟩ := h
  rw [cand1] at hm
  split at hm
  next hc =>
    simp only [List.mem_singleton] at hm
    subst hm
    exact ⟨i, hi, rfl, Prod.ext rfl hc.1, hc.2⟩
  next => simp at hm
/-- does another candidate's interface extend this one's? -/
def overB (ps : List Plc) (l : List (Int × Int)) (m : Int × Int) : Bool := l.any fun o => !(o.1 == m.1) && extI ps o.1 m.1
/-- the most special ones -/
def maxL (ps : List Plc) (l : List (Int × Int)) : List (Int × Int) := l.filter fun m => !overB ps l m
theorem max_mem {ps : List Plc} {l : List (Int × Int)} {m : Int × Int} (h : m ∈ maxL ps l) : m ∈ l := (List.mem_filter.1 h).1
theorem extI_nat {ps : List Plc} {a b : Nat} (ha : a < ps.length) (hb : b < ps.length) : extI ps (a : Int) (b : Int) = extB (ps.map nd) a b := by
  rw [extI, plcI_nat, plcI_nat, List.getElem?_eq_getElem ha, List.getElem?_eq_getElem hb]; rfl
/-- what holds of a candidate of the class k -/
theorem cand_facts {ps : List Plc} (hW : WI ps) {k : Nat} {q : Plc} (hq : ps[k]? = some q) {nm ds : ByteArray} {m : Int × Int} (h : m ∈ candL ps nm ds q.cl) : (∃ i : Nat, m.1 = (i : Int) ∧ i < ps.length) ∧ ifcI ps m.1 = true ∧ extI ps (k : Int) m.1 = true ∧ ∃ x, methI ps m.1 m.2 = some x ∧ x.nm.toList = nm.toList ∧ x.ds.toList = ds.toList ∧ hasI x.fl 10 = false := by
  obtain ⟨i, hi, h1, h2, h3⟩ := cand_mem h
  have hk := (List.getElem?_eq_some_iff.1 hq).1
  have hcl : i ∈ clO (ps.map nd) k := by rw [clO, nd_at' hq]; exact hi
  obtain ⟨hlt, _, p, hp, hpi, _⟩ := cl_facts hW.wo hcl
  have hil : i < ps.length := by omega
  have hpi2 : ps[i]? = some ps[i] := List.getElem?_eq_getElem hil
  have hpn : p = nd ps[i] := by
    rw [nd_at' hpi2] at hp; exact (Option.some.inj hp).symm
  refine ⟨⟨i, h1, hil⟩, ?_, ?_, ?_⟩
  · rw [h1, ifcI, plcI_nat, hpi2]
    rw [hpn] at hpi; exact hpi
  · rw [h1, extI_nat hk hil, ext_iff]; exact .inr hcl
  · rw [fndI, plcI_nat, hpi2] at h2
    simp only at h2
    rcases findH_range nm ds ps[i].c.ms 0 with e | ⟨j, x, e, hj, hn, hd⟩
    · rw [e, if_pos (by decide)] at h2
      have := congrArg Prod.snd h2
      simp at this
    · rw [e, if_neg (by omega)] at h2
      have hm2 : m.2 = (j : Int) := by have := congrArg Prod.fst h2; simp at this; omega
      have hme : methI ps m.1 m.2 = some x := by
        rw [methI, h1, hm2, plcI_nat, hpi2]
        show methP ps[i] (j : Int) = some x
        rw [methP, if_pos (Int.natCast_nonneg j)]; exact hj
      refine ⟨x, hme, hn, hd, ?_⟩
      rw [h1] at hme
      rw [hasS, hme] at h3
      exact h3
/-- those of them that are not abstract -/
def oneL (ps : List Plc) (l : List (Int × Int)) : List (Int × Int) := (maxL ps l).filter fun m => !hasS ps m.1 m.2 1024
def oneV (ps : List Plc) (l : List (Int × Int)) : (Int × Int) × Int := match oneL ps l with
  | [] => ((0, 0), 24)
  | [m] => (m, 0)
  | _ => ((0, 0), 23)


/-- is o another one's interface that extends m's? -/
def overP (ps : List Plc) (m o : Int × Int) : Bool := !(o.1 == m.1) && extI ps o.1 m.1
theorem overB_eq (ps : List Plc) (l : List (Int × Int)) (m : Int × Int) : overB ps l m = l.any (overP ps m) := rfl
set_option maxRecDepth 100000 in
set_option maxHeartbeats 1000000 in
theorem maxIn_c {b : Nat} {ps : List Plc} {W : World} (h : WAt b ps W) (hi : WI ps) (bm bw : Nat) (m o : Int × Int) (hm : W.cell? ⟨bm, 0, none⟩ = some (.int .i64 m.1)) (hw : W.cell? ⟨bw, 0, none⟩ = some (.pointer (some ⟨b, 0, none⟩))) : Calls Tryz.prog 108 (#[.agg #[.int .i64 o.1, .int .i64 o.2]] ++ #[.pointer (some ⟨bm, 0, none⟩), .pointer (some ⟨bw, 0, none⟩)]) W fun e w' => e = .returned (.bool (overP ps m o)) ∧ Below W.heap.size W w' := by
  show Calls Tryz.prog 108 #[.agg #[.int .i64 o.1, .int .i64 o.2], .pointer (some ⟨bm, 0, none⟩), .pointer (some ⟨bw, 0, none⟩)] W _
  have hlm : bm < W.heap.size := World.block_lt_of_cell? W _ hm
  have hlw : bw < W.heap.size := World.block_lt_of_cell? W _ hw
  have n1 : ¬ bm = W.heap.size := by omega
  have n2 : ¬ bw = W.heap.size := by omega
  have HE : Hid (∀ w, Below W.heap.size W w → Calls Tryz.prog 34 #[.pointer (some ⟨b, 0, none⟩), .int .i64 o.1, .int .i64 m.1] w fun e w' => e = .returned (.bool (extI ps o.1 m.1)) ∧ Below W.heap.size W w') := fun w hb => (extends_c (h.below hb) hi o.1 m.1).mono fun e w' zz => ⟨zz.1, bstep hb zz.2⟩
  have HR : Hid (overP ps m o = (!(o.1 == m.1) && extI ps o.1 m.1)) := rfl
  generalize overP ps m o = R at *
  generalize extI ps o.1 m.1 = E at *
  obtain ⟨o1, o2⟩ := o
  obtain ⟨m1, m2⟩ := m
  simp only at HE HR hm
  clear h hi
  by_cases hq : o1 = m1
  · have hR : R = false := by rw [HR.out, hq]; simp
    subst hR
    subst hq
    go_enter Tryz.func108, Tryz.ntmps108
    go_wp2
    exact bodyPost_ret (results_tmp rfl _ _ _) rfl ⟨rfl, (by repeat (first | exact Below.refl _ _ | refine Below.setCell ?_ (by simp; try omega) _ | refine Below.alloc ?_ (by simp; try omega) _ | refine Below.drew ?_))⟩
  · have hR : R = E := by
      have e : (o1 == m1) = false := by simpa using hq
      rw [HR.out, e]; simp
    subst hR
    clear HR
    have hne : (o1 != m1) = true := by simpa using hq
    go_enter Tryz.func108, Tryz.ntmps108
    go_wp2_with (go_at_call 34; refine (HE.out _ (by repeat (first | exact Below.refl _ _ | refine Below.setCell ?_ (by simp; try omega) _ | refine Below.alloc ?_ (by simp; try omega) _ | refine Below.drew ?_))).mono ?_; rintro e w1 ⟨rfl, hb⟩; have B1 : Hid (Below W.heap.size W w1) := hb; clear hb HE)
    exact bodyPost_ret (results_tmp rfl _ _ _) rfl ⟨rfl, B1.out⟩
theorem callMx (vs : Array Value) (w : World) : (callFunc 108 vs).run Tryz.prog w = .ok (.enter 108 vs) w := by simp [go_sem]
theorem callMy (vs : Array Value) (w : World) : (callFunc 106 vs).run Tryz.prog w = .ok (.enter 106 vs) w := by simp [go_sem]
set_option maxRecDepth 100000 in
set_option maxHeartbeats 1000000 in
theorem maxOver_c {b : Nat} {ps : List Plc} {W : World} (h : WAt b ps W) (hi : WI ps) (ba bw N : Nat) (v : Value) (l : List (Int × Int)) (m : Int × Int) (ho : W.ownsRow N 38 2 v l.length (flatD l)) (hn : l.length ≤ 1000000) (ha : W.cell? ⟨ba, 0, none⟩ = some v) (hw : W.cell? ⟨bw, 0, none⟩ = some (.pointer (some ⟨b, 0, none⟩))) : Calls Tryz.prog 106 (#[.agg #[.int .i64 m.1, .int .i64 m.2]] ++ #[.pointer (some ⟨ba, 0, none⟩), .pointer (some ⟨bw, 0, none⟩)]) W fun e w' => e = .returned (.bool (overB ps l m)) ∧ Below W.heap.size W w' := by
  show Calls Tryz.prog 106 #[.agg #[.int .i64 m.1, .int .i64 m.2], .pointer (some ⟨ba, 0, none⟩), .pointer (some ⟨bw, 0, none⟩)] W _
  have hla : ba < W.heap.size := World.block_lt_of_cell? W _ ha
  have hlw : bw < W.heap.size := World.block_lt_of_cell? W _ hw
  have n1 : ¬ ba = W.heap.size := by omega
  have HC : Hid (∀ w, w = W.alloc (.cells #[.int .i64 m.1, .int .i64 m.2] 38) → Calls Tryz.prog 107 #[v, .func (.func 108) #[] #[.pointer (some ⟨W.heap.size, 0, none⟩), .pointer (some ⟨bw, 0, none⟩)]] w fun e w' => e = .returned (.bool (overB ps l m)) ∧ Below w.heap.size w w') := by
    intro w hwe
    have hb0 : Below W.heap.size W w := by rw [hwe]; exact (Below.refl _ _).alloc (Nat.le_refl _) _
    refine conD_any 108 callMx _ (overP ps m) N l v w (rowBelow ho hb0) hn (fun o _ w2 hb => ?_)
    have c0 : w.cell? ⟨W.heap.size, 0, none⟩ = some (.int .i64 m.1) := by rw [hwe]; simp [go_sem]
    exact maxIn_c (h.below (bstep hb0 hb)) hi W.heap.size bw m o ((hb.cell (p := ⟨W.heap.size, 0, none⟩) (World.block_lt_of_cell? w _ c0)).trans c0) (((bstep hb0 hb).cell (p := ⟨bw, 0, none⟩) hlw).trans hw)
  generalize overB ps l m = R at *
  obtain ⟨va, vn, rfl⟩ := ownv ho
  clear h hi ho
  go_enter Tryz.func106, Tryz.ntmps106
  go_wp2_with (go_at_call 107; refine (HC.out _ rfl).mono ?_; rintro e w1 ⟨rfl, hb⟩; have B1 : Hid (Below W.heap.size W w1) := bstep (by repeat (first | exact Below.refl _ _ | refine Below.setCell ?_ (by simp; try omega) _ | refine Below.alloc ?_ (by simp; try omega) _ | refine Below.drew ?_)) hb; clear hb HC)
  exact bodyPost_ret (results_tmp rfl _ _ _) rfl ⟨rfl, B1.out⟩

theorem max_pred {b : Nat} {ps : List Plc} {W w1 w2 : World} {N : Nat} {va : Option Addr} {vn : Nat} {l : List (Int × Int)} (h : WAt b ps W) (hi : WI ps) (O1 : w1.ownsRow N 38 2 (.slice va l.length vn) l.length (flatD l)) (c0 : w1.cell? ⟨W.heap.size, 0, none⟩ = some (.pointer (some ⟨b, 0, none⟩))) (hn : l.length ≤ 1000000) (B1 : Below W.heap.size W w1) (B2 : Below (w1.heap.size + 1) (w1.alloc (.cells #[.slice va l.length vn] 53)) w2) : PredD 106 #[.pointer (some ⟨w1.heap.size, 0, none⟩), .pointer (some ⟨W.heap.size, 0, none⟩)] (overB ps l) l (w1.heap.size + 1) w2 := by
  intro m _ w hb
  have hU : Below (w1.alloc (.cells #[.slice va l.length vn] 53)).heap.size (w1.alloc (.cells #[.slice va l.length vn] 53)) w := by
    have := B2.trans hb
    simpa using this
  have hl : W.heap.size < w1.heap.size := World.block_lt_of_cell? w1 _ c0
  exact maxOver_c (h.below (bstep (B1.alloc B1.size _) hU)) hi w1.heap.size W.heap.size N _ l m (rowBelow (O1.alloc _) hU) hn ((hU.cell (p := ⟨w1.heap.size, 0, none⟩) (by simp)).trans (by simp [go_sem])) ((hU.cell (p := ⟨W.heap.size, 0, none⟩) (by simp; omega)).trans (Lib.cell?_alloc_some _ c0))
set_option maxRecDepth 100000 in
set_option maxHeartbeats 1000000 in
theorem max_yes {b : Nat} {ps : List Plc} {W : World} (h : WAt b ps W) (hi : WI ps) (k : Nat) (q : Plc) (hq : ps[k]? = some q) (nm ds : ByteArray) : Calls Tryz.prog 40 #[.pointer (some ⟨b, 0, none⟩), .int .i64 (k : Int), .string nm, .string ds] W fun e w' => (∃ v, e = .returned (.tuple #[v, .int .i64 0]) ∧ w'.ownsRow W.heap.size 38 2 v (maxL ps (candL ps nm ds q.cl)).length (flatD (maxL ps (candL ps nm ds q.cl)))) ∧ Below W.heap.size W w' := by
  have hKb : (candL ps nm ds q.cl).length ≤ 1000000 := by
    obtain ⟨N, mb, vp, pv, h⟩ := h
    have hwf := h.wf q (List.mem_of_getElem? hq)
    have := nodup_lt_len _ _ hwf.2 hwf.1
    have := candL_len ps nm ds q.cl
    have := hi.hi
    omega
  have HC : Hid (∀ w, Below W.heap.size W w → Calls Tryz.prog 37 #[.pointer (some ⟨b, 0, none⟩), .int .i64 (k : Int), .string nm, .string ds] w fun e w' => (∃ v, e = .returned (.tuple #[v, .int .i64 0]) ∧ w'.ownsRow w.heap.size 38 2 v (candL ps nm ds q.cl).length (flatD (candL ps nm ds q.cl))) ∧ Below w.heap.size w w') := fun w hb => cand_yes (h.below hb) hi.pb hi.hi k q hq nm ds
  have HW0 : Hid (WAt b ps W) := h
  have HWI : Hid (WI ps) := hi
  obtain ⟨l, hl⟩ : ∃ l, candL ps nm ds q.cl = l := ⟨_, rfl⟩
  rw [hl] at hKb HC ⊢
  have HKb : Hid (l.length ≤ 1000000) := hKb
  clear h hi hq hl
  have HCL : Hid (∀ (N : Nat) (v : Value) (w : World), w.ownsRow N 38 2 v l.length (flatD l) → Calls Tryz.prog 105 #[v] w fun e w' => ∃ v', e = .returned v' ∧ w'.ownsRow w.heap.size 38 2 v' l.length (flatD l) ∧ Below w.heap.size w w') := fun N v w ho => cloD_any N l v w ho hKb
  go_enter Tryz.func40, Tryz.ntmps40
  go_wp2_with (first
    | (go_at_call 37; refine (HC.out _ (by repeat (first | exact Below.refl _ _ | refine Below.setCell ?_ (by simp; try omega) _ | refine Below.alloc ?_ (by simp; try omega) _ | refine Below.drew ?_))).mono ?_; rintro e w1 ⟨⟨v, rfl, ho⟩, hb⟩; obtain ⟨va, vn, rfl⟩ := ownv ho; have O1 : Hid (w1.ownsRow (W.heap.size + 1) 38 2 (.slice va l.length vn) l.length (flatD l)) := Go.Joins.ownsRow_le ho (by simp); have c0 : w1.cell? ⟨W.heap.size, 0, none⟩ = some (.pointer (some ⟨b, 0, none⟩)) := (hb.cell (p := ⟨W.heap.size, 0, none⟩) (by simp)).trans (by simp [go_sem]); have hl1 : W.heap.size < w1.heap.size := World.block_lt_of_cell? w1 _ c0; have B1 : Hid (Below W.heap.size W w1) := bstep (by repeat (first | exact Below.refl _ _ | refine Below.setCell ?_ (by simp; try omega) _ | refine Below.alloc ?_ (by simp; try omega) _ | refine Below.drew ?_)) hb; clear hb HC ho)
    | (go_at_call 105; refine (HCL.out _ _ _ (O1.out.alloc _)).mono ?_; rintro e w2 ⟨v2, rfl, ho, hb⟩; obtain ⟨va2, vn2, rfl⟩ := ownv ho; have O2 : Hid (w2.ownsRow (w1.heap.size + 1) 38 2 (.slice va2 l.length vn2) l.length (flatD l)) := Go.Joins.ownsRow_le ho (by simp); have B2 : Hid (Below (w1.heap.size + 1) (w1.alloc (.cells #[.slice va l.length vn] 53)) w2) := hb.mono (by simp); clear hb HCL ho)
    | (go_at_call 104; have hpd := max_pred HW0.out HWI.out O1.out c0 HKb.out B1.out B2.out; refine (delD_any 106 callMy #[.pointer (some ⟨w1.heap.size, 0, none⟩), .pointer (some ⟨W.heap.size, 0, none⟩)] (overB ps l) (w1.heap.size + 1) l _ w2 O2.out (by have := B2.out.size; simpa using this) HKb.out hpd).mono ?_; rintro e w3 ⟨v3, rfl, ho, hb⟩; obtain ⟨va3, vn3, rfl⟩ := ownv ho; have O3 : Hid (w3.ownsRow (w1.heap.size + 1) 38 2 (.slice va3 (maxL ps l).length vn3) (maxL ps l).length (flatD (maxL ps l))) := ho; have B3 : Hid (Below (w1.heap.size + 1) w2 w3) := hb; clear hb ho hpd))
  refine bodyPost_ret (results_tmp2 rfl _ _ _) rfl ⟨⟨.slice va3 (maxL ps l).length vn3, rfl, Go.Joins.ownsRow_le O3.out (by omega)⟩, ?_⟩
  have hb3 := B2.out.trans B3.out
  exact (B1.out.alloc B1.out.size _).trans (hb3.mono (by omega))
set_option maxRecDepth 100000 in
theorem max_no {b : Nat} {ps : List Plc} {W : World} (h : WAt b ps W) (c : Int) (hc : plcI ps c = none) (nm ds : ByteArray) : Calls Tryz.prog 40 #[.pointer (some ⟨b, 0, none⟩), .int .i64 c, .string nm, .string ds] W fun e w' => e = .returned (.tuple #[.slice none 0 0, .int .i64 3]) ∧ Below W.heap.size W w' := by
  have HC : Hid (∀ w, Below W.heap.size W w → Calls Tryz.prog 37 #[.pointer (some ⟨b, 0, none⟩), .int .i64 c, .string nm, .string ds] w fun e w' => e = .returned (.tuple #[.slice none 0 0, .int .i64 3]) ∧ Below w.heap.size w w') := fun w hb => cand_no (h.below hb) c hc nm ds
  clear h hc
  go_enter Tryz.func40, Tryz.ntmps40
  go_wp2_with (go_at_call 37; refine (HC.out _ (by repeat (first | exact Below.refl _ _ | refine Below.setCell ?_ (by simp; try omega) _ | refine Below.alloc ?_ (by simp; try omega) _ | refine Below.drew ?_))).mono ?_; rintro e w1 ⟨rfl, hb⟩; have B1 : Hid (Below W.heap.size W w1) := bstep (by repeat (first | exact Below.refl _ _ | refine Below.setCell ?_ (by simp; try omega) _ | refine Below.alloc ?_ (by simp; try omega) _ | refine Below.drew ?_)) hb; clear hb HC)
  exact bodyPost_ret (results_tmp2 rfl _ _ _) rfl ⟨rfl, B1.out.alloc B1.out.size _⟩


theorem callMz (vs : Array Value) (w : World) : (callFunc 109 vs).run Tryz.prog w = .ok (.enter 109 vs) w := by simp [go_sem]
set_option maxRecDepth 100000 in
set_option maxHeartbeats 1000000 in
theorem oneIn_c {b : Nat} {ps : List Plc} {W : World} (h : WAt b ps W) (hi : WI ps) (bw : Nat) (m : Int × Int) (hw : W.cell? ⟨bw, 0, none⟩ = some (.pointer (some ⟨b, 0, none⟩))) : Calls Tryz.prog 109 (#[.agg #[.int .i64 m.1, .int .i64 m.2]] ++ #[.pointer (some ⟨bw, 0, none⟩)]) W fun e w' => e = .returned (.bool (hasS ps m.1 m.2 1024)) ∧ Below W.heap.size W w' := by
  show Calls Tryz.prog 109 #[.agg #[.int .i64 m.1, .int .i64 m.2], .pointer (some ⟨bw, 0, none⟩)] W _
  have hlw : bw < W.heap.size := World.block_lt_of_cell? W _ hw
  have n2 : ¬ bw = W.heap.size := by omega
  have HS : Hid (∀ w, Below W.heap.size W w → Calls Tryz.prog 101 #[.pointer (some ⟨b, 0, none⟩), .agg #[.int .i64 m.1, .int .i64 m.2], .int .i64 1024] w fun e w' => e = .returned (.bool (hasS ps m.1 m.2 1024)) ∧ Below W.heap.size W w') := fun w hb => (hasS_c (h.below hb) hi.pb m.1 m.2 1024).mono fun e w' zz => ⟨zz.1, bstep hb zz.2⟩
  generalize hasS ps m.1 m.2 1024 = R at *
  obtain ⟨m1, m2⟩ := m
  simp only at HS
  clear h hi
  go_enter Tryz.func109, Tryz.ntmps109
  go_wp2_with (go_at_call 101; refine (HS.out _ (by repeat (first | exact Below.refl _ _ | refine Below.setCell ?_ (by simp; try omega) _ | refine Below.alloc ?_ (by simp; try omega) _ | refine Below.drew ?_))).mono ?_; rintro e w1 ⟨rfl, hb⟩; have B1 : Hid (Below W.heap.size W w1) := hb; clear hb HS)
  exact bodyPost_ret (results_tmp rfl _ _ _) rfl ⟨rfl, B1.out⟩
theorem halloc2 (w : World) {n : Nat} (o : Obj) (hn : w.heap.size = n) : (w.alloc o).heap[n]? = some o := by subst hn; exact halloc1 w o
def idE (x : (Int × Int) × Int) : Value := .tuple #[.agg #[.int .i64 x.1.1, .int .i64 x.1.2], .int .i64 x.2]
set_option maxRecDepth 100000 in
set_option maxHeartbeats 1000000 in
theorem one_yes {b : Nat} {ps : List Plc} {W : World} (h : WAt b ps W) (hi : WI ps) (k : Nat) (q : Plc) (hq : ps[k]? = some q) (nm ds : ByteArray) : Calls Tryz.prog 42 #[.pointer (some ⟨b, 0, none⟩), .int .i64 (k : Int), .string nm, .string ds] W fun e w' => e = .returned (idE (oneV ps (candL ps nm ds q.cl))) ∧ Below W.heap.size W w' := by
  have hKb : (candL ps nm ds q.cl).length ≤ 1000000 := by
    obtain ⟨N, mb, vp, pv, h⟩ := h
    have hwf := h.wf q (List.mem_of_getElem? hq)
    have := nodup_lt_len _ _ hwf.2 hwf.1
    have := candL_len ps nm ds q.cl
    have := hi.hi
    omega
  have HC : Hid (∀ w, Below W.heap.size W w → Calls Tryz.prog 40 #[.pointer (some ⟨b, 0, none⟩), .int .i64 (k : Int), .string nm, .string ds] w fun e w' => (∃ v, e = .returned (.tuple #[v, .int .i64 0]) ∧ w'.ownsRow w.heap.size 38 2 v (maxL ps (candL ps nm ds q.cl)).length (flatD (maxL ps (candL ps nm ds q.cl)))) ∧ Below w.heap.size w w') := fun w hb => max_yes (h.below hb) hi k q hq nm ds
  have HW0 : Hid (WAt b ps W) := h
  have HWI : Hid (WI ps) := hi
  obtain ⟨l, hl⟩ : ∃ l, candL ps nm ds q.cl = l := ⟨_, rfl⟩
  rw [hl] at hKb HC ⊢
  have HMb : Hid ((maxL ps l).length ≤ 1000000) := Nat.le_trans (List.length_filter_le _ _) hKb
  have HOL : Hid ((maxL ps l).filter (fun m => !hasS ps m.1 m.2 1024) = oneL ps l) := rfl
  obtain ⟨R, hR⟩ : ∃ R, oneV ps l = R := ⟨_, rfl⟩
  have HR : Hid ((match oneL ps l with | [] => ((0, 0), 24) | [m] => (m, 0) | _ => ((0, 0), 23)) = R) := hR
  rw [hR]
  generalize oneL ps l = ol at *
  generalize maxL ps l = ml at *
  clear h hi hq hl hR
  have hpred : Hid (∀ (w1 w : World), Below (W.heap.size + 2) w1 w → Below W.heap.size W w1 → w1.cell? ⟨W.heap.size, 0, none⟩ = some (.pointer (some ⟨b, 0, none⟩)) → ∀ m : Int × Int, Calls Tryz.prog 109 (#[.agg #[.int .i64 m.1, .int .i64 m.2]] ++ #[.pointer (some ⟨W.heap.size, 0, none⟩)]) w fun e w' => e = .returned (.bool (hasS ps m.1 m.2 1024)) ∧ Below w.heap.size w w') := fun w1 w hb hb1 hc m => oneIn_c (HW0.out.below (hb1.trans (hb.mono (by omega)))) HWI.out W.heap.size m ((hb.cell (p := ⟨W.heap.size, 0, none⟩) (show W.heap.size < W.heap.size + 2 by omega)).trans hc)
  match ol with
  | [] =>
    have eR : R = ((0, 0), 24) := HR.out.symm
    subst eR
    clear HR
    go_enter Tryz.func42, Tryz.ntmps42
    go_wp2_with (first
      | (go_at_call 40; refine (HC.out _ (by repeat (first | exact Below.refl _ _ | refine Below.setCell ?_ (by simp; try omega) _ | refine Below.alloc ?_ (by simp; try omega) _ | refine Below.drew ?_))).mono ?_; rintro e w1 ⟨⟨v, rfl, ho⟩, hb⟩; obtain ⟨va, vn, rfl⟩ := ownv ho; have O1 : Hid (w1.ownsRow (W.heap.size + 2) 38 2 (.slice va ml.length vn) ml.length (flatD ml)) := Go.Joins.ownsRow_le ho (by simp); have c0 : w1.cell? ⟨W.heap.size, 0, none⟩ = some (.pointer (some ⟨b, 0, none⟩)) := (hb.cell (p := ⟨W.heap.size, 0, none⟩) (by simp; try omega)).trans (by simp [go_sem]); have d0 : w1.heap[W.heap.size + 1]? = some (.cells #[.int .i64 0, .int .i64 0] 38 (0, 0)) := (hb.block (W.heap.size + 1) (by simp)).trans (halloc2 _ _ (by simp)); have B1 : Hid (Below W.heap.size W w1) := bstep (by repeat (first | exact Below.refl _ _ | refine Below.setCell ?_ (by simp; try omega) _ | refine Below.alloc ?_ (by simp; try omega) _ | refine Below.drew ?_)) hb; have L1 : Hid (W.heap.size + 2 ≤ w1.heap.size) := Nat.le_trans (by simp) hb.size; clear hb HC ho)
      | (go_at_call 104; refine (delD_any 109 callMz #[.pointer (some ⟨W.heap.size, 0, none⟩)] (fun m => hasS ps m.1 m.2 1024) (W.heap.size + 2) ml _ w1 O1.out L1.out HMb.out (fun m _ w hb => hpred.out w1 w hb B1.out c0 m)).mono ?_; rintro e w3 ⟨v3, rfl, ho, hb⟩; rw [HOL.out] at ho; obtain ⟨va3, vn3, rfl⟩ := ownv ho; have d1 := (hb.block (W.heap.size + 1) (by omega)).trans d0; have z0 : w3.cell? ⟨W.heap.size + 1, 0, none⟩ = some (.int .i64 0) := (cell_of_row w3 (W.heap.size + 1) 0 _ _ _ d1).trans rfl; have z1 : w3.cell? ⟨W.heap.size + 1, 1, none⟩ = some (.int .i64 0) := (cell_of_row w3 (W.heap.size + 1) 1 _ _ _ d1).trans rfl; have f0 := frozen_of_row w3 (W.heap.size + 1) 0 _ _ d1; have f1 := frozen_of_row w3 (W.heap.size + 1) 1 _ _ d1; have B3 : Hid (Below W.heap.size W w3) := B1.out.trans (hb.mono (by omega)); clear hb ho d0 d1 c0))
    exact bodyPost_ret (v := idE ((0, 0), 24)) (by simp [results, Tryz.results42, go_sem, idE, *]) rfl ⟨rfl, (B3.out.setCell (by simp) _).setCell (by simp) _⟩
  | [m] =>
    have eR : R = (m, 0) := HR.out.symm
    subst eR
    clear HR
    have hlen : (List.length [m]) = 1 := rfl
    go_enter Tryz.func42, Tryz.ntmps42
    go_wp2_with (first
      | (go_at_call 40; refine (HC.out _ (by repeat (first | exact Below.refl _ _ | refine Below.setCell ?_ (by simp; try omega) _ | refine Below.alloc ?_ (by simp; try omega) _ | refine Below.drew ?_))).mono ?_; rintro e w1 ⟨⟨v, rfl, ho⟩, hb⟩; obtain ⟨va, vn, rfl⟩ := ownv ho; have O1 : Hid (w1.ownsRow (W.heap.size + 2) 38 2 (.slice va ml.length vn) ml.length (flatD ml)) := Go.Joins.ownsRow_le ho (by simp); have c0 : w1.cell? ⟨W.heap.size, 0, none⟩ = some (.pointer (some ⟨b, 0, none⟩)) := (hb.cell (p := ⟨W.heap.size, 0, none⟩) (by simp; try omega)).trans (by simp [go_sem]); have d0 : w1.heap[W.heap.size + 1]? = some (.cells #[.int .i64 0, .int .i64 0] 38 (0, 0)) := (hb.block (W.heap.size + 1) (by simp)).trans (halloc2 _ _ (by simp)); have B1 : Hid (Below W.heap.size W w1) := bstep (by repeat (first | exact Below.refl _ _ | refine Below.setCell ?_ (by simp; try omega) _ | refine Below.alloc ?_ (by simp; try omega) _ | refine Below.drew ?_)) hb; have L1 : Hid (W.heap.size + 2 ≤ w1.heap.size) := Nat.le_trans (by simp) hb.size; clear hb HC ho)
      | (go_at_call 104; refine (delD_any 109 callMz #[.pointer (some ⟨W.heap.size, 0, none⟩)] (fun m => hasS ps m.1 m.2 1024) (W.heap.size + 2) ml _ w1 O1.out L1.out HMb.out (fun m _ w hb => hpred.out w1 w hb B1.out c0 m)).mono ?_; rintro e w3 ⟨v3, rfl, ho, hb⟩; rw [HOL.out] at ho; obtain ⟨g3, vn3, rfl⟩ := Go.Joins.ownsRow_form ho (by simp); obtain ⟨r0, r1, _⟩ := rowD_cells (l := [m]) ho (i := 0) rfl; simp only [Nat.zero_mul, Nat.zero_add] at r0 r1; have hg3 : ¬ g3 = W.heap.size + 1 := (by have := (ho.lt g3 rfl).1; omega); have d1 := (hb.block (W.heap.size + 1) (by omega)).trans d0; have z0 : w3.cell? ⟨W.heap.size + 1, 0, none⟩ = some (.int .i64 0) := (cell_of_row w3 (W.heap.size + 1) 0 _ _ _ d1).trans rfl; have z1 : w3.cell? ⟨W.heap.size + 1, 1, none⟩ = some (.int .i64 0) := (cell_of_row w3 (W.heap.size + 1) 1 _ _ _ d1).trans rfl; have f0 := frozen_of_row w3 (W.heap.size + 1) 0 _ _ d1; have f1 := frozen_of_row w3 (W.heap.size + 1) 1 _ _ d1; have B3 : Hid (Below W.heap.size W w3) := B1.out.trans (hb.mono (by omega)); clear hb ho d0 d1 c0))
    exact bodyPost_ret (v := idE (m, 0)) (by simp [results, Tryz.results42, go_sem, idE, *]) rfl ⟨rfl, (B3.out.setCell (by simp) _).setCell (by simp) _⟩
  | m :: m' :: r =>
    have eR : R = ((0, 0), 23) := HR.out.symm
    subst eR
    clear HR
    have hl2 : (m :: m' :: r).length = r.length + 2 := rfl
    generalize (m :: m' :: r) = ol at *
    have n1 : ¬ (ol.length : Int) = 0 := by omega
    have n2 : ¬ (ol.length : Int) = 1 := by omega
    clear hl2
    go_enter Tryz.func42, Tryz.ntmps42
    go_wp2_with (first
      | (go_at_call 40; refine (HC.out _ (by repeat (first | exact Below.refl _ _ | refine Below.setCell ?_ (by simp; try omega) _ | refine Below.alloc ?_ (by simp; try omega) _ | refine Below.drew ?_))).mono ?_; rintro e w1 ⟨⟨v, rfl, ho⟩, hb⟩; obtain ⟨va, vn, rfl⟩ := ownv ho; have O1 : Hid (w1.ownsRow (W.heap.size + 2) 38 2 (.slice va ml.length vn) ml.length (flatD ml)) := Go.Joins.ownsRow_le ho (by simp); have c0 : w1.cell? ⟨W.heap.size, 0, none⟩ = some (.pointer (some ⟨b, 0, none⟩)) := (hb.cell (p := ⟨W.heap.size, 0, none⟩) (by simp; try omega)).trans (by simp [go_sem]); have d0 : w1.heap[W.heap.size + 1]? = some (.cells #[.int .i64 0, .int .i64 0] 38 (0, 0)) := (hb.block (W.heap.size + 1) (by simp)).trans (halloc2 _ _ (by simp)); have B1 : Hid (Below W.heap.size W w1) := bstep (by repeat (first | exact Below.refl _ _ | refine Below.setCell ?_ (by simp; try omega) _ | refine Below.alloc ?_ (by simp; try omega) _ | refine Below.drew ?_)) hb; have L1 : Hid (W.heap.size + 2 ≤ w1.heap.size) := Nat.le_trans (by simp) hb.size; clear hb HC ho)
      | (go_at_call 104; refine (delD_any 109 callMz #[.pointer (some ⟨W.heap.size, 0, none⟩)] (fun m => hasS ps m.1 m.2 1024) (W.heap.size + 2) ml _ w1 O1.out L1.out HMb.out (fun m _ w hb => hpred.out w1 w hb B1.out c0 m)).mono ?_; rintro e w3 ⟨v3, rfl, ho, hb⟩; rw [HOL.out] at ho; obtain ⟨va3, vn3, rfl⟩ := ownv ho; have d1 := (hb.block (W.heap.size + 1) (by omega)).trans d0; have z0 : w3.cell? ⟨W.heap.size + 1, 0, none⟩ = some (.int .i64 0) := (cell_of_row w3 (W.heap.size + 1) 0 _ _ _ d1).trans rfl; have z1 : w3.cell? ⟨W.heap.size + 1, 1, none⟩ = some (.int .i64 0) := (cell_of_row w3 (W.heap.size + 1) 1 _ _ _ d1).trans rfl; have f0 := frozen_of_row w3 (W.heap.size + 1) 0 _ _ d1; have f1 := frozen_of_row w3 (W.heap.size + 1) 1 _ _ d1; have B3 : Hid (Below W.heap.size W w3) := B1.out.trans (hb.mono (by omega)); clear hb ho d0 d1 c0))
    exact bodyPost_ret (v := idE ((0, 0), 23)) (by simp [results, Tryz.results42, go_sem, idE, *]) rfl ⟨rfl, (B3.out.setCell (by simp) _).setCell (by simp) _⟩
set_option maxRecDepth 100000 in
theorem one_no {b : Nat} {ps : List Plc} {W : World} (h : WAt b ps W) (c : Int) (hc : plcI ps c = none) (nm ds : ByteArray) : Calls Tryz.prog 42 #[.pointer (some ⟨b, 0, none⟩), .int .i64 c, .string nm, .string ds] W fun e w' => e = .returned (idE ((0, 0), 3)) ∧ Below W.heap.size W w' := by
  have HC : Hid (∀ w, Below W.heap.size W w → Calls Tryz.prog 40 #[.pointer (some ⟨b, 0, none⟩), .int .i64 c, .string nm, .string ds] w fun e w' => e = .returned (.tuple #[.slice none 0 0, .int .i64 3]) ∧ Below w.heap.size w w') := fun w hb => max_no (h.below hb) c hc nm ds
  clear h hc
  go_enter Tryz.func42, Tryz.ntmps42
  go_wp2_with (go_at_call 40; refine (HC.out _ (by repeat (first | exact Below.refl _ _ | refine Below.setCell ?_ (by simp; try omega) _ | refine Below.alloc ?_ (by simp; try omega) _ | refine Below.drew ?_))).mono ?_; rintro e w3 ⟨rfl, hb⟩; have d1 : w3.heap[W.heap.size + 1]? = some (.cells #[.int .i64 0, .int .i64 0] 38 (0, 0)) := (hb.block (W.heap.size + 1) (by simp)).trans (halloc2 _ _ (by simp)); have z0 : w3.cell? ⟨W.heap.size + 1, 0, none⟩ = some (.int .i64 0) := (cell_of_row w3 (W.heap.size + 1) 0 _ _ _ d1).trans rfl; have z1 : w3.cell? ⟨W.heap.size + 1, 1, none⟩ = some (.int .i64 0) := (cell_of_row w3 (W.heap.size + 1) 1 _ _ _ d1).trans rfl; have f0 := frozen_of_row w3 (W.heap.size + 1) 0 _ _ d1; have f1 := frozen_of_row w3 (W.heap.size + 1) 1 _ _ d1; have B3 : Hid (Below W.heap.size W w3) := bstep (by repeat (first | exact Below.refl _ _ | refine Below.setCell ?_ (by simp; try omega) _ | refine Below.alloc ?_ (by simp; try omega) _ | refine Below.drew ?_)) hb; clear hb d1 HC)
  exact bodyPost_ret (v := idE ((0, 0), 3)) (by simp [results, Tryz.results42, go_sem, idE, *]) rfl ⟨rfl, (B3.out.setCell (by simp) _).setCell (by simp) _⟩
/-- the first, or none -/
def someV : List (Int × Int) → (Int × Int) × Int
  | [] => ((0, 0), 6)
  | m :: _ => (m, 0)
set_option maxRecDepth 100000 in
set_option maxHeartbeats 1000000 in
theorem some_yes {b : Nat} {ps : List Plc} {W : World} (h : WAt b ps W) (hi : WI ps) (k : Nat) (q : Plc) (hq : ps[k]? = some q) (nm ds : ByteArray) : Calls Tryz.prog 44 #[.pointer (some ⟨b, 0, none⟩), .int .i64 (k : Int), .string nm, .string ds] W fun e w' => e = .returned (idE (someV (candL ps nm ds q.cl))) ∧ Below W.heap.size W w' := by
  have HC : Hid (∀ w, Below W.heap.size W w → Calls Tryz.prog 37 #[.pointer (some ⟨b, 0, none⟩), .int .i64 (k : Int), .string nm, .string ds] w fun e w' => (∃ v, e = .returned (.tuple #[v, .int .i64 0]) ∧ w'.ownsRow w.heap.size 38 2 v (candL ps nm ds q.cl).length (flatD (candL ps nm ds q.cl))) ∧ Below w.heap.size w w') := fun w hb => cand_yes (h.below hb) hi.pb hi.hi k q hq nm ds
  generalize candL ps nm ds q.cl = l at *
  clear h hi hq
  match l with
  | [] =>
    rw [someV]
    go_enter Tryz.func44, Tryz.ntmps44
    go_wp2_with (go_at_call 37; refine (HC.out _ (by repeat (first | exact Below.refl _ _ | refine Below.setCell ?_ (by simp; try omega) _ | refine Below.alloc ?_ (by simp; try omega) _ | refine Below.drew ?_))).mono ?_; rintro e w3 ⟨⟨v, rfl, ho⟩, hb⟩; obtain ⟨va3, vn3, rfl⟩ := ownv ho; have d1 : w3.heap[W.heap.size]? = some (.cells #[.int .i64 0, .int .i64 0] 38 (0, 0)) := (hb.block W.heap.size (by simp)).trans (halloc2 _ _ rfl); have z0 : w3.cell? ⟨W.heap.size, 0, none⟩ = some (.int .i64 0) := (cell_of_row w3 W.heap.size 0 _ _ _ d1).trans rfl; have z1 : w3.cell? ⟨W.heap.size, 1, none⟩ = some (.int .i64 0) := (cell_of_row w3 W.heap.size 1 _ _ _ d1).trans rfl; have f0 := frozen_of_row w3 W.heap.size 0 _ _ d1; have f1 := frozen_of_row w3 W.heap.size 1 _ _ d1; have B3 : Hid (Below W.heap.size W w3) := bstep (by repeat (first | exact Below.refl _ _ | refine Below.setCell ?_ (by simp; try omega) _ | refine Below.alloc ?_ (by simp; try omega) _ | refine Below.drew ?_)) hb; clear hb d1 HC ho)
    exact bodyPost_ret (v := idE ((0, 0), 6)) (by simp [results, Tryz.results44, go_sem, idE, *]) rfl ⟨rfl, (B3.out.setCell (by simp) _).setCell (by simp) _⟩
  | m :: r =>
    rw [someV]
    have hl2 : (m :: r).length = r.length + 1 := rfl
    have hat : Hid ((m :: r)[0]? = some m) := rfl
    generalize (m :: r) = l at *
    have n1 : ¬ (l.length : Int) = 0 := by omega
    have n2 : (0 : Int) < (l.length : Int) := by omega
    have n3 : Hid (0 < l.length) := by rw [Hid, hl2]; omega
    clear hl2
    go_enter Tryz.func44, Tryz.ntmps44
    go_wp2_with (go_at_call 37; refine (HC.out _ (by repeat (first | exact Below.refl _ _ | refine Below.setCell ?_ (by simp; try omega) _ | refine Below.alloc ?_ (by simp; try omega) _ | refine Below.drew ?_))).mono ?_; rintro e w3 ⟨⟨v, rfl, ho⟩, hb⟩; obtain ⟨g3, vn3, rfl⟩ := Go.Joins.ownsRow_form ho n3.out; obtain ⟨r0, r1, _⟩ := rowD_cells ho hat.out; simp only [Nat.zero_mul, Nat.zero_add] at r0 r1; have hg3 : ¬ g3 = W.heap.size := (by have := (ho.lt g3 rfl).1; simp at this; omega); have d1 : w3.heap[W.heap.size]? = some (.cells #[.int .i64 0, .int .i64 0] 38 (0, 0)) := (hb.block W.heap.size (by simp)).trans (halloc2 _ _ rfl); have z0 : w3.cell? ⟨W.heap.size, 0, none⟩ = some (.int .i64 0) := (cell_of_row w3 W.heap.size 0 _ _ _ d1).trans rfl; have z1 : w3.cell? ⟨W.heap.size, 1, none⟩ = some (.int .i64 0) := (cell_of_row w3 W.heap.size 1 _ _ _ d1).trans rfl; have f0 := frozen_of_row w3 W.heap.size 0 _ _ d1; have f1 := frozen_of_row w3 W.heap.size 1 _ _ d1; have B3 : Hid (Below W.heap.size W w3) := bstep (by repeat (first | exact Below.refl _ _ | refine Below.setCell ?_ (by simp; try omega) _ | refine Below.alloc ?_ (by simp; try omega) _ | refine Below.drew ?_)) hb; clear hb d1 HC ho)
    exact bodyPost_ret (v := idE (m, 0)) (by simp [results, Tryz.results44, go_sem, idE, *]) rfl ⟨rfl, (B3.out.setCell (by simp) _).setCell (by simp) _⟩


theorem filt_take {p : Int × Int → Bool} {A : List (Int × Int)} {i : Nat} {x : Int × Int} (h : A[i]? = some x) : (A.take (i + 1)).filter p = (A.take i).filter p ++ if p x then [x] else [] := by
  rw [List.take_add_one, h, List.filter_append]
  congr 1
  simp [List.filter]
  cases p x <;> rfl
theorem any_take {p : Int × Int → Bool} {A : List (Int × Int)} {i : Nat} {x : Int × Int} (h : A[i]? = some x) : (A.take (i + 1)).any p = ((A.take i).any p || p x) := by
  rw [List.take_add_one, h, List.any_append]
  simp
theorem filt_len {p : Int × Int → Bool} {A : List (Int × Int)} (i : Nat) : ((A.take i).filter p).length ≤ A.length := Nat.le_trans (List.length_filter_le _ _) (by rw [List.length_take]; omega)
set_option maxRecDepth 100000 in
set_option maxHeartbeats 4000000 in
theorem rMax_any {b : Nat} {cs : List Cls} {ps : List Plc} {W : World} (h : RAt b cs W) (ht : TwW cs ps) (hJ : WJ ps) (c E : Int) (nm ds : ByteArray) (A : List (Int × Int)) (hA : A.length ≤ 300)
    (hC : ∀ w, Below W.heap.size W w → Calls Tryz.prog 38 #[.pointer (some ⟨b, 0, none⟩), .int .i64 c, .string nm, .string ds] w fun e w' => (∃ v, e = .returned (.tuple #[v, .int .i64 E]) ∧ w'.ownsRow w.heap.size 38 2 v A.length (flatD A)) ∧ Below w.heap.size w w') :
    Calls Tryz.prog 41 #[.pointer (some ⟨b, 0, none⟩), .int .i64 c, .string nm, .string ds] W fun e w' => (∃ v, e = .returned (.tuple #[v, .int .i64 E]) ∧ w'.ownsRow W.heap.size 38 2 v (maxL ps A).length (flatD (maxL ps A))) ∧ Below W.heap.size W w' := by
  obtain ⟨i0, hi0, hz0, hz1, hz2⟩ := info_parts Tryz.hinfoD
  have HW0 : Hid (RAt b cs W) := h
  have HTW : Hid (TwW cs ps) := ht
  have HWJ : Hid (WJ ps) := hJ
  obtain ⟨K, hK⟩ : ∃ K, A.length = K := ⟨_, rfl⟩
  have HK : Hid (A.length = K) := hK
  have HC : Hid (∀ w, Below W.heap.size W w → Calls Tryz.prog 38 #[.pointer (some ⟨b, 0, none⟩), .int .i64 c, .string nm, .string ds] w fun e w' => (∃ v, e = .returned (.tuple #[v, .int .i64 E]) ∧ w'.ownsRow w.heap.size 38 2 v A.length (flatD A)) ∧ Below w.heap.size w w') := hC
  have HML : Hid (maxL ps A = A.filter fun m => !overB ps A m) := rfl
  rw [hK] at hA
  clear h ht hJ hK hC
  go_enter Tryz.func41, Tryz.ntmps41
  go_wp2_with (first
    | (go_at_call 38; refine (HC.out _ (Below.refl _ _)).mono ?_; rintro e w1 ⟨⟨v, rfl, ho⟩, hb⟩; rw [HK.out] at ho; obtain ⟨ca, cc, rfl⟩ := ownv ho; have O1 : Hid (w1.ownsRow W.heap.size 38 2 (.slice ca K cc) K (flatD A)) := ho; have B1 : Hid (Below W.heap.size W w1) := hb; have HW1 : Hid (RAt b cs w1) := HW0.out.below hb; clear ho hb HC))
  go_loopw [12, 13] (fun sv kv wr => ∃ (i : Nat), kv = .int .i64 i ∧ i ≤ K ∧ Hid (wr.ownsRow w1.heap.size 38 2 sv ((A.take i).filter fun m => !overB ps A m).length (flatD ((A.take i).filter fun m => !overB ps A m))) ∧ Hid (Below w1.heap.size w1 wr)) (fun _ kv _ => K - (intOf kv).toNat)
  case atStart => exact ⟨0, rfl, Nat.zero_le _, World.ownsRow_nil _ _ _ _, Below.refl _ _⟩
  case round =>
    obtain ⟨i, rfl, hi, hO, hB⟩ := hrel
    by_cases hlt : i < K
    · have hiA : i < A.length := by rw [HK.out]; exact hlt
      obtain ⟨x, hx⟩ : ∃ x, A[i]? = some x := ⟨_, List.getElem?_eq_getElem hiA⟩
      have hst := filt_take (p := fun m => !overB ps A m) hx
      have hal : ((A.take i).filter fun m => !overB ps A m).length ≤ 300 := Nat.le_trans (filt_len i) (by rw [HK.out]; exact hA)
      obtain ⟨g, c2, hform⟩ := Go.Joins.ownsRow_form O1.out (by omega)
      have HROW : Hid (w1.ownsRow W.heap.size 38 2 (.slice (some ⟨g, 0, none⟩) A.length cc) A.length (flatD A)) := by
        have hrow := O1.out
        injection hform with hca _ _
        rw [Hid, HK.out, ← hca]; exact hrow
      injection hform with hca _ hcc
      subst hca
      obtain ⟨e0, e1, hgl⟩ := rowD_cells HROW.out hx
      have hgr : g < wr.heap.size := Nat.lt_of_lt_of_le hgl hB.out.size
      replace e0 := (hB.out.cell (p := ⟨g, i * 2, none⟩) hgl).trans e0
      replace e1 := (hB.out.cell (p := ⟨g, i * 2 + 1, none⟩) hgl).trans e1
      obtain ⟨L, hL⟩ : ∃ L, ((A.take i).filter fun m => !overB ps A m) = L := ⟨_, rfl⟩
      rw [hL] at hst hal hO
      obtain ⟨va, vn, rfl⟩ := ownv hO.out
      have HRr : Hid (RAt b cs wr) := HW1.out.below hB.out
      have HST : Hid (List.filter (fun m => !overB ps A m) (List.take (i + 1) A) = L ++ if !overB ps A x then [x] else []) := hst
      have HOV : Hid (overB ps A x = A.any (overP ps x)) := overB_eq ps A x
      obtain ⟨x1, x2⟩ := x
      have HXI : Hid (A[i]? = some (x1, x2)) := hx
      simp only at e0 e1
      clear hst hL hx hiA hcc
      obtain ⟨wo, hwo⟩ : ∃ x, x = wr := ⟨_, rfl⟩
      subst hwo
      go_wp2
      obtain ⟨σ, V, hne, V1, V2⟩ := class_of' (fun w' => Below wo.heap.size wo w') ⟨_, Below.refl _ _⟩
      have kp : ∀ (s : σ) (bb j : Nat) (v : Value), bb < wo.heap.size → wo.cell? ⟨bb, j, none⟩ = some v → (V s).cell? ⟨bb, j, none⟩ = some v := fun s bb j v hl h => ((V1.out s).cell (p := ⟨bb, j, none⟩) hl).trans h
      have KP : Hid _ := kp
      have e0s := fun s => kp s _ _ _ hgr e0
      clear kp
      have hiI : (i : Int) < (K : Int) := by omega
      go_loopw [14, 15] (fun lv jv wr => ∃ (j : Nat), jv = .int .i64 j ∧ j ≤ K ∧ lv = .bool (!((A.take j).any (overP ps (x1, x2)))) ∧ Hid (Below wo.heap.size wo wr)) (fun _ jv _ => K - (intOf jv).toNat)
      case atStart => exact ⟨0, rfl, Nat.zero_le _, rfl, Below.refl _ _⟩
      case round =>
        obtain ⟨j, rfl, hj, rfl, hB2⟩ := hrel
        by_cases hlj : j < K
        · have hjA : j < A.length := by rw [HK.out]; exact hlj
          obtain ⟨y, hy⟩ : ∃ y, A[j]? = some y := ⟨_, List.getElem?_eq_getElem hjA⟩
          obtain ⟨d0, _, _⟩ := rowD_cells HROW.out hy
          replace d0 := (hB.out.cell (p := ⟨g, j * 2, none⟩) hgl).trans d0
          have d0s := fun s => KP.out s _ _ _ hgr d0
          have hat := any_take (p := overP ps (x1, x2)) hy
          obtain ⟨y1, y2⟩ := y
          have HAT : Hid (List.any (List.take (j + 1) A) (overP ps (x1, x2)) = (List.any (List.take j A) (overP ps (x1, x2)) || (!(y1 == x1) && extI ps y1 x1))) := hat
          generalize List.any (List.take j A) (overP ps (x1, x2)) = z at *
          have hjI : (j : Int) < (K : Int) := by omega
          simp only at d0s
          have HE : Hid (∀ s, Calls Tryz.prog 84 #[.pointer (some ⟨b, 0, none⟩), .int .i64 y1, .int .i64 x1] (V s) fun e w'' => e = .returned (.bool (extI ps y1 x1)) ∧ ∃ s', w'' = V s') := fun s => (rExtends_c (HRr.out.below (V1.out s)) HTW.out HWJ.out y1 x1).mono fun e w'' zz => ⟨zz.1, V2.out _ (bstep (V1.out s) zz.2)⟩
          generalize extI ps y1 x1 = ex at *
          clear hy hjA hat d0 HST HOV HXI hO O1 e0 e1
          by_cases hxy : y1 = x1
          · subst hxy
            have hnn : (y1 != y1) = false := by simp
            have HNX : Hid (List.any (List.take (j + 1) A) (overP ps (y1, x2)) = z) := by rw [Hid, HAT.out]; simp
            clear HAT
            go_wp2
            refine wp_region_class (C := fun w' => ∃ s, w' = V s) (by kernel_rfl) (by kernel_rfl) (V2.out _ (hB2.out.drew)) ?_
            repeat (go_big_quiet_step ((go_at_call 0; skip)))
            refine wpQuiet_nil ?_
            intro w9 hw9
            obtain ⟨s9, rfl⟩ := hw9
            have B9 : Hid (Below wo.heap.size wo (V s9)) := V1.out s9
            go_wp2
            go_roundw
            case rel => exact ⟨j + 1, by go_num, by omega, by rw [HNX.out], B9⟩
            case measure => simp [intOf]; omega
          · have hnn : (y1 != x1) = true := by simpa using hxy
            have HNX : Hid (List.any (List.take (j + 1) A) (overP ps (x1, x2)) = (z || ex)) := by rw [Hid, HAT.out, beq_false_of_ne hxy]; simp
            clear HAT hxy
            cases ex
            all_goals
              go_wp2
              refine wp_region_class (C := fun w' => ∃ s, w' = V s) (by kernel_rfl) (by kernel_rfl) (V2.out _ (hB2.out.drew)) ?_
              repeat (go_big_quiet_step ((go_at_call 84; exact HE.out _)))
              refine wpQuiet_nil ?_
              intro w9 hw9
              obtain ⟨s9, rfl⟩ := hw9
              have B9 : Hid (Below wo.heap.size wo (V s9)) := V1.out s9
              go_wp2
              go_roundw
              case rel => exact ⟨j + 1, by go_num, by omega, by rw [HNX.out]; simp, B9⟩
              case measure => simp [intOf]; omega
        · have e : j = K := by omega
          subst e
          have HAL : Hid (List.any (List.take j A) (overP ps (x1, x2)) = overB ps A (x1, x2)) := by rw [Hid, HOV.out, List.take_of_length_le (by rw [HK.out]; exact Nat.le_refl _)]
          rw [HAL.out]
          have f0 := (hB2.out.cell (p := ⟨g, i * 2, none⟩) hgr).trans e0
          have f1 := (hB2.out.cell (p := ⟨g, i * 2 + 1, none⟩) hgr).trans e1
          have O2 : Hid (wr.ownsRow w1.heap.size 38 2 (.slice va L.length vn) L.length (flatD L)) := rowBelow hO.out hB2.out
          have B2 : Hid (Below w1.heap.size w1 wr) := bstep hB.out hB2.out
          have hgw : g < wr.heap.size := Nat.lt_of_lt_of_le hgr hB2.out.size
          have hgn : ¬ g = wr.heap.size := by omega
          clear HAL HOV e0 e1 e0s hO KP V1 V2 hB hB2
          generalize overB ps A (x1, x2) = ov at *
          cases ov with
          | true =>
            have hst2 : List.filter (fun m => !overB ps A m) (List.take (i + 1) A) = L := by rw [HST.out]; simp
            clear HST
            go_wp2
            refine ⟨⟨i + 1, by simp, by omega, ?_, B2⟩, by simp [intOf]; omega⟩
            rw [hst2]; exact O2
          | false =>
            have hst2 : List.filter (fun m => !overB ps A m) (List.take (i + 1) A) = L ++ [(x1, x2)] := by rw [HST.out]; simp
            clear HST
            go_wp2_with (first
              | (at_builtin; refine wpList_append_own _ rfl _ _ 53 rfl w1.heap.size 38 i0 (.agg #[.int .i64 0, .int .i64 0]) 2 16 Tryz.underlying53 hi0 hz0 hz1 hz2 rfl (by decide) (.slice va L.length vn) L.length (flatD L) rfl (O2.out.alloc _) ⟨wr.heap.size, 0, none⟩ 1 1 [.int .i64 x1, .int .i64 x2] rfl rfl ?c1 ?c2 ?c3 ?c4 ?c5 ?_))
            case c1 => intro jj u hj; rw [addr_add]; match jj, hj with
              | 0, hj => simp at hj; subst hj; simp [go_sem]
              | 1, hj => simp at hj; subst hj; simp [go_sem]
              | (jj + 2), hj => simp at hj
            case c2 => intro u hu; simp at hu; rcases hu with rfl | rfl <;> rfl
            case c3 => unfold maxLen; omega
            case c4 => omega
            case c5 => have := B2.out.size; simp; omega
            intro v' w4 hown hgrow _
            obtain ⟨va2, vn2, rfl⟩ := ownv hown
            have B4 : Hid (Below w1.heap.size w1 w4) := by
              have hb1 : Below w1.heap.size w1 (wr.alloc (.cells #[.int .i64 x1, .int .i64 x2] 38)) := B2.out.alloc B2.out.size _
              refine hb1.grown hgrow hb1.size (fun x hx => ?_)
              have := (O2.out.lt x hx).1
              omega
            have O4 : Hid (w4.ownsRow w1.heap.size 38 2 (.slice va2 (L.length + 1) vn2) (L ++ [(x1, x2)]).length (flatD (L ++ [(x1, x2)]))) := by
              rw [Hid, List.length_append, flatD_app]; exact hown
            go_wp2
            refine ⟨⟨i + 1, by simp, by omega, ?_, B4⟩, by simp [intOf]; omega⟩
            rw [hst2]; exact O4
    · have e : i = K := by omega
      subst e
      have HE : Hid (((A.take i).filter fun m => !overB ps A m) = maxL ps A) := by rw [Hid, HML.out, List.take_of_length_le (by rw [HK.out]; exact Nat.le_refl _)]
      rw [HE.out] at hO
      obtain ⟨va, vn, rfl⟩ := ownv hO.out
      go_wp2
      exact bodyPost_ret (results_tmp2 rfl _ _ _) rfl ⟨⟨_, rfl, Go.Joins.ownsRow_le hO.out B1.out.size⟩, B1.out.trans (hB.out.mono B1.out.size)⟩


theorem hkeep {w : World} {n : Nat} {x o : Obj} (h : w.heap[n]? = some x) : (w.alloc o).heap[n]? = some x := by
  have hb : Below w.heap.size w (w.alloc o) := (Below.refl _ w).alloc (Nat.le_refl _) _
  exact (hb.block n (Array.getElem?_eq_some_iff.1 h).1).trans h


set_option maxRecDepth 100000 in
set_option maxHeartbeats 4000000 in
theorem built10_c (v : Value) (l : List Cls) (W : World) (h : IsClss W v l) : Calls Tryz.prog 36 #[v] W fun e w' => (∃ b, e = .returned (.pointer (some ⟨b, 0, none⟩)) ∧ WAt b (wld l) w') ∧ Below W.heap.size W w' := by
  have hCW := clss_w h
  obtain ⟨ao, cap, rfl, h1, h2, h3⟩ := h
  unfold maxLen at h2
  obtain ⟨L, hL⟩ : ∃ L, l.length = L := ⟨_, rfl⟩
  have HL : Hid (l.length = L) := hL
  have HI : Hid _ := h3
  have HCW : Hid (∀ c ∈ l, ClsW c) := hCW
  rw [hL] at h1 ⊢
  clear hL h3 hCW
  have HN : Hid (∀ w : World, Calls Tryz.prog 66 #[] w fun e w' => e = .returned (.pointer (some ⟨w.heap.size + 1, 0, none⟩)) ∧ (∃ vp pv, HW w' w.heap.size (w.heap.size + 1) w.heap.size P3 vp pv) ∧ Below w.heap.size w w') := new_any
  go_enter Tryz.func36, Tryz.ntmps36
  go_wp2_with (first
    | (go_at_call 66; refine (HN.out _).mono ?_; rintro e w2 ⟨rfl, hw, hb⟩; have H2 : Hid (∃ vp pv, HW w2 W.heap.size (W.heap.size + 1) W.heap.size P3 vp pv) := hw; have B2 : Hid (Below W.heap.size W w2) := hb; clear hb hw HN))
  go_loopw [4] (fun iv wr => ∃ (i : Nat), iv = .int .i64 i ∧ i ≤ L ∧ Hid (∃ vp pv, HW wr W.heap.size (W.heap.size + 1) W.heap.size (wld (l.take i)) vp pv) ∧ Hid (Below W.heap.size W wr)) (fun iv _ => L - (intOf iv).toNat)
  case atStart => exact ⟨0, rfl, Nat.zero_le _, H2, B2⟩
  case round =>
    clear H2 B2
    obtain ⟨i, rfl, hi, hHW, hB⟩ := hrel
    by_cases hlt : i < L
    · obtain ⟨c, hc⟩ : ∃ c, l[i]? = some c := ⟨_, List.getElem?_eq_getElem (by rw [HL.out]; exact hlt)⟩
      obtain ⟨bk, o, rfl, hbk, hcl⟩ := HI.out (fun e => by rw [e] at hc; simp at hc)
      obtain ⟨vi, vm, hcell, hin⟩ := hcl i c hc
      have bel : Below W.heap.size W wr := hB.out
      have p0 : wr.cell? ⟨bk, o + i * 6, none⟩ = some (.string c.nm) := (bel.cell (p := ⟨bk, o + i * 6, none⟩) hbk).trans (hcell 0 _ rfl)
      have p1 : wr.cell? ⟨bk, o + i * 6 + 1, none⟩ = some (.string c.su) := (bel.cell (p := ⟨bk, o + i * 6 + 1, none⟩) hbk).trans (hcell 1 _ rfl)
      have p2 : wr.cell? ⟨bk, o + i * 6 + 2, none⟩ = some vi := (bel.cell (p := ⟨bk, o + i * 6 + 2, none⟩) hbk).trans (hcell 2 _ rfl)
      have p3 : wr.cell? ⟨bk, o + i * 6 + 3, none⟩ = some (.int .i64 c.fl) := (bel.cell (p := ⟨bk, o + i * 6 + 3, none⟩) hbk).trans (hcell 3 _ rfl)
      have p4 : wr.cell? ⟨bk, o + i * 6 + 4, none⟩ = some (.int .i64 c.ld) := (bel.cell (p := ⟨bk, o + i * 6 + 4, none⟩) hbk).trans (hcell 4 _ rfl)
      have p5 : wr.cell? ⟨bk, o + i * 6 + 5, none⟩ = some vm := (bel.cell (p := ⟨bk, o + i * 6 + 5, none⟩) hbk).trans (hcell 5 _ rfl)
      have hWI : WI (wld (l.take i)) := wld_wi _ (fun c hc => HCW.out c (List.mem_of_mem_take hc))
      have HD : Hid (Calls Tryz.prog 60 #[.pointer (some ⟨W.heap.size + 1, 0, none⟩), .agg #[.string c.nm, .string c.su, vi, .int .i64 c.fl, .int .i64 c.ld, vm]] wr fun e w' => (∃ u, e = .returned u) ∧ Hid (∃ vp pv, HW w' W.heap.size (W.heap.size + 1) W.heap.size (wld (l.take (i + 1))) vp pv) ∧ Hid (Below W.heap.size W w')) := by
        obtain ⟨vp, pv, hw⟩ := hHW.out
        refine (define_any W.heap.size (W.heap.size + 1) W.heap.size _ vp pv c vi vm wr hw hB.out.size (hin.keep bel) hWI.nm).mono ?_
        rintro e w' ⟨rfl, hw', hb', _⟩
        rw [wld_at hc]
        exact ⟨⟨_, rfl⟩, hw', hB.out.trans hb'⟩
      clear hcl hcell hin hc bel hWI hHW hB HI
      go_wp2_with (go_at_call 60; refine HD.out.mono ?_; rintro e w3 ⟨⟨u3, rfl⟩, hw3, hb3⟩; clear HD)
      go_roundw
      case rel => exact ⟨i + 1, by go_num, by omega, hw3, hb3⟩
      case measure => simp [intOf]; omega
    · have e : i = L := by omega
      subst e
      have HF : Hid (WAt (W.heap.size + 1) (wld l) wr) := by
        obtain ⟨vp, pv, hw⟩ := hHW.out
        rw [List.take_of_length_le (by rw [HL.out]; exact Nat.le_refl _)] at hw
        exact hw.wat
      clear hHW HI
      go_wp2
      exact bodyPost_ret (results_tmp rfl _ _ _) rfl ⟨⟨_, rfl, HF.out⟩, hB.out⟩
set_option maxRecDepth 100000 in
theorem awake10_c (W : World) : Calls Tryz.prog 35 #[] W fun e w' => e = .returned (.bool true) ∧ Below W.heap.size W w' := by
  have HN : Hid (∀ w : World, Calls Tryz.prog 66 #[] w fun e w' => ∃ b, e = .returned (.pointer (some ⟨b, 0, none⟩)) ∧ WAt b P3 w' ∧ Below w.heap.size w w') := fun w => (new_any w).mono fun e w' zz => ⟨_, zz.1, by obtain ⟨vp, pv, hw⟩ := zz.2.1; exact hw.wat, zz.2.2⟩
  have HO : Hid (∀ (w : World) (b : Nat) (nm ds : ByteArray), WAt b P3 w → Calls Tryz.prog 42 #[.pointer (some ⟨b, 0, none⟩), .int .i64 0, .string nm, .string ds] w fun e w' => e = .returned (.tuple #[.agg #[.int .i64 0, .int .i64 0], .int .i64 24]) ∧ Below w.heap.size w w') := fun w b nm ds h => one_yes h wi3 0 _ rfl nm ds
  have HS : Hid (∀ (w : World) (b : Nat) (nm ds : ByteArray), WAt b P3 w → Calls Tryz.prog 44 #[.pointer (some ⟨b, 0, none⟩), .int .i64 0, .string nm, .string ds] w fun e w' => e = .returned (.tuple #[.agg #[.int .i64 0, .int .i64 0], .int .i64 6]) ∧ Below w.heap.size w w') := fun w b nm ds h => some_yes h wi3 0 _ rfl nm ds
  have BB : Hid (Below W.heap.size W W) := Below.refl _ _
  go_enter Tryz.func35, Tryz.ntmps35
  go_wp2_with (first
    | (go_at_call 66; refine (HN.out _).mono ?_; rintro e w1 ⟨b, rfl, hw, hb⟩; have BB2 : Below W.heap.size W w1 := bstep (by repeat (first | exact BB.out | exact Below.refl _ _ | refine Below.setCell ?_ (by simp; try omega) _ | refine Below.alloc ?_ (by have := BB.out.size; simp; try omega) _ | refine Below.drew ?_)) hb; clear BB; have BB : Hid (Below W.heap.size W w1) := BB2; (try clear HH); have HH : Hid (WAt b P3 w1) := hw; clear hw hb BB2)
    | (go_at_call 42; refine (HO.out _ _ _ _ HH.out).mono ?_; rintro e w2 ⟨rfl, hb⟩; have BB2 := bstep BB.out hb; clear BB; have BB : Hid (Below W.heap.size W w2) := BB2; clear hb BB2 HO)
    | (go_at_call 44; refine (HS.out _ _ _ _ HH.out).mono ?_; rintro e w2 ⟨rfl, hb⟩; have BB2 := bstep BB.out hb; clear BB; have BB : Hid (Below W.heap.size W w2) := BB2; clear hb BB2 HS))
  exact bodyPost_ret (results_tmp rfl _ _ _) rfl ⟨rfl, (by repeat (first | exact BB.out | exact Below.refl _ _ | refine Below.setCell ?_ (by simp; try omega) _ | refine Below.alloc ?_ (by have := BB.out.size; simp; try omega) _ | refine Below.drew ?_))⟩
theorem sameID_c (a b : Int × Int) (w : World) : Calls Tryz.prog 33 #[.agg #[.int .i64 a.1, .int .i64 a.2], .agg #[.int .i64 b.1, .int .i64 b.2]] w fun e w' => e = .returned (.bool ((a.1 == b.1) && (a.2 == b.2))) ∧ Below w.heap.size w w' := by
  obtain ⟨a1, a2⟩ := a
  obtain ⟨b1, b2⟩ := b
  by_cases h1 : a1 = b1
  · by_cases h2 : a2 = b2
    · subst h1 h2
      go_enter Tryz.func33, Tryz.ntmps33
      go_wp2
      exact bodyPost_ret (results_tmp rfl _ _ _) rfl ⟨by simp, (by repeat (first | exact Below.refl _ _ | refine Below.setCell ?_ (by simp; try omega) _ | refine Below.alloc ?_ (by simp; try omega) _ | refine Below.drew ?_))⟩
    · subst h1
      go_enter Tryz.func33, Tryz.ntmps33
      go_wp2
      exact bodyPost_ret (results_tmp rfl _ _ _) rfl ⟨by simp, (by repeat (first | exact Below.refl _ _ | refine Below.setCell ?_ (by simp; try omega) _ | refine Below.alloc ?_ (by simp; try omega) _ | refine Below.drew ?_))⟩
  · go_enter Tryz.func33, Tryz.ntmps33
    go_wp2
    exact bodyPost_ret (results_tmp rfl _ _ _) rfl ⟨by simp [h1], (by repeat (first | exact Below.refl _ _ | refine Below.setCell ?_ (by simp; try omega) _ | refine Below.alloc ?_ (by simp; try omega) _ | refine Below.drew ?_))⟩
end Go.Proofs.YtgppadlkollfaaaGreat
