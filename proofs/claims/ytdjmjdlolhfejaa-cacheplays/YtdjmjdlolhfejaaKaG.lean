/- Insert joined; lead of a set; take joined. -/
import Derived.Test.YtdjmjdlolhfejaaKaF
import Derived.Deep.RegionLaw
namespace Go.Proofs.Ytdjmjdlolhfejaa
open Go.RowKit Go.Maps

theorem row_one {W : World} {N g cap : Nat} (h : W.ownsRow N 75 2 (.slice (some ⟨g, 0, none⟩) 0 cap) 0 (flatD [])) (hc : 1 ≤ cap) : ∃ p q, W.ownsRow N 75 2 (.slice (some ⟨g, 0, none⟩) 1 cap) 1 [p, q] := by
  rcases h.2 with ⟨e, _⟩ | ⟨g', cap', cur, e, h1, h2, h3, h4, h5, h6⟩
  · simp at e
  · cases e
    obtain ⟨l, rfl⟩ : ∃ l : List Value, cur = l.toArray := ⟨cur.toList, by simp⟩
    simp at h5
    match l, h5 with
    | p :: q :: r, h5 => exact ⟨p, q, by simp, .inr ⟨g, cap, _, rfl, h1, h2, hc, h4, by simpa using h5, by simp⟩⟩
    | [p], h5 => simp at h5; omega
    | [], h5 => simp at h5; omega
set_option maxRecDepth 100000 in
set_option maxHeartbeats 1000000 in
theorem ins_f (N g cap vb : Nat) (e1 e2 : Int) (W : World) (h : W.ownsRow N 75 2 (.slice (some ⟨g, 0, none⟩) 0 cap) 0 (flatD [])) (hc : 1 ≤ cap) (hv : W.heap[vb]? = some (.cells #[.int .i64 e1, .int .i64 e2] 75 (0, 0))) (_hne : vb ≠ g) :
    Calls Try.prog 107 #[.slice (some ⟨g, 0, none⟩) 0 cap, .int .i64 0, .slice (some ⟨vb, 0, none⟩) 1 1] W fun e w' => e = .returned (.slice (some ⟨g, 0, none⟩) 1 cap) ∧ w'.ownsRow N 75 2 (.slice (some ⟨g, 0, none⟩) 1 cap) 1 (flatD [(e1, e2)]) ∧ W.grownBy w' (some g) := by
  obtain ⟨p, q, h2⟩ := row_one h hc
  have c0 : W.cell? ⟨g, 0, none⟩ = some p := (h2.cellAt 0 (by omega)).trans rfl
  have c1 : W.cell? ⟨g, 1, none⟩ = some q := (h2.cellAt 1 (by omega)).trans rfl
  have f0 := h2.frozenAt 0
  have f1 := h2.frozenAt 1
  have v0 : W.cell? ⟨vb, 0, none⟩ = some (.int .i64 e1) := (cell_of_row W vb 0 _ _ _ hv).trans rfl
  have v1 : W.cell? ⟨vb, 1, none⟩ = some (.int .i64 e2) := (cell_of_row W vb 1 _ _ _ hv).trans rfl
  obtain ⟨r1, g1⟩ := h2.stored 0 (.int .i64 e1)
  obtain ⟨r2, g2⟩ := r1.stored 1 (.int .i64 e2)
  have R2 : Hid (((W.setCell ⟨g, 0, none⟩ (.int .i64 e1)).setCell ⟨g, 1, none⟩ (.int .i64 e2)).ownsRow N 75 2 (.slice (some ⟨g, 0, none⟩) 1 cap) 1 (flatD [(e1, e2)])) := r2
  have G2 : Hid (W.grownBy ((W.setCell ⟨g, 0, none⟩ (.int .i64 e1)).setCell ⟨g, 1, none⟩ (.int .i64 e2)) (some g)) := g1.trans g2
  have hq0 : ¬ cap = 0 := by omega
  clear h h2 hv r1 r2 g1 g2
  go_enter Try.func107, Try.ntmps107
  go_wp2
  go_ret
  exact ⟨rfl, R2.out, G2.out⟩
theorem own_mono {w : World} {N M e s : Nat} {v : Value} {n : Nat} {xs : List Value} (h : w.ownsRow M e s v n xs) (hN : N ≤ M) : w.ownsRow N e s v n xs := by
  refine ⟨h.1, ?_⟩
  rcases h.2 with x | ⟨g, cap, cur, h0, h1, h2⟩
  · exact .inl x
  · exact .inr ⟨g, cap, cur, h0, Nat.le_trans hN h1, h2⟩
/-- a set's list: nothing, or a row with room -/
def Roomy1 (v : Value) : Prop := ∀ a n c, v = .slice (some a) n c → 1 ≤ c
theorem roomy_of {w : World} {N n : Nat} {v : Value} {xs : List Value} (h : w.ownsRow N 75 2 v n xs) (hn : 1 ≤ n) : Roomy1 v := by
  rintro a m c rfl
  rcases h.2 with ⟨e, _⟩ | ⟨g, cap, cur, e, _, _, hc, _⟩
  · simp at e
  · cases e; omega
theorem ins_c (N vb : Nat) (v : Value) (l : List (Int × Int)) (e1 e2 : Int) (hl : l.length ≤ 1) (h1 : Roomy1 v) (W : World) (h : W.ownsRow N 75 2 v l.length (flatD l)) (hv : W.heap[vb]? = some (.cells #[.int .i64 e1, .int .i64 e2] 75 (0, 0))) (hne : v.ownBlock ≠ some vb) (hN : N ≤ W.heap.size) :
    Calls Try.prog 107 #[v, .int .i64 0, .slice (some ⟨vb, 0, none⟩) 1 1] W fun e w' => ∃ a' c', e = .returned (.slice a' (l.length + 1) c') ∧ w'.ownsRow N 75 2 (.slice a' (l.length + 1) c') (l.length + 1) (flatD ((e1, e2) :: l)) ∧ W.grownBy w' v.ownBlock ∧ ∀ g, (Value.slice a' (l.length + 1) c').ownBlock = some g → v.ownBlock = some g ∨ W.heap.size ≤ g := by
  match l, hl with
  | [], _ =>
    rcases h.2 with ⟨rfl, _⟩ | ⟨g, cap, cur, rfl, hg⟩
    · refine (ins_0 W.heap.size (.slice none 0 0) vb e1 e2 W (World.ownsRow_nil _ _ _ _) hv (Nat.le_refl _)).mono ?_
      rintro e w' ⟨v', rfl, hr, hgr⟩
      obtain ⟨a', c', rfl⟩ := ownv hr
      exact ⟨a', c', rfl, own_mono hr hN, hgr, fun g hg => .inr (hr.lt g hg).1⟩
    · refine (ins_f N g cap vb e1 e2 W h (h1 _ _ _ rfl) hv (fun e => hne (by simp [Value.ownBlock, e]))).mono ?_
      rintro e w' ⟨rfl, hr, hgr⟩
      exact ⟨_, _, rfl, hr, hgr, fun g hg => .inl hg⟩
  | [(x1, x2)], _ =>
    rcases h.2 with ⟨_, e⟩ | ⟨g, cap, cur, rfl, hg0, hg, hc, _⟩
    · simp at e
    · by_cases hq : 2 ≤ cap
      · refine (ins_r N g cap vb x1 x2 e1 e2 W h hq hv (fun e => hne (by simp [Value.ownBlock, e]))).mono ?_
        rintro e w' ⟨rfl, hr, hgr⟩
        exact ⟨_, _, rfl, hr, hgr, fun g hg => .inl hg⟩
      · obtain rfl : cap = 1 := by simp at hc; omega
        refine (ins_g N g vb x1 x2 e1 e2 W h hv hN).mono ?_
        rintro e w' ⟨G, rfl, hr, hgr⟩
        refine ⟨_, _, rfl, hr, ⟨hgr.os, hgr.tape, hgr.output, hgr.size, fun k hk _ => hgr.block k hk (by simp)⟩, fun g hg => .inr ?_⟩
        simp [Value.ownBlock] at hg; omega
theorem callIns (vs : Array Value) (w : World) : (callFunc 107 vs).run Try.prog w = .ok (.enter 107 vs) w := by simp [go_sem]
set_option maxRecDepth 100000 in
set_option maxHeartbeats 4000000 in
theorem lead_c (N a o : Nat) (room : Int) (v : Value) (l : List (Int × Int)) (e1 e2_ : Int) (W : World) (h : SetAt W N a o room v l) (hl : l.length ≤ 1) (h1 : Roomy1 v) :
    Calls Try.prog 103 #[.pointer (some ⟨a, o, none⟩), .agg #[.int .i64 e1, .int .i64 e2_]] W fun e w' => e = .returned (.tuple #[]) ∧ ∃ v', w'.ownsRow N 75 2 v' (l.length + 1) (flatD ((e1, e2_) :: l)) ∧ Stp W w' a o v v' ∧ Roomy1 v' := by
  obtain ⟨c0, c1, cf⟩ := h.cells
  have ha := h.lt
  have hne := h.ne
  have HC : Hid (∀ w : World, w.ownsRow N 75 2 v l.length (flatD l) → w.heap[W.heap.size + 1]? = some (.cells #[.int .i64 e1, .int .i64 e2_] 75 (0, 0)) → N ≤ w.heap.size → Calls Try.prog 107 #[v, .int .i64 0, .slice (some ⟨W.heap.size + 1, 0, none⟩) 1 1] w fun e w' => ∃ a' c', e = .returned (.slice a' (l.length + 1) c') ∧ w'.ownsRow N 75 2 (.slice a' (l.length + 1) c') (l.length + 1) (flatD ((e1, e2_) :: l)) ∧ w.grownBy w' v.ownBlock ∧ ∀ g, (Value.slice a' (l.length + 1) c').ownBlock = some g → v.ownBlock = some g ∨ w.heap.size ≤ g) :=
    fun w hr hv hN => ins_c N (W.heap.size + 1) v l e1 e2_ hl h1 w hr hv (fun e => by have := (h.row.lt _ e).2; omega) hN
  have HR : Hid (W.ownsRow N 75 2 v l.length (flatD l)) := h.row
  have hNa := h.na
  have k1 : (W.alloc (.cells #[.int .i64 e1, .int .i64 e2_] 75)).cell? ⟨a, o + 1, none⟩ = some v := cal c1 _
  have hq1 : ¬ a = W.heap.size := by omega
  have hq2 : ¬ a = W.heap.size + 1 := by omega
  obtain ⟨va, vc, rfl⟩ := ownv h.row
  clear h c0 h1
  go_enter Try.func103, Try.ntmps103
  go_wp2
  go_region_law (first
    | (refine step_call3 rfl 107 callIns (.tmp 8) (.const (.int .i64 0)) (.tmp 10) 106 3 106 rfl (.slice va l.length vc) (.int .i64 0) (.slice (some ⟨W.heap.size + 1, 0, none⟩) 1 1) (by simp [Act.eval]) (by simp [Act.eval]) (by simp [Act.eval]) (HC.out _ (by exact ((HR.out.alloc _).alloc _)) (by exact halloc2 _ _ (by simp)) (by simp; omega)) ?_; rintro e w2 ⟨a', c', rfl, hr2, hg2, hn2⟩; refine ⟨_, rfl, ?_⟩
       have t2 : Tch (SS a (.slice va l.length vc)) W w2 := ((((Tch.refl _ W).alloc _).alloc _).drew).grown hg2 (fun k hk => .inl (.inr hk))
       have e2 : w2.heap[a]? = W.heap[a]? := (hg2.block a (by simp; omega) (fun e => hne e.symm)).trans (((Below.heap_alloc _ _ _ (by simp; omega)).trans (Below.heap_alloc _ _ _ ha)))
       have a2 : w2.cell? ⟨a, o + 1, none⟩ = some (.slice va l.length vc) := (World.cell?_of_block (a := ⟨a, o + 1, none⟩) e2).trans c1
       have f2 : w2.frozen? ⟨a, o + 1, none⟩ = false := (World.frozen?_of_block (a := ⟨a, o + 1, none⟩) e2).trans (cf _)
       have T2 : Hid (Tch (SS a (.slice va l.length vc)) W w2) := t2
       have E2 : Hid (w2.heap[a]? = W.heap[a]?) := e2
       have R2 : Hid (w2.ownsRow N 75 2 (.slice a' (l.length + 1) c') (l.length + 1) (flatD ((e1, e2_) :: l))) := hr2
       have N2 : Hid (∀ g, (Value.slice a' (l.length + 1) c').ownBlock = some g → (Value.slice va l.length vc).ownBlock = some g ∨ W.heap.size ≤ g) := fun g hg => (hn2 g hg).imp id (fun x => by simp at x; omega)
       clear hr2 hg2 hn2 t2 e2))
  all_goals (try go_wp2)
  all_goals refine bodyPost_end (results_none rfl _ _ _) rfl ⟨rfl, _, own_keep R2.out (fun g hg => Below.heap_setCell _ _ _ _ (fun e => ?_)), ⟨T2.out.set (.inl (.inl rfl)) _, fun C hC => Go.Joins.block_setCell (E2.out.trans hC) _, N2.out⟩, roomy_of R2.out (by omega)⟩
  all_goals (subst e; rcases N2.out _ hg with x | x; exact hne x; omega)
/-- what is behind take: the entry and the others -/
def tkM (key : Int) : List (Int × Int) → Option ((Int × Int) × List (Int × Int))
  | [] => none
  | x :: r => if x.1 == key then some (x, r) else (tkM key r).map fun p => (p.1, x :: p.2)
theorem tk_none (N a o : Nat) (room : Int) (v : Value) (l : List (Int × Int)) (key : Int) (W : World) (h : SetAt W N a o room v l) (hl : l.length ≤ 2) (hk : tkM key l = none) :
    Calls Try.prog 102 #[.pointer (some ⟨a, o, none⟩), .int .i64 key] W fun e w' => e = .returned (.tuple #[.agg #[.int .i64 0, .int .i64 0], .bool false]) ∧ Tch (fun _ => False) W w' := by
  refine take_no N a o room v l key W h hl ?_
  match l, hl, hk with
  | [], _, _ => rfl
  | [x], _, hk =>
    cases e : x.1 == key <;> simp [tkM, e] at hk
    simp [idxP, keyP, e]
  | [x, y], _, hk =>
    cases e : x.1 == key <;> cases e2 : y.1 == key <;> simp [tkM, e, e2] at hk
    simp [idxP, keyP, e, e2]
theorem tk_some (N a o : Nat) (room : Int) (v : Value) (l l' : List (Int × Int)) (x1 x2 key : Int) (W : World) (h : SetAt W N a o room v l) (hl : l.length ≤ 2) (hk : tkM key l = some ((x1, x2), l')) :
    Calls Try.prog 102 #[.pointer (some ⟨a, o, none⟩), .int .i64 key] W fun e w' => e = .returned (.tuple #[.agg #[.int .i64 x1, .int .i64 x2], .bool true]) ∧ ∃ v', w'.ownsRow N 75 2 v' l'.length (flatD l') ∧ Stp W w' a o v v' ∧ Roomy1 v' := by
  have key1 : ∀ (n i g cap : Nat), v = .slice (some ⟨g, 0, none⟩) n cap → 1 ≤ cap → l.length = n → n ≤ 2 → idxP (keyP key) l 0 = (i : Int) → l[i]? = some (x1, x2) → l'.length = n - 1 →
      (∀ w : World, w.ownsRow N 75 2 (.slice (some ⟨g, 0, none⟩) n cap) n (flatD l) → Calls Try.prog 106 #[.slice (some ⟨g, 0, none⟩) n cap, .int .i64 (i : Int), .int .i64 ((i : Int) + 1)] w fun e w' => e = .returned (.slice (some ⟨g, 0, none⟩) (n - 1) cap) ∧ w'.ownsRow N 75 2 (.slice (some ⟨g, 0, none⟩) (n - 1) cap) (n - 1) (flatD l') ∧ w.grownBy w' (some g)) →
      Calls Try.prog 102 #[.pointer (some ⟨a, o, none⟩), .int .i64 key] W fun e w' => e = .returned (.tuple #[.agg #[.int .i64 x1, .int .i64 x2], .bool true]) ∧ ∃ v', w'.ownsRow N 75 2 v' l'.length (flatD l') ∧ Stp W w' a o v v' ∧ Roomy1 v' := by
    intro n i g cap hv hc h1 h2 h3 h4 h5 h6
    subst hv
    refine (take_w N a o g n cap i room l l' x1 x2 key W h h1 h2 h3 h4 h5 h6).mono ?_
    rintro e w' ⟨rfl, v', hr, hs, hv⟩
    subst hv
    exact ⟨rfl, _, hr, hs, by rintro a n c e; cases e; exact hc⟩
  have hgen : ∀ n, l.length = n → 1 ≤ n → ∃ g cap, v = .slice (some ⟨g, 0, none⟩) n cap ∧ 1 ≤ cap := by
    intro n hn h1
    have hr := h.row
    rw [hn] at hr
    rcases hr.2 with ⟨_, e⟩ | ⟨g, cap, cur, rfl, _, _, hc, _⟩
    · omega
    · exact ⟨g, cap, rfl, by omega⟩
  match l, hl, hk with
  | [], _, hk => simp [tkM] at hk
  | [x], _, hk =>
    obtain ⟨g, cap, hv, hc⟩ := hgen 1 rfl (by omega)
    cases e : x.1 == key <;> simp [tkM, e] at hk
    obtain ⟨rfl, rfl⟩ := hk
    exact key1 1 0 g cap hv hc rfl (by omega) (by simp [idxP, keyP, e]) rfl rfl (fun w hr => del_10 N g cap _ w hr)
  | [x, y], _, hk =>
    obtain ⟨g, cap, hv, hc⟩ := hgen 2 rfl (by omega)
    cases e : x.1 == key <;> cases e2 : y.1 == key <;> simp [tkM, e, e2] at hk
    · obtain ⟨rfl, rfl⟩ := hk
      exact key1 2 1 g cap hv hc rfl (by omega) (by simp [idxP, keyP, e, e2]) rfl rfl (fun w hr => del_21 N g cap _ _ w hr)
    · obtain ⟨rfl, rfl⟩ := hk
      exact key1 2 0 g cap hv hc rfl (by omega) (by simp [idxP, keyP, e]) rfl rfl (fun w hr => del_20 N g cap _ _ w hr)
    · obtain ⟨rfl, rfl⟩ := hk
      exact key1 2 0 g cap hv hc rfl (by omega) (by simp [idxP, keyP, e]) rfl rfl (fun w hr => del_20 N g cap _ _ w hr)
end Go.Proofs.Ytdjmjdlolhfejaa
