/- Package cache's sets: setOf, find, put. -/
import Derived.Test.YtdjmjdlolhfejaaKaI
namespace Go.Proofs.Ytdjmjdlolhfejaa
open Go.RowKit Go.Maps

/-- the set of a key, of so many -/
def sIx (n : Nat) (key : Int) : Nat := (key % (n : Int)).toNat
theorem sIx_lt {n : Nat} (h : 0 < n) (key : Int) : sIx n key < n := by
  have h1 := Int.emod_lt_of_pos key (show (0 : Int) < n by omega)
  have h2 := Int.emod_nonneg key (show (n : Int) ≠ 0 by omega)
  unfold sIx; omega
theorem sIx_int {n : Nat} (h : 0 < n) (key : Int) : (sIx n key : Int) = key % (n : Int) := by
  have h2 := Int.emod_nonneg key (show (n : Int) ≠ 0 by omega)
  unfold sIx; omega
theorem tmod_neg {n : Nat} (h : 0 < n) (key : Int) (hk : Int.tmod key n < 0) : Int.tmod key n + n = (sIx n key : Int) := by
  rw [sIx_int h, Int.tmod_eq_emod] at *
  split at hk
  · have := Int.emod_nonneg key (show (n : Int) ≠ 0 by omega); omega
  · rename_i hc
    rw [if_neg hc]
    have : (n : Int).natAbs = n := by omega
    omega
theorem tmod_pos {n : Nat} (h : 0 < n) (key : Int) (hk : ¬ Int.tmod key n < 0) : Int.tmod key n = (sIx n key : Int) := by
  rw [sIx_int h, Int.tmod_eq_emod] at *
  split at hk
  · rename_i hc; rw [if_pos hc]; simp
  · rename_i hc
    have := Int.emod_lt_of_pos key (show (0 : Int) < n by omega)
    omega
set_option maxRecDepth 100000 in
set_option maxHeartbeats 1000000 in
theorem setOf_c {W : World} {N q a cap : Nat} {m : Int} {vs : List Value} {ss : List (List (Int × Int))} (h : SetsAt W N q a cap m vs ss) (key : Int) :
    Calls Try.prog 99 #[.pointer (some ⟨q, 0, none⟩), .int .i64 key] W fun e w' => e = .returned (.pointer (some ⟨a, sIx ss.length key * 2, none⟩)) ∧ w' = W := by
  obtain ⟨_, c2, _⟩ := h.qc
  have hk : 0 < ss.length := by rw [h.ls]; have := h.c2; omega
  have hk2 : ss.length ≤ 32 := by rw [h.ls]; have := h.c64; omega
  have hlt := sIx_lt hk key
  have hz : ¬ ((ss.length : Int) = 0) := by omega
  generalize hn : ss.length = n at *
  clear h
  by_cases hc : Int.tmod key n < 0
  · have e1 := tmod_neg hk key hc
    generalize hj : sIx n key = j at *
    have hw : wrap64 (Int.tmod key n + n) = (j : Int) := by rw [e1]; unfold wrap64; omega
    clear hj hn e1
    go_enter Try.func99, Try.ntmps99
    go_wp2
    go_ret
    exact ⟨rfl, rfl⟩
  · have e1 := tmod_pos hk key hc
    generalize hj : sIx n key = j at *
    have e2 : (Int.tmod key n).toNat = j := by rw [e1]; rfl
    have hm1 : Int.tmod key n < n := by rw [e1]; omega
    have E2 : Hid ((Int.tmod key n).toNat = j) := e2
    clear hj hn e1 e2
    go_enter Try.func99, Try.ntmps99
    go_wp2
    go_ret
    exact ⟨by rw [E2.out]; rfl, rfl⟩
theorem SetsAt.lt {W : World} {N q a cap : Nat} {m : Int} {vs : List Value} {ss : List (List (Int × Int))} (h : SetsAt W N q a cap m vs ss) : q < W.heap.size := (Array.getElem?_eq_some_iff.1 h.hq).1
theorem SetsAt.tkq {W : World} {N q a cap : Nat} {m : Int} {vs : List Value} {ss : List (List (Int × Int))} (h : SetsAt W N q a cap m vs ss) (o : Nat) (u : Value) : TK N W (W.setCell ⟨q, o, none⟩ u) := TK.set h.hq (by rfl) h.nq u
theorem SetsAt.pick {W : World} {N q a cap : Nat} {m : Int} {vs : List Value} {ss : List (List (Int × Int))} (h : SetsAt W N q a cap m vs ss) (key : Int) : ∃ v l, vs[sIx ss.length key]? = some v ∧ ss[sIx ss.length key]? = some l ∧ 1 ≤ rmN cap (sIx ss.length key) := by
  have hk : 0 < ss.length := by rw [h.ls]; have := h.c2; omega
  have := sIx_lt hk key
  have h1 := h.ls
  have h2 := h.lv
  exact ⟨_, _, List.getElem?_eq_getElem (by omega), List.getElem?_eq_getElem this, by unfold rmN; omega⟩
/-- find of sets -/
def fdSS (key : Int) (ss : List (List (Int × Int))) : Int × Bool × List (List (Int × Int)) := match ss[sIx ss.length key]? with
  | none => (0, false, ss)
  | some l => ((fdS key l).1, (fdS key l).2.1, ss.set (sIx ss.length key) (fdS key l).2.2)
def ptSS (cap : Nat) (x : Int × Int) (ss : List (List (Int × Int))) : (Int × Int) × Bool × List (List (Int × Int)) := match ss[sIx ss.length x.1]? with
  | none => ((0, 0), false, ss)
  | some l => ((ptS (rmN cap (sIx ss.length x.1)) x l).1, (ptS (rmN cap (sIx ss.length x.1)) x l).2.1, ss.set (sIx ss.length x.1) (ptS (rmN cap (sIx ss.length x.1)) x l).2.2)
theorem rmS_len (key : Int) (l : List (Int × Int)) : (rmS key l).length ≤ l.length := by
  unfold rmS
  split
  · exact Nat.le_refl _
  · rename_i p hp
    have := tkM_len (l' := p.2) (x := p.1) hp
    omega
theorem fdS_len (key : Int) (l : List (Int × Int)) : (fdS key l).2.2.length = l.length := by
  unfold fdS
  split
  · rfl
  · rename_i x l' hp
    have := tkM_len hp
    simp; omega
theorem ptS_len {room : Nat} (h1 : 1 ≤ room) (x : Int × Int) {l : List (Int × Int)} (hl : l.length ≤ room) : (ptS room x l).2.2.length ≤ room := by
  have := rmS_len x.1 l
  by_cases h : (rmS x.1 l).length = room
  · obtain ⟨y, hy⟩ : ∃ y, (rmS x.1 l)[room - 1]? = some y := ⟨_, List.getElem?_eq_getElem (by omega)⟩
    obtain ⟨⟨z, l2⟩, hz⟩ := tkM_mem (List.mem_of_getElem? hy) rfl
    have := tkM_len hz
    rw [ptS_full h hy hz]
    simp; omega
  · rw [ptS_room h]
    simp; omega
set_option maxRecDepth 100000 in
set_option maxHeartbeats 4000000 in
theorem ssfind_c {W : World} {N q a cap : Nat} {vs : List Value} {ss : List (List (Int × Int))} (h : SetsAt W N q a cap 0 vs ss) (key : Int) :
    Calls Try.prog 96 #[.pointer (some ⟨q, 0, none⟩), .int .i64 key] W fun e w' => e = .returned (.tuple #[.int .i64 (fdSS key ss).1, .bool (fdSS key ss).2.1]) ∧ (∃ vs', SetsAt w' N q a cap 0 vs' (fdSS key ss).2.2) ∧ TK N W w' := by
  obtain ⟨v, l, hv, hl, hr1⟩ := h.pick key
  obtain ⟨q0, _, qf⟩ := h.qc
  have f0 := qf 0
  obtain ⟨rw1, rw2, rw3⟩ := h.row _ v l hv hl
  have h1 := h.lock 1
  have HO : Hid (Calls Try.prog 99 #[.pointer (some ⟨q, 0, none⟩), .int .i64 key] (W.setCell ⟨q, 0, none⟩ (.int .i32 1)) fun e w' => e = .returned (.pointer (some ⟨a, sIx ss.length key * 2, none⟩)) ∧ w' = W.setCell ⟨q, 0, none⟩ (.int .i32 1)) := setOf_c h1 key
  have HF : Hid (Calls Try.prog 100 #[.pointer (some ⟨a, sIx ss.length key * 2, none⟩), .int .i64 key] (W.setCell ⟨q, 0, none⟩ (.int .i32 1)) fun e w' => e = .returned (.tuple #[.int .i64 (fdSS key ss).1, .bool (fdSS key ss).2.1]) ∧ (∃ vs', SetsAt w' N q a cap 1 vs' (fdSS key ss).2.2) ∧ TK N W w') := by
    refine (fnd_c N a (sIx ss.length key * 2) _ v l key _ (h1.at hv hl) (by unfold rmN at rw3; omega) rw2).mono ?_
    rintro e w' ⟨rfl, v', hr, hs, hv'⟩
    have e : fdSS key ss = ((fdS key l).1, (fdS key l).2.1, ss.set (sIx ss.length key) (fdS key l).2.2) := by simp only [fdSS, hl]
    rw [e]
    exact ⟨rfl, ⟨_, h1.step hv hl hs hr hv' (by rw [fdS_len]; exact rw3)⟩, (h.tkq 0 _).trans (hs.tk (h1.at hv hl))⟩
  generalize fdSS key ss = F at *
  clear h rw1 rw2 rw3 h1 hv hl hr1 qf
  go_enter_defers Try.func96, Try.ntmps96
  go_wp2_with (first
    | (go_at_call 46; refine (Go.MuLone.lock_free Try.muLib ⟨q, 0, none⟩ _ q0 f0).mono ?_; rintro e w1 ⟨rfl, rfl⟩)
    | (go_at_call 99; refine HO.out.mono ?_; rintro e w1 ⟨rfl, rfl⟩)
    | (go_at_call 100; refine HF.out.mono ?_; rintro e w2 ⟨rfl, ⟨vs', hs2⟩, ht2⟩
       have S2 : Hid (SetsAt w2 N q a cap 1 vs' F.2.2) := hs2
       have T2 : Hid (TK N W w2) := ht2
       clear HF hs2 ht2))
  refine leaves_cons (f := 51) (args := #[.pointer (some ⟨q, 0, none⟩)]) (by simp) (by simp [go_sem]) ?_
  refine (Go.MuLone.unlock_deferred Try.muLib ⟨q, 0, none⟩ .returning _ S2.out.qc.1 (S2.out.qc.2.2 0)).mono ?_
  rintro e u' w'' ⟨rfl, rfl, rfl⟩
  refine ⟨_, results_tmp2 rfl _ _ _, rfl, ⟨_, S2.out.lock 0⟩, T2.out.trans (S2.out.tkq 0 _)⟩
theorem SetsAt.keep {W w : World} {N q a cap : Nat} {m : Int} {vs : List Value} {ss : List (List (Int × Int))} (h : SetsAt W N q a cap m vs ss) (h1 : w.heap[q]? = W.heap[q]?) (h2 : w.heap[a]? = W.heap[a]?) (h3 : ∀ (j : Nat) (v : Value) (g : Nat), vs[j]? = some v → v.ownBlock = some g → w.heap[g]? = W.heap[g]?) : SetsAt w N q a cap m vs ss := by
  obtain ⟨C, c1, c2⟩ := h.ha
  exact ⟨h.nq, h.na, h.c2, h.c64, h.ls, h.lv, h1.trans h.hq, ⟨C, h2.trans c1, c2⟩, fun j v l hv hl => ⟨own_keep (h.row j v l hv hl).1 (fun g hg => h3 j v g hv hg), (h.row j v l hv hl).2⟩, h.inj⟩
theorem SetsAt.lta {W : World} {N q a cap : Nat} {m : Int} {vs : List Value} {ss : List (List (Int × Int))} (h : SetsAt W N q a cap m vs ss) : a < W.heap.size := by
  obtain ⟨C, h1, _⟩ := h.ha
  exact (Array.getElem?_eq_some_iff.1 h1).1
theorem SetsAt.ltv {W : World} {N q a cap : Nat} {m : Int} {vs : List Value} {ss : List (List (Int × Int))} (h : SetsAt W N q a cap m vs ss) {j : Nat} {v : Value} {g : Nat} (hv : vs[j]? = some v) (hg : v.ownBlock = some g) : g < W.heap.size := by
  obtain ⟨l, hl⟩ : ∃ l, ss[j]? = some l := ⟨_, List.getElem?_eq_getElem (by have := (List.getElem?_eq_some_iff.1 hv).1; have := h.lv; omega)⟩
  exact ((h.row j v l hv hl).1.lt g hg).2
theorem SetsAt.tch {W w : World} {N q a cap : Nat} {m : Int} {vs : List Value} {ss : List (List (Int × Int))} (h : SetsAt W N q a cap m vs ss) (ht : Tch (fun _ => False) W w) : SetsAt w N q a cap m vs ss :=
  h.keep (ht.blk q h.lt (fun x => x)) (ht.blk a h.lta (fun x => x)) (fun _ _ g hv hg => ht.blk g (h.ltv hv hg) (fun x => x))
theorem TK.new {N : Nat} {W w : World} (h : TK N W w) {p : Addr} (hp : W.heap.size ≤ p.block) (u : Value) : TK N W (w.setCell p u) := Tch.set h (.inr hp) u
/-- a region that draws within a function that defers: its plain way out alone -/
def PostN (R : Act → World → Prop) : Exit → Act → World → Prop
  | .normal => R
  | _ => fun _ _ => False
theorem wp_normal {P : Program} {c : Code} {Q : Exit → Act → World → Prop} {a : Act} {w : World} (h : c.wp P (PostN fun a w => Q .normal a w) a w) : c.wp P Q a w :=
  Code.wp_mono (by intro e a w h; cases e <;> first | exact h | exact h.elim) h
theorem callSO (vs : Array Value) (w : World) : (callFunc 99 vs).run Try.prog w = .ok (.enter 99 vs) w := by simp [go_sem]
theorem callSP (vs : Array Value) (w : World) : (callFunc 101 vs).run Try.prog w = .ok (.enter 101 vs) w := by simp [go_sem]
set_option maxRecDepth 100000 in
set_option maxHeartbeats 4000000 in
theorem ssput_c {W : World} {N q a cap : Nat} {vs : List Value} {ss : List (List (Int × Int))} (h : SetsAt W N q a cap 0 vs ss) (e1 e2 : Int) :
    Calls Try.prog 98 #[.pointer (some ⟨q, 0, none⟩), .agg #[.int .i64 e1, .int .i64 e2]] W fun e w' => e = .returned (.tuple #[.agg #[.int .i64 (ptSS cap (e1, e2) ss).1.1, .int .i64 (ptSS cap (e1, e2) ss).1.2], .bool (ptSS cap (e1, e2) ss).2.1]) ∧ (∃ vs', SetsAt w' N q a cap 0 vs' (ptSS cap (e1, e2) ss).2.2) ∧ TK N W w' := by
  obtain ⟨v, l, hv, hl, hr1⟩ := h.pick e1
  have hql := h.lt
  have hal := h.lta
  obtain ⟨rw1, rw2, rw3⟩ := h.row _ v l hv hl
  have HH : Hid (SetsAt W N q a cap 0 vs ss) := h
  obtain ⟨q0, _, qf⟩ := h.qc
  have q0' : ((W.alloc (.cells #[.int .i64 e1, .int .i64 e2] 75)).alloc (.cells #[.int .i64 0, .int .i64 0] 75)).cell? ⟨q, 0, none⟩ = some (.int .i32 0) := cal (cal q0 _) _
  have f0' : ((W.alloc (.cells #[.int .i64 e1, .int .i64 e2] 75)).alloc (.cells #[.int .i64 0, .int .i64 0] 75)).frozen? ⟨q, 0, none⟩ = false := by
    rw [fal (by simp; omega), fal hql]; exact qf 0
  have HO : Hid (∀ w, SetsAt w N q a cap 1 vs ss → Calls Try.prog 99 #[.pointer (some ⟨q, 0, none⟩), .int .i64 e1] w fun e w' => e = .returned (.pointer (some ⟨a, sIx ss.length e1 * 2, none⟩)) ∧ w' = w) := fun w h1 => setOf_c h1 e1
  have HF : Hid (∀ w, W.heap.size ≤ w.heap.size → SetsAt w N q a cap 1 vs ss → Calls Try.prog 101 #[.pointer (some ⟨a, sIx ss.length e1 * 2, none⟩), .agg #[.int .i64 e1, .int .i64 e2]] w fun e w' => e = .returned (.tuple #[.agg #[.int .i64 (ptSS cap (e1, e2) ss).1.1, .int .i64 (ptSS cap (e1, e2) ss).1.2], .bool (ptSS cap (e1, e2) ss).2.1]) ∧ (∃ vs', SetsAt w' N q a cap 1 vs' (ptSS cap (e1, e2) ss).2.2 ∧ ∀ (j : Nat) (u : Value) (g : Nat), vs'[j]? = some u → u.ownBlock = some g → g < W.heap.size ∨ w.heap.size ≤ g) ∧ TK N w w' ∧ ∀ k, W.heap.size ≤ k → k < w.heap.size → w'.heap[k]? = w.heap[k]?) := by
    intro w hw h1
    refine (put_c N a (sIx ss.length e1 * 2) (rmN cap (sIx ss.length e1)) v l e1 e2 hr1 (by unfold rmN; omega) rw3 rw2 w (h1.at hv hl)).mono ?_
    rintro e w' ⟨rfl, v', hr, hs, hv'⟩
    have e : ptSS cap (e1, e2) ss = ((ptS (rmN cap (sIx ss.length e1)) (e1, e2) l).1, (ptS (rmN cap (sIx ss.length e1)) (e1, e2) l).2.1, ss.set (sIx ss.length e1) (ptS (rmN cap (sIx ss.length e1)) (e1, e2) l).2.2) := by simp only [ptSS, hl]
    rw [e]
    refine ⟨rfl, ⟨_, h1.step hv hl hs hr hv' (ptS_len hr1 _ rw3), fun j u g hu hg => ?_⟩, hs.tk (h1.at hv hl), fun k hk hk2 => ?_⟩
    · by_cases hj : j = sIx ss.length e1
      · subst hj
        rw [List.getElem?_set_self (by have := (List.getElem?_eq_some_iff.1 hv).1; omega)] at hu
        cases hu
        exact (hs.new g hg).imp (fun x => (rw1.lt g x).2) id
      · rw [List.getElem?_set_ne (fun e => hj e.symm)] at hu
        exact .inl (HH.out.ltv hu hg)
    · exact hs.far (h1.at hv hl) hk2 (by omega) (fun e => by have := (rw1.lt _ e).2; omega)
  generalize ptSS cap (e1, e2) ss = F at *
  obtain ⟨⟨z1, z2⟩, zb, sf⟩ := F
  simp only at HF ⊢
  generalize hj : sIx ss.length e1 = j at *
  clear h rw1 rw2 rw3 hv hl hr1 qf q0 hj
  go_enter_defers Try.func98, Try.ntmps98
  go_wp2_with (go_at_call 46; refine (Go.MuLone.lock_free Try.muLib ⟨q, 0, none⟩ _ q0' f0').mono ?_; rintro e w1 ⟨rfl, hw1⟩; have HW : Hid (w1 = ((W.alloc (.cells #[.int .i64 e1, .int .i64 e2] 75)).alloc (.cells #[.int .i64 0, .int .i64 0] 75)).setCell ⟨q, 0, none⟩ (.int .i32 1)) := hw1; clear hw1)
  have S1 : Hid (SetsAt w1 N q a cap 1 vs ss) := by rw [HW.out]; exact (HH.out.tch (((Tch.refl _ W).alloc _).alloc _)).lock 1
  have T1 : Hid (TK N W w1) := by rw [HW.out]; exact TK.trans (b := (W.alloc (.cells #[.int .i64 e1, .int .i64 e2] 75)).alloc (.cells #[.int .i64 0, .int .i64 0] 75)) (((Tch.refl _ W).alloc _).alloc _) ((HH.out.tch (((Tch.refl _ W).alloc _).alloc _)).tkq 0 _)
  have hz1 : w1.heap.size = W.heap.size + 2 := by rw [HW.out]; simp
  have dE : w1.heap[W.heap.size]? = some (.cells #[.int .i64 e1, .int .i64 e2] 75 (0, 0)) := by rw [HW.out, Below.heap_setCell _ _ _ _ (by simp; omega)]; exact hkeep (halloc1 _ _)
  have dR : w1.heap[W.heap.size + 1]? = some (.cells #[.int .i64 0, .int .i64 0] 75 (0, 0)) := by rw [HW.out, Below.heap_setCell _ _ _ _ (by simp; omega)]; exact halloc2 _ _ (by simp)
  have HZ : Hid (w1.heap.size = W.heap.size + 2) := hz1
  have DR : Hid (w1.heap[W.heap.size + 1]? = some (.cells #[.int .i64 0, .int .i64 0] 75 (0, 0))) := dR
  have E0 : w1.cell? ⟨W.heap.size, 0, none⟩ = some (.int .i64 e1) := (cell_of_row w1 _ 0 _ _ _ dE).trans rfl
  have E1 : w1.cell? ⟨W.heap.size, 1, none⟩ = some (.int .i64 e2) := (cell_of_row w1 _ 1 _ _ _ dE).trans rfl
  clear hz1 dE dR q0' f0' HW
  refine wp_normal ?_
  go_region_with (first
    | (go_at_call 99; refine (HO.out _ (S1.out.tch (Tch.refl _ w1).drew)).mono ?_; rintro e w2 ⟨rfl, rfl⟩)
    | (go_at_call 101; refine (HF.out _ (by show W.heap.size ≤ w1.heap.size; rw [HZ.out]; omega) (S1.out.tch (Tch.refl _ w1).drew)).mono ?_; rintro e w3 ⟨rfl, ⟨vs3, hs3, hn3⟩, ht3, hk3⟩
       have d3 : w3.heap[W.heap.size + 1]? = some (.cells #[.int .i64 0, .int .i64 0] 75 (0, 0)) := (hk3 (W.heap.size + 1) (by omega) (by show W.heap.size + 1 < w1.heap.size; rw [HZ.out]; omega)).trans DR.out
       have Z0 : w3.cell? ⟨W.heap.size + 1, 0, none⟩ = some (.int .i64 0) := (cell_of_row w3 _ 0 _ _ _ d3).trans rfl
       have Z1 : w3.cell? ⟨W.heap.size + 1, 1, none⟩ = some (.int .i64 0) := (cell_of_row w3 _ 1 _ _ _ d3).trans rfl
       have ZF := fun k => frozen_of_row w3 (W.heap.size + 1) k _ _ d3
       have S3 : Hid (SetsAt w3 N q a cap 1 vs3 sf) := hs3
       have T3 : Hid (TK N W w3) := TK.trans (T1.out : TK N W w1) (TK.trans (b := w1.drew) (Tch.refl _ w1).drew ht3)
       have N3 : Hid (∀ (j : Nat) (u : Value) (g : Nat), vs3[j]? = some u → u.ownBlock = some g → g < W.heap.size ∨ W.heap.size + 2 ≤ g) := fun j u g h1 h2 => (hn3 j u g h1 h2).imp id (fun x => by have : w1.heap.size ≤ g := x; rw [HZ.out] at this; exact this)
       clear hs3 hn3 ht3 hk3 d3 HF))
  all_goals simp only [PostN]
  all_goals go_wp2
  all_goals
    have S4 : SetsAt ((w3.setCell ⟨W.heap.size + 1, 0, none⟩ (.int .i64 z1)).setCell ⟨W.heap.size + 1, 1, none⟩ (.int .i64 z2)) N q a cap 1 vs3 sf := S3.out.keep (by rw [Below.heap_setCell _ _ _ _ (by simp; omega), Below.heap_setCell _ _ _ _ (by simp; omega)]) (by rw [Below.heap_setCell _ _ _ _ (by simp; omega), Below.heap_setCell _ _ _ _ (by simp; omega)]) (fun j u g h1 h2 => by have := N3.out j u g h1 h2; rw [Below.heap_setCell _ _ _ _ (by simp; omega), Below.heap_setCell _ _ _ _ (by simp; omega)])
    have T4 : TK N W ((w3.setCell ⟨W.heap.size + 1, 0, none⟩ (.int .i64 z1)).setCell ⟨W.heap.size + 1, 1, none⟩ (.int .i64 z2)) := (T3.out.new (by simp) _).new (by simp) _
    refine leaves_cons (f := 51) (args := #[.pointer (some ⟨q, 0, none⟩)]) (by simp) (by simp [go_sem]) ?_
    refine (Go.MuLone.unlock_deferred Try.muLib ⟨q, 0, none⟩ .returning _ S4.qc.1 (S4.qc.2.2 0)).mono ?_
    rintro e u' w'' ⟨rfl, rfl, rfl⟩
    have hne1 : ¬ q = W.heap.size + 1 := by omega
    have hne2 : ¬ W.heap.size + 1 = q := by omega
    refine ⟨.tuple #[.agg #[.int .i64 z1, .int .i64 z2], .bool zb], by simp [results, Try.results98, go_sem, Act.put, *], rfl, ⟨_, S4.lock 0⟩, T4.trans (S4.tkq 0 _)⟩
end Go.Proofs.Ytdjmjdlolhfejaa
