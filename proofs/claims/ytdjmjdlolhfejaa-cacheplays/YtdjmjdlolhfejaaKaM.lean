/- Package cache's stores none and single; the three kinds of store in memory. -/
import Derived.Test.YtdjmjdlolhfejaaKaL
namespace Go.Proofs.Ytdjmjdlolhfejaa
open Go.RowKit Go.Maps

/-- the store of one entry: block q holds a pointer, to nothing or to an entry -/
def SgAt (w : World) (N q : Nat) (l : List (Int × Int)) : Prop := N ≤ q ∧ ∃ x, w.heap[q]? = some (.cells #[.pointer x] 88 (0, 0)) ∧ PtrE w x l
theorem PtrE.ne {w : World} {q : Nat} {x : Option Addr} {c : Array Value} {l : List (Int × Int)} (h : PtrE w x l) (hq : w.heap[q]? = some (.cells c 88 (0, 0))) : ∀ b, x = some ⟨b, 0, none⟩ → b ≠ q := by
  rintro b rfl rfl
  rcases h with ⟨e, _⟩ | ⟨b', k, v, e, _, h2⟩
  · cases e
  · cases e; rw [hq] at h2; cases h2
theorem PtrE.keep {w w' : World} {x : Option Addr} {l : List (Int × Int)} (h : PtrE w x l) (hk : ∀ b, x = some ⟨b, 0, none⟩ → w'.heap[b]? = w.heap[b]?) : PtrE w' x l := by
  rcases h with h | ⟨b, k, v, rfl, e, h2⟩
  · exact .inl h
  · exact .inr ⟨b, k, v, rfl, e, (hk b rfl).trans h2⟩
theorem PtrE.lt {w : World} {b : Nat} {l : List (Int × Int)} (h : PtrE w (some ⟨b, 0, none⟩) l) : b < w.heap.size := by
  rcases h with ⟨e, _⟩ | ⟨b', k, v, e, _, h2⟩
  · cases e
  · cases e; exact (Array.getElem?_eq_some_iff.1 h2).1
theorem ptrE_at {w : World} {b : Nat} {k v : Int} (h : PtrE w (some ⟨b, 0, none⟩) [(k, v)]) : w.heap[b]? = some (.cells #[.int .i64 k, .int .i64 v] 75 (0, 0)) := by
  rcases h with ⟨e, _⟩ | ⟨b', k', v', e, e2, h2⟩
  · cases e
  · cases e; cases e2; exact h2
theorem SgAt.tch {W w : World} {N q : Nat} {l : List (Int × Int)} (h : SgAt W N q l) (ht : Tch (fun _ => False) W w) : SgAt w N q l := by
  obtain ⟨h1, x, h2, h3⟩ := h
  exact ⟨h1, x, (ht.blk q (Array.getElem?_eq_some_iff.1 h2).1 (fun x => x)).trans h2, h3.keep (fun b e => ht.blk b (by subst e; exact h3.lt) (fun x => x))⟩
set_option maxRecDepth 100000 in
set_option maxHeartbeats 1000000 in
theorem sgfind_c {W : World} {N q : Nat} {l : List (Int × Int)} (h : SgAt W N q l) (key : Int) :
    Calls Try.prog 86 #[.pointer (some ⟨q, 0, none⟩), .int .i64 key] W fun e w' => e = .returned (.tuple #[.int .i64 (fdS key l).1, .bool (fdS key l).2.1]) ∧ w' = W ∧ (fdS key l).2.2 = l := by
  obtain ⟨hN, x, hq, hp⟩ := h
  have c0 : W.cell? ⟨q, 0, none⟩ = some (.pointer x) := (cell_of_row W q 0 _ _ _ hq).trans rfl
  have HL : Hid (Calls Try.prog 90 #[.pointer (some ⟨q, 0, none⟩)] W fun e w' => e = .returned (.pointer x) ∧ w' = W) := pload_c q x l W c0 hp
  rcases hp with ⟨rfl, rfl⟩ | ⟨b, k, v, rfl, rfl, hb⟩
  · simp only [fdS, tkM]
    clear c0 hq
    go_enter Try.func86, Try.ntmps86
    go_wp2_with (go_at_call 90; refine HL.out.mono ?_; rintro e w' ⟨rfl, rfl⟩)
    go_ret2
    exact ⟨rfl, rfl, trivial⟩
  · have b0 : W.cell? ⟨b, 0, none⟩ = some (.int .i64 k) := (cell_of_row W b 0 _ _ _ hb).trans rfl
    have b1 : W.cell? ⟨b, 1, none⟩ = some (.int .i64 v) := (cell_of_row W b 1 _ _ _ hb).trans rfl
    clear c0 hq hb
    by_cases e : k = key
    · subst e
      simp only [fdS, tkM, beq_self_eq_true, if_true]
      go_enter Try.func86, Try.ntmps86
      go_wp2_with (go_at_call 90; refine HL.out.mono ?_; rintro e w' ⟨rfl, rfl⟩)
      go_ret2
      exact ⟨rfl, rfl, trivial⟩
    · have e2 : (k == key) = false := by simpa using e
      simp only [fdS, tkM, e2, Bool.false_eq_true, if_false, Option.map_none]
      go_enter Try.func86, Try.ntmps86
      go_wp2_with (go_at_call 90; refine HL.out.mono ?_; rintro e w' ⟨rfl, rfl⟩)
      go_ret2
      exact ⟨rfl, rfl, trivial⟩
set_option maxRecDepth 100000 in
set_option maxHeartbeats 1000000 in
theorem sgkeys_c {W : World} {N q : Nat} {l : List (Int × Int)} (h : SgAt W N q l) :
    Calls Try.prog 87 #[.pointer (some ⟨q, 0, none⟩)] W fun e w' => ∃ v', e = .returned v' ∧ w'.ownsRow W.heap.size 3 1 v' l.length (intC (l.map Prod.fst)) ∧ Tch (fun _ => False) W w' := by
  obtain ⟨hN, x, hq, hp⟩ := h
  have c0 : W.cell? ⟨q, 0, none⟩ = some (.pointer x) := (cell_of_row W q 0 _ _ _ hq).trans rfl
  have HL : Hid (Calls Try.prog 90 #[.pointer (some ⟨q, 0, none⟩)] W fun e w' => e = .returned (.pointer x) ∧ w' = W) := pload_c q x l W c0 hp
  rcases hp with ⟨rfl, rfl⟩ | ⟨b, k, v, rfl, rfl, hb⟩
  · clear c0 hq
    go_enter Try.func87, Try.ntmps87
    go_wp2_with (go_at_call 90; refine HL.out.mono ?_; rintro e w' ⟨rfl, rfl⟩)
    go_ret
    exact ⟨_, rfl, World.ownsRow_nil _ _ _ _, Tch.refl _ _⟩
  · have b0 : W.cell? ⟨b, 0, none⟩ = some (.int .i64 k) := (cell_of_row W b 0 _ _ _ hb).trans rfl
    clear c0 hq hb
    go_enter Try.func87, Try.ntmps87
    go_wp2_with (go_at_call 90; refine HL.out.mono ?_; rintro e w' ⟨rfl, rfl⟩)
    go_ret
    exact ⟨_, rfl, ⟨by simp [intC], .inr ⟨_, 1, _, rfl, Nat.le_refl _, halloc1 _ _, Nat.le_refl _, by unfold maxLen; omega, by simp, by simp [intC]⟩⟩, (Tch.refl _ _).alloc _⟩
set_option maxRecDepth 100000 in
theorem sgempty_c {W : World} {N q : Nat} {l : List (Int × Int)} (h : SgAt W N q l) :
    Calls Try.prog 85 #[.pointer (some ⟨q, 0, none⟩)] W fun e w' => e = .returned (.tuple #[]) ∧ SgAt w' N q [] ∧ TK N W w' := by
  obtain ⟨hN, x, hq, hp⟩ := h
  have c0 : W.cell? ⟨q, 0, none⟩ = some (.pointer x) := (cell_of_row W q 0 _ _ _ hq).trans rfl
  have f0 := frozen_of_row W q 0 _ _ hq
  have HL : Hid (Calls Try.prog 89 #[.pointer (some ⟨q, 0, none⟩), .pointer none] W fun e w' => e = .returned (.tuple #[]) ∧ w' = W.setCell ⟨q, 0, none⟩ (.pointer none)) := pstore0_c q _ W c0 f0
  have HQ : Hid (W.heap[q]? = some (.cells #[.pointer x] 88 (0, 0))) := hq
  clear c0 f0 hq hp
  go_enter Try.func85, Try.ntmps85
  go_wp2_with (go_at_call 89; refine HL.out.mono ?_; rintro e w' ⟨rfl, rfl⟩)
  exact bodyPost_end (results_none rfl _ _ _) rfl ⟨rfl, ⟨hN, none, by rw [Go.Joins.block_setCell HQ.out]; rfl, .inl ⟨rfl, rfl⟩⟩, TK.set HQ.out (by rfl) hN _⟩
set_option maxRecDepth 100000 in
set_option maxHeartbeats 1000000 in
theorem sgput_c {W : World} {N q : Nat} {l : List (Int × Int)} (h : SgAt W N q l) (e1 e2 : Int) :
    Calls Try.prog 88 #[.pointer (some ⟨q, 0, none⟩), .agg #[.int .i64 e1, .int .i64 e2]] W fun e w' => e = .returned (.tuple #[.agg #[.int .i64 (ptS 1 (e1, e2) l).1.1, .int .i64 (ptS 1 (e1, e2) l).1.2], .bool (ptS 1 (e1, e2) l).2.1]) ∧ SgAt w' N q (ptS 1 (e1, e2) l).2.2 ∧ TK N W w' := by
  obtain ⟨hN, x, hq, hp⟩ := h
  have hql : q < W.heap.size := (Array.getElem?_eq_some_iff.1 hq).1
  obtain ⟨o1, ho1⟩ : ∃ o1, o1 = (Obj.cells #[.int .i64 e1, .int .i64 e2] 75 (0, 0)) := ⟨_, rfl⟩
  have c0 : ((W.alloc (.cells #[.int .i64 e1, .int .i64 e2] 75)).alloc (.cells #[.int .i64 0, .int .i64 0] 75)).cell? ⟨q, 0, none⟩ = some (.pointer x) := cal (cal ((cell_of_row W q 0 _ _ _ hq).trans rfl) _) _
  have f0 : ((W.alloc (.cells #[.int .i64 e1, .int .i64 e2] 75)).alloc (.cells #[.int .i64 0, .int .i64 0] 75)).frozen? ⟨q, 0, none⟩ = false := by
    rw [fal (by simp; omega), fal hql]; exact frozen_of_row W q 0 _ _ hq
  have hne := hp.ne hq
  have hT : Tch (fun _ => False) W ((W.alloc (.cells #[.int .i64 e1, .int .i64 e2] 75)).alloc (.cells #[.int .i64 0, .int .i64 0] 75)) := ((Tch.refl _ W).alloc _).alloc _
  have hp2 : PtrE ((W.alloc (.cells #[.int .i64 e1, .int .i64 e2] 75)).alloc (.cells #[.int .i64 0, .int .i64 0] 75)) x l := hp.keep (fun b e => hT.blk b (by subst e; exact hp.lt) (fun x => x))
  have u0 : ((W.alloc (.cells #[.int .i64 e1, .int .i64 e2] 75)).alloc (.cells #[.int .i64 0, .int .i64 0] 75)).cell? ⟨W.heap.size, 0, none⟩ = some (.int .i64 e1) := cal ((cell_of_row _ W.heap.size 0 _ _ _ (halloc1 W _)).trans rfl) _
  have HSw : Hid (Calls Try.prog 91 #[.pointer (some ⟨q, 0, none⟩), .pointer (some ⟨W.heap.size, 0, none⟩)] ((W.alloc (.cells #[.int .i64 e1, .int .i64 e2] 75)).alloc (.cells #[.int .i64 0, .int .i64 0] 75)) fun r w' => r = .returned (.pointer x) ∧ w' = ((W.alloc (.cells #[.int .i64 e1, .int .i64 e2] 75)).alloc (.cells #[.int .i64 0, .int .i64 0] 75)).setCell ⟨q, 0, none⟩ (.pointer (some ⟨W.heap.size, 0, none⟩))) := pswap_c q x l _ c0 f0 hp2 hne W.heap.size _ u0
  have hq2 : ((W.alloc (.cells #[.int .i64 e1, .int .i64 e2] 75)).alloc (.cells #[.int .i64 0, .int .i64 0] 75)).heap[q]? = some (.cells #[.pointer x] 88 (0, 0)) := (hT.blk q hql (fun x => x)).trans hq
  -- what is there behind the swap
  have key : ∀ w3 : World, w3 = ((W.alloc (.cells #[.int .i64 e1, .int .i64 e2] 75)).alloc (.cells #[.int .i64 0, .int .i64 0] 75)).setCell ⟨q, 0, none⟩ (.pointer (some ⟨W.heap.size, 0, none⟩)) →
      w3.heap[q]? = some (.cells #[.pointer (some ⟨W.heap.size, 0, none⟩)] 88 (0, 0)) ∧ w3.heap[W.heap.size]? = some (.cells #[.int .i64 e1, .int .i64 e2] 75 (0, 0)) ∧ w3.heap[W.heap.size + 1]? = some (.cells #[.int .i64 0, .int .i64 0] 75 (0, 0)) ∧ TK N W w3 ∧ PtrE w3 x l := by
    rintro w3 rfl
    refine ⟨by rw [Go.Joins.block_setCell hq2]; rfl, ?_, ?_, ?_, hp2.keep (fun b e => Below.heap_setCell _ _ _ _ (hne b e))⟩
    · rw [Below.heap_setCell _ _ _ _ (by simp; omega)]; exact hkeep (halloc1 _ _)
    · rw [Below.heap_setCell _ _ _ _ (by simp; omega)]; exact halloc2 _ _ (by simp)
    · exact TK.trans (b := (W.alloc (.cells #[.int .i64 e1, .int .i64 e2] 75)).alloc (.cells #[.int .i64 0, .int .i64 0] 75)) (hT.mono fun _ _ x => x.elim) (TK.set hq2 (by rfl) hN _)
  have fin : ∀ (w3 : World) (z1 z2 : Int), TK N W w3 → w3.heap[q]? = some (.cells #[.pointer (some ⟨W.heap.size, 0, none⟩)] 88 (0, 0)) → w3.heap[W.heap.size]? = some (.cells #[.int .i64 e1, .int .i64 e2] 75 (0, 0)) → SgAt ((w3.setCell ⟨W.heap.size + 1, 0, none⟩ (.int .i64 z1)).setCell ⟨W.heap.size + 1, 1, none⟩ (.int .i64 z2)) N q [(e1, e2)] ∧ TK N W ((w3.setCell ⟨W.heap.size + 1, 0, none⟩ (.int .i64 z1)).setCell ⟨W.heap.size + 1, 1, none⟩ (.int .i64 z2)) := by
    intro w3 z1 z2 ht h1 h2
    refine ⟨⟨hN, _, ?_, .inr ⟨W.heap.size, e1, e2, rfl, rfl, ?_⟩⟩, (ht.new (by simp) _).new (by simp) _⟩
    · rw [Below.heap_setCell _ _ _ _ (by simp; omega), Below.heap_setCell _ _ _ _ (by simp; omega)]; exact h1
    · rw [Below.heap_setCell _ _ _ _ (by simp), Below.heap_setCell _ _ _ _ (by simp)]; exact h2
  have KEY : Hid (∀ w3 : World, w3 = ((W.alloc (.cells #[.int .i64 e1, .int .i64 e2] 75)).alloc (.cells #[.int .i64 0, .int .i64 0] 75)).setCell ⟨q, 0, none⟩ (.pointer (some ⟨W.heap.size, 0, none⟩)) →
      w3.heap[q]? = some (.cells #[.pointer (some ⟨W.heap.size, 0, none⟩)] 88 (0, 0)) ∧ w3.heap[W.heap.size]? = some (.cells #[.int .i64 e1, .int .i64 e2] 75 (0, 0)) ∧ w3.heap[W.heap.size + 1]? = some (.cells #[.int .i64 0, .int .i64 0] 75 (0, 0)) ∧ TK N W w3 ∧ PtrE w3 x l) := key
  have FIN : Hid (∀ (w3 : World) (z1 z2 : Int), TK N W w3 → w3.heap[q]? = some (.cells #[.pointer (some ⟨W.heap.size, 0, none⟩)] 88 (0, 0)) → w3.heap[W.heap.size]? = some (.cells #[.int .i64 e1, .int .i64 e2] 75 (0, 0)) → SgAt ((w3.setCell ⟨W.heap.size + 1, 0, none⟩ (.int .i64 z1)).setCell ⟨W.heap.size + 1, 1, none⟩ (.int .i64 z2)) N q [(e1, e2)] ∧ TK N W ((w3.setCell ⟨W.heap.size + 1, 0, none⟩ (.int .i64 z1)).setCell ⟨W.heap.size + 1, 1, none⟩ (.int .i64 z2))) := fin
  clear c0 f0 hp2 hT u0 hq2 key fin hq ho1 o1
  have HX := hp
  rcases hp with ⟨rfl, rfl⟩ | ⟨b, k, v, rfl, rfl, hb⟩
  · have e : ptS 1 (e1, e2) [] = ((0, 0), false, [(e1, e2)]) := rfl
    rw [e]
    clear HX hne
    go_enter Try.func88, Try.ntmps88
    go_wp2_with (go_at_call 91; refine HSw.out.mono ?_; rintro e w3 ⟨rfl, hw3⟩; obtain ⟨d1, d2, d3, d4, d5⟩ := KEY.out w3 hw3; have D1 : Hid (w3.heap[q]? = some (.cells #[.pointer (some ⟨W.heap.size, 0, none⟩)] 88 (0, 0))) := d1; have D2 : Hid (w3.heap[W.heap.size]? = some (.cells #[.int .i64 e1, .int .i64 e2] 75 (0, 0))) := d2; have D4 : Hid (TK N W w3) := d4; have Z0 : w3.cell? ⟨W.heap.size + 1, 0, none⟩ = some (.int .i64 0) := (cell_of_row w3 _ 0 _ _ _ d3).trans rfl; have Z1 : w3.cell? ⟨W.heap.size + 1, 1, none⟩ = some (.int .i64 0) := (cell_of_row w3 _ 1 _ _ _ d3).trans rfl; have ZF := fun k => frozen_of_row w3 (W.heap.size + 1) k _ _ d3; clear hw3 d1 d2 d3 d4 d5 HSw KEY)
    go_region
    all_goals go_wp2
    all_goals exact bodyPost_ret (v := .tuple #[.agg #[.int .i64 0, .int .i64 0], .bool false]) (by simp [results, Try.results88, go_sem, *]) rfl ⟨rfl, FIN.out w3.drew 0 0 D4.out.drew D1.out D2.out⟩
  · have hbl : b < W.heap.size := (Array.getElem?_eq_some_iff.1 hb).1
    have hbn : ¬ b = W.heap.size + 1 := by omega
    clear HX hne hb
    by_cases hk : k = e1
    · subst hk
      have e : ptS 1 (k, e2) [(k, v)] = ((0, 0), false, [(k, e2)]) := by simp [ptS, rmS, tkM]
      rw [e]
      go_enter Try.func88, Try.ntmps88
      go_wp2_with (go_at_call 91; refine HSw.out.mono ?_; rintro e w3 ⟨rfl, hw3⟩; obtain ⟨d1, d2, d3, d4, d5⟩ := KEY.out w3 hw3; have D1 : Hid (w3.heap[q]? = some (.cells #[.pointer (some ⟨W.heap.size, 0, none⟩)] 88 (0, 0))) := d1; have D2 : Hid (w3.heap[W.heap.size]? = some (.cells #[.int .i64 k, .int .i64 e2] 75 (0, 0))) := d2; have D4 : Hid (TK N W w3) := d4; have Z0 : w3.cell? ⟨W.heap.size + 1, 0, none⟩ = some (.int .i64 0) := (cell_of_row w3 _ 0 _ _ _ d3).trans rfl; have Z1 : w3.cell? ⟨W.heap.size + 1, 1, none⟩ = some (.int .i64 0) := (cell_of_row w3 _ 1 _ _ _ d3).trans rfl; have ZF := fun k => frozen_of_row w3 (W.heap.size + 1) k _ _ d3; have Y0 : w3.cell? ⟨W.heap.size, 0, none⟩ = some (.int .i64 k) := (cell_of_row w3 _ 0 _ _ _ d2).trans rfl; have hb3 := ptrE_at d5; have B0 : w3.cell? ⟨b, 0, none⟩ = some (.int .i64 k) := (cell_of_row w3 _ 0 _ _ _ hb3).trans rfl; have B1 : w3.cell? ⟨b, 1, none⟩ = some (.int .i64 v) := (cell_of_row w3 _ 1 _ _ _ hb3).trans rfl; clear hw3 d1 d2 d3 d4 d5 HSw KEY hb3)
      go_region
      all_goals go_wp2
      all_goals exact bodyPost_ret (v := .tuple #[.agg #[.int .i64 0, .int .i64 0], .bool false]) (by simp [results, Try.results88, go_sem, *]) rfl ⟨rfl, FIN.out w3.drew 0 0 D4.out.drew D1.out D2.out⟩
    · have hk2 : (k == e1) = false := by simpa using hk
      have e : ptS 1 (e1, e2) [(k, v)] = ((k, v), true, [(e1, e2)]) := by simp [ptS, rmS, tkM, hk2]
      rw [e]
      go_enter Try.func88, Try.ntmps88
      go_wp2_with (go_at_call 91; refine HSw.out.mono ?_; rintro e w3 ⟨rfl, hw3⟩; obtain ⟨d1, d2, d3, d4, d5⟩ := KEY.out w3 hw3; have D1 : Hid (w3.heap[q]? = some (.cells #[.pointer (some ⟨W.heap.size, 0, none⟩)] 88 (0, 0))) := d1; have D2 : Hid (w3.heap[W.heap.size]? = some (.cells #[.int .i64 e1, .int .i64 e2] 75 (0, 0))) := d2; have D4 : Hid (TK N W w3) := d4; have Z0 : w3.cell? ⟨W.heap.size + 1, 0, none⟩ = some (.int .i64 0) := (cell_of_row w3 _ 0 _ _ _ d3).trans rfl; have Z1 : w3.cell? ⟨W.heap.size + 1, 1, none⟩ = some (.int .i64 0) := (cell_of_row w3 _ 1 _ _ _ d3).trans rfl; have ZF := fun k => frozen_of_row w3 (W.heap.size + 1) k _ _ d3; have Y0 : w3.cell? ⟨W.heap.size, 0, none⟩ = some (.int .i64 e1) := (cell_of_row w3 _ 0 _ _ _ d2).trans rfl; have hb3 := ptrE_at d5; have B0 : w3.cell? ⟨b, 0, none⟩ = some (.int .i64 k) := (cell_of_row w3 _ 0 _ _ _ hb3).trans rfl; have B1 : w3.cell? ⟨b, 1, none⟩ = some (.int .i64 v) := (cell_of_row w3 _ 1 _ _ _ hb3).trans rfl; clear hw3 d1 d2 d3 d4 d5 HSw KEY hb3)
      go_region
      all_goals go_wp2
      all_goals exact bodyPost_ret (v := .tuple #[.agg #[.int .i64 k, .int .i64 v], .bool true]) (by simp [results, Try.results88, go_sem, *]) rfl ⟨rfl, FIN.out w3.drew k v D4.out.drew D1.out D2.out⟩
end Go.Proofs.Ytdjmjdlolhfejaa
