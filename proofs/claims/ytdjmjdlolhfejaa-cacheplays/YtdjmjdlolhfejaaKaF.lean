/- take of a set: the entry of a key is taken out, or there is none. -/
import Derived.Test.YtdjmjdlolhfejaaKaE
namespace Go.Proofs.Ytdjmjdlolhfejaa
open Go.RowKit Go.Maps

def keyP (key : Int) : Int × Int → Bool := fun m => m.1 == key
set_option maxRecDepth 100000 in
set_option maxHeartbeats 4000000 in
theorem take_no (N a o : Nat) (room : Int) (v : Value) (l : List (Int × Int)) (key : Int) (W : World) (h : SetAt W N a o room v l) (hl : l.length ≤ 2) (hi : idxP (keyP key) l 0 = -1) :
    Calls Try.prog 102 #[.pointer (some ⟨a, o, none⟩), .int .i64 key] W fun e w' => e = .returned (.tuple #[.agg #[.int .i64 0, .int .i64 0], .bool false]) ∧ Tch (fun _ => False) W w' := by
  obtain ⟨c0, c1, cf⟩ := h.cells
  have ha := h.lt
  have HR : Hid (W.ownsRow N 75 2 v l.length (flatD l)) := h.row
  have c1' : ((W.alloc (.cells #[.int .i64 key] 3)).alloc (.cells #[.int .i64 0, .int .i64 0] 75)).cell? ⟨a, o + 1, none⟩ = some v := cal (cal c1 _) _
  have HI : Hid (Calls Try.prog 104 #[v, .func (.func 105) #[] #[.pointer (some ⟨W.heap.size, 0, none⟩)]] ((W.alloc (.cells #[.int .i64 key] 3)).alloc (.cells #[.int .i64 0, .int .i64 0] 75)) fun e w' => e = .returned (.int .i64 (-1)) ∧ Below (W.heap.size + 1 + 1) ((W.alloc (.cells #[.int .i64 key] 3)).alloc (.cells #[.int .i64 0, .int .i64 0] 75)) w') := by
    have hx : ((W.alloc (.cells #[.int .i64 key] 3)).alloc (.cells #[.int .i64 0, .int .i64 0] 75)).cell? ⟨W.heap.size, 0, none⟩ = some (.int .i64 key) := cal ((cell_of_row _ W.heap.size 0 _ _ _ (halloc1 W _)).trans rfl) _
    have := idxD_any 105 callTk #[.pointer (some ⟨W.heap.size, 0, none⟩)] (keyP key) N l v ((W.alloc (.cells #[.int .i64 key] 3)).alloc (.cells #[.int .i64 0, .int .i64 0] 75)) ((h.row.alloc _).alloc _) (by omega)
      (fun m _ w hb => clo_c W.heap.size key m w ((hb.cell (p := ⟨W.heap.size, 0, none⟩) (by simp; omega)).trans hx))
    rw [hi] at this
    simp only [World.size_alloc] at this
    exact this
  obtain ⟨va, vc, rfl⟩ := ownv h.row
  clear h c0 c1 cf hi hl HR
  go_enter Try.func102, Try.ntmps102
  go_wp2_with (go_at_call 104; refine HI.out.mono ?_; rintro e w2 ⟨rfl, hb⟩; have d2 : w2.heap[W.heap.size + 1]? = some (.cells #[.int .i64 0, .int .i64 0] 75 (0, 0)) := (hb.block (W.heap.size + 1) (by omega)).trans (halloc2 _ _ (by simp)); have r0 : w2.cell? ⟨W.heap.size + 1, 0, none⟩ = some (.int .i64 0) := (cell_of_row w2 _ 0 _ _ _ d2).trans rfl; have r1 : w2.cell? ⟨W.heap.size + 1, 1, none⟩ = some (.int .i64 0) := (cell_of_row w2 _ 1 _ _ _ d2).trans rfl; have rf := fun k => frozen_of_row w2 (W.heap.size + 1) k _ _ d2; have B2 : Hid (Tch (fun _ => False) W w2) := (((Tch.refl _ W).alloc _).alloc _).bel (by simpa using hb); clear hb HI d2)
  refine bodyPost_ret (v := .tuple #[.agg #[.int .i64 0, .int .i64 0], .bool false]) (by simp [results, Try.results102, go_sem, *]) rfl ⟨rfl, ?_⟩
  exact (B2.out.set (.inr (by simp)) _).set (.inr (by simp)) _
set_option maxRecDepth 100000 in
set_option maxHeartbeats 4000000 in
theorem take_w (N a o g n cap i : Nat) (room : Int) (l l' : List (Int × Int)) (x1 x2 key : Int) (W : World) (h : SetAt W N a o room (.slice (some ⟨g, 0, none⟩) n cap) l) (hl : l.length = n) (hn : n ≤ 2) (hi : idxP (keyP key) l 0 = (i : Int)) (hx : l[i]? = some (x1, x2)) (hl' : l'.length = n - 1)
    (HD : ∀ w : World, w.ownsRow N 75 2 (.slice (some ⟨g, 0, none⟩) n cap) n (flatD l) → Calls Try.prog 106 #[.slice (some ⟨g, 0, none⟩) n cap, .int .i64 (i : Int), .int .i64 ((i : Int) + 1)] w fun e w' => e = .returned (.slice (some ⟨g, 0, none⟩) (n - 1) cap) ∧ w'.ownsRow N 75 2 (.slice (some ⟨g, 0, none⟩) (n - 1) cap) (n - 1) (flatD l') ∧ w.grownBy w' (some g)) :
    Calls Try.prog 102 #[.pointer (some ⟨a, o, none⟩), .int .i64 key] W fun e w' => e = .returned (.tuple #[.agg #[.int .i64 x1, .int .i64 x2], .bool true]) ∧ ∃ v', w'.ownsRow N 75 2 v' l'.length (flatD l') ∧ Stp W w' a o (.slice (some ⟨g, 0, none⟩) n cap) v' ∧ v' = .slice (some ⟨g, 0, none⟩) (n - 1) cap := by
  obtain ⟨c0, c1, cf⟩ := h.cells
  have ha := h.lt
  have hga : g ≠ a := fun e => h.ne (by simp [Value.ownBlock, e])
  have hrow := h.row
  rw [hl] at hrow
  have hilt : i < n := by rw [← hl]; exact (List.getElem?_eq_some_iff.1 hx).1
  have hgl : g < W.heap.size := (hrow.lt g rfl).2
  obtain ⟨x0, hx0⟩ : ∃ x0 : Nat, x0 = W.heap.size + 1 := ⟨_, rfl⟩
  have HR : Hid (W.ownsRow N 75 2 (.slice (some ⟨g, 0, none⟩) n cap) n (flatD l)) := hrow
  obtain ⟨y0, y1⟩ := flatD_at l i _ hx
  have k0 : W.cell? ⟨g, i * 2, none⟩ = some (.int .i64 x1) := (hrow.cellAt (i * 2) (by omega)).trans y0
  have k1 : W.cell? ⟨g, i * 2 + 1, none⟩ = some (.int .i64 x2) := (hrow.cellAt (i * 2 + 1) (by omega)).trans y1
  have c1' : ((W.alloc (.cells #[.int .i64 key] 3)).alloc (.cells #[.int .i64 0, .int .i64 0] 75)).cell? ⟨a, o + 1, none⟩ = some (.slice (some ⟨g, 0, none⟩) n cap) := cal (cal c1 _) _
  have HI : Hid (Calls Try.prog 104 #[.slice (some ⟨g, 0, none⟩) n cap, .func (.func 105) #[] #[.pointer (some ⟨W.heap.size, 0, none⟩)]] ((W.alloc (.cells #[.int .i64 key] 3)).alloc (.cells #[.int .i64 0, .int .i64 0] 75)) fun e w' => e = .returned (.int .i64 (i : Int)) ∧ Below (W.heap.size + 1 + 1) ((W.alloc (.cells #[.int .i64 key] 3)).alloc (.cells #[.int .i64 0, .int .i64 0] 75)) w') := by
    have hz : ((W.alloc (.cells #[.int .i64 key] 3)).alloc (.cells #[.int .i64 0, .int .i64 0] 75)).cell? ⟨W.heap.size, 0, none⟩ = some (.int .i64 key) := cal ((cell_of_row _ W.heap.size 0 _ _ _ (halloc1 W _)).trans rfl) _
    have := idxD_any 105 callTk #[.pointer (some ⟨W.heap.size, 0, none⟩)] (keyP key) N l (.slice (some ⟨g, 0, none⟩) n cap) ((W.alloc (.cells #[.int .i64 key] 3)).alloc (.cells #[.int .i64 0, .int .i64 0] 75)) ((h.row.alloc _).alloc _) (by omega)
      (fun m _ w hb => clo_c W.heap.size key m w ((hb.cell (p := ⟨W.heap.size, 0, none⟩) (by simp; omega)).trans hz))
    rw [hi] at this
    simp only [World.size_alloc] at this
    exact this
  have HDD : Hid (∀ w : World, w.ownsRow N 75 2 (.slice (some ⟨g, 0, none⟩) n cap) n (flatD l) → Calls Try.prog 106 #[.slice (some ⟨g, 0, none⟩) n cap, .int .i64 (i : Int), .int .i64 ((i : Int) + 1)] w fun e w' => e = .returned (.slice (some ⟨g, 0, none⟩) (n - 1) cap) ∧ w'.ownsRow N 75 2 (.slice (some ⟨g, 0, none⟩) (n - 1) cap) (n - 1) (flatD l') ∧ w.grownBy w' (some g)) := HD
  have HL : Hid (l'.length = n - 1) := hl'
  have HC := h.blk
  have HCC : Hid (∃ C : Array Value, W.heap[a]? = some (.cells C 108 (0, 0)) ∧ C[o]? = some (.int .i64 room) ∧ C[o + 1]? = some (.slice (some ⟨g, 0, none⟩) n cap)) := HC
  have C1 : Hid (W.cell? ⟨a, o + 1, none⟩ = some (.slice (some ⟨g, 0, none⟩) n cap)) := c1
  have CF : Hid (∀ k, W.frozen? ⟨a, k, none⟩ = false) := cf
  clear h hrow c0 hi hx hl' HD HC hl hx0 x0 y0 y1 cf
  go_enter Try.func102, Try.ntmps102
  go_wp2_with (first
    | (go_at_call 104; refine HI.out.mono ?_; rintro e w2 ⟨rfl, hb⟩; have d2 : w2.heap[W.heap.size + 1]? = some (.cells #[.int .i64 0, .int .i64 0] 75 (0, 0)) := (hb.block (W.heap.size + 1) (by omega)).trans (halloc2 _ _ (by simp)); have r0 : w2.cell? ⟨W.heap.size + 1, 0, none⟩ = some (.int .i64 0) := (cell_of_row w2 _ 0 _ _ _ d2).trans rfl; have r1 : w2.cell? ⟨W.heap.size + 1, 1, none⟩ = some (.int .i64 0) := (cell_of_row w2 _ 1 _ _ _ d2).trans rfl; have rf := fun k => frozen_of_row w2 (W.heap.size + 1) k _ _ d2; have ca : w2.cell? ⟨a, o + 1, none⟩ = some (.slice (some ⟨g, 0, none⟩) n cap) := (hb.cell (p := ⟨a, o + 1, none⟩) (by simp; omega)).trans c1'; have kk0 : w2.cell? ⟨g, i * 2, none⟩ = some (.int .i64 x1) := (hb.cell (p := ⟨g, i * 2, none⟩) (by simp; omega)).trans (cal (cal k0 _) _); have kk1 : w2.cell? ⟨g, i * 2 + 1, none⟩ = some (.int .i64 x2) := (hb.cell (p := ⟨g, i * 2 + 1, none⟩) (by simp; omega)).trans (cal (cal k1 _) _); have B2 : Hid (Tch (fun _ => False) W w2) := (((Tch.refl _ W).alloc _).alloc _).bel (by simpa using hb); have D2 : Hid (w2.heap[W.heap.size + 1]? = some (.cells #[.int .i64 0, .int .i64 0] 75 (0, 0))) := d2; clear hb HI d2 c1' c1 k0 k1)
    | (go_at_call 106; refine (HDD.out _ ?rw).mono ?_; rotate_left; rintro e w4 ⟨rfl, hr4, hg4⟩
       have t4 : Tch (fun k => k = g) W w4 := (((B2.out.mono fun _ _ x => x.elim).set (.inr (by simp)) _).set (.inr (by simp)) _).grown hg4 (fun k hk => .inl (by simpa using hk.symm))
       have T4 : Hid (Tch (fun k => k = g) W w4) := t4
       have e4 : w4.heap[a]? = W.heap[a]? := t4.blk a ha (fun e => hga e.symm)
       have a4 : w4.cell? ⟨a, o + 1, none⟩ = some (.slice (some ⟨g, 0, none⟩) n cap) := (World.cell?_of_block (a := ⟨a, o + 1, none⟩) e4).trans C1.out
       have f4 : w4.frozen? ⟨a, o + 1, none⟩ = false := (World.frozen?_of_block (a := ⟨a, o + 1, none⟩) e4).trans (CF.out _)
       have d4 : w4.heap[W.heap.size + 1]? = some (.cells #[.int .i64 x1, .int .i64 x2] 75 (0, 0)) := (hg4.block (W.heap.size + 1) (by simp; exact (Array.getElem?_eq_some_iff.1 D2.out).1) (by simp; omega)).trans (by rw [Go.Joins.block_setCell (Go.Joins.block_setCell D2.out _)]; rfl)
       have s0 : w4.cell? ⟨W.heap.size + 1, 0, none⟩ = some (.int .i64 x1) := (cell_of_row w4 _ 0 _ _ _ d4).trans rfl
       have s1 : w4.cell? ⟨W.heap.size + 1, 1, none⟩ = some (.int .i64 x2) := (cell_of_row w4 _ 1 _ _ _ d4).trans rfl
       have sf := fun k => frozen_of_row w4 (W.heap.size + 1) k _ _ d4
       have R4 : Hid (w4.ownsRow N 75 2 (.slice (some ⟨g, 0, none⟩) (n - 1) cap) (n - 1) (flatD l')) := hr4
       have E4 : Hid (w4.heap[a]? = W.heap[a]?) := e4
       clear hr4 hg4 t4 e4 d4 r0 r1 rf ca kk0 kk1 B2 D2 HDD))
  case rw => exact own_keep HR.out (fun k hk => by
    obtain rfl : g = k := by simpa [Value.ownBlock] using hk
    rw [Below.heap_setCell _ _ _ _ (by simp; omega), Below.heap_setCell _ _ _ _ (by simp; omega)]
    exact B2.out.blk g hgl (fun x => x))
  refine bodyPost_ret (v := .tuple #[.agg #[.int .i64 x1, .int .i64 x2], .bool true]) (by simp [results, Try.results102, go_sem, *]) rfl ⟨rfl, .slice (some ⟨g, 0, none⟩) (n - 1) cap, ?_, ⟨?_, ?_, ?_⟩, rfl⟩
  · rw [HL.out]
    refine own_keep R4.out (fun k hk => ?_)
    obtain rfl : g = k := by simpa [Value.ownBlock] using hk
    rw [Below.heap_setCell _ _ _ _ (by simp; omega), Below.heap_setCell _ _ _ _ (by simp; omega), Below.heap_setCell _ _ _ _ hga]
  · exact (((T4.out.mono fun k _ e => .inr (by simp [Value.ownBlock, e])).set (.inl (.inl rfl)) _).set (.inr (by simp)) _).set (.inr (by simp)) _
  · intro C hC
    rw [Below.heap_setCell _ _ _ _ (by simp; omega), Below.heap_setCell _ _ _ _ (by simp; omega)]
    exact Go.Joins.block_setCell (E4.out.trans hC) _
  · intro k hk; exact .inl (by simpa [Value.ownBlock] using hk)
end Go.Proofs.Ytdjmjdlolhfejaa
