/- A set of a cache in memory; what a call turns (Tch, Stp); take. -/
import Derived.Test.YtdjmjdlolhfejaaKaD
namespace Go.Proofs.Ytdjmjdlolhfejaa
open Go.RowKit Go.Maps

/-- of the blocks that W has, w turns none but those of S -/
structure Tch (S : Nat → Prop) (W w : World) : Prop where
  os : w.os = W.os
  tape : w.tape = W.tape
  output : w.output = W.output
  size : W.heap.size ≤ w.heap.size
  blk : ∀ k, k < W.heap.size → ¬ S k → w.heap[k]? = W.heap[k]?
theorem Tch.refl (S : Nat → Prop) (W : World) : Tch S W W := ⟨rfl, rfl, rfl, Nat.le_refl _, fun _ _ _ => rfl⟩
theorem Tch.bel {S : Nat → Prop} {W w w' : World} (h : Tch S W w) (hb : Below w.heap.size w w') : Tch S W w' :=
  ⟨hb.os.trans h.os, hb.tape.trans h.tape, hb.output.trans h.output, Nat.le_trans h.size hb.size, fun k hk hs => (hb.block k (Nat.lt_of_lt_of_le hk h.size)).trans (h.blk k hk hs)⟩
theorem Tch.alloc {S : Nat → Prop} {W w : World} (h : Tch S W w) (o : Obj) : Tch S W (w.alloc o) := h.bel ((Below.refl _ w).alloc (Nat.le_refl _) o)
theorem Tch.drew {S : Nat → Prop} {W w : World} (h : Tch S W w) : Tch S W w.drew := ⟨h.os, h.tape, h.output, h.size, h.blk⟩
theorem Tch.set {S : Nat → Prop} {W w : World} (h : Tch S W w) {p : Addr} (hp : S p.block ∨ W.heap.size ≤ p.block) (u : Value) : Tch S W (w.setCell p u) :=
  ⟨h.os, h.tape, h.output, by simpa [World.setCell] using h.size, fun k hk hs => (Below.heap_setCell w p u k (by rintro rfl; rcases hp with hp | hp; exact hs hp; omega)).trans (h.blk k hk hs)⟩
theorem Tch.grown {S : Nat → Prop} {W w w' : World} {r : Option Nat} (h : Tch S W w) (hg : w.grownBy w' r) (hr : ∀ k, r = some k → S k ∨ W.heap.size ≤ k) : Tch S W w' :=
  ⟨hg.os.trans h.os, hg.tape.trans h.tape, hg.output.trans h.output, Nat.le_trans h.size hg.size, fun k hk hs => (hg.block k (Nat.lt_of_lt_of_le hk h.size) (fun e => by rcases hr k e.symm with x | x; exact hs x; omega)).trans (h.blk k hk hs)⟩
theorem Tch.mono {S S' : Nat → Prop} {W w : World} (h : Tch S W w) (hs : ∀ k, k < W.heap.size → S k → S' k) : Tch S' W w := ⟨h.os, h.tape, h.output, h.size, fun k hk hn => h.blk k hk (fun x => hn (hs k hk x))⟩
theorem Tch.trans {S S' : Nat → Prop} {a b c : World} (h : Tch S a b) (k : Tch S' b c) (hs : ∀ k, k < a.heap.size → S' k → S k) : Tch S a c :=
  ⟨k.os.trans h.os, k.tape.trans h.tape, k.output.trans h.output, Nat.le_trans h.size k.size, fun i hi hn => (k.blk i (Nat.lt_of_lt_of_le hi h.size) (fun x => hn (hs i hi x))).trans (h.blk i hi hn)⟩
theorem Tch.below {S : Nat → Prop} {W w : World} (h : Tch S W w) {N : Nat} (hN : N ≤ W.heap.size) (hs : ∀ k, S k → N ≤ k) : Below N W w :=
  ⟨h.os, h.tape, h.output, h.size, fun k hk => h.blk k (Nat.lt_of_lt_of_le hk hN) (fun x => by have := hs k x; omega)⟩
theorem own_keep {w w' : World} {N e s : Nat} {v : Value} {n : Nat} {xs : List Value} (h : w.ownsRow N e s v n xs) (hk : ∀ g, v.ownBlock = some g → w'.heap[g]? = w.heap[g]?) : w'.ownsRow N e s v n xs := by
  refine ⟨h.1, ?_⟩
  rcases h.2 with ⟨e, e2⟩ | ⟨g, cap, cur, rfl, h1, h2, h3⟩
  · exact .inl ⟨e, e2⟩
  · exact .inr ⟨g, cap, cur, rfl, h1, (hk g rfl).trans h2, h3⟩
/-- a set: at place o of block a, its room and its entries -/
structure SetAt (W : World) (N a o : Nat) (room : Int) (v : Value) (l : List (Int × Int)) : Prop where
  na : N ≤ a
  blk : ∃ C : Array Value, W.heap[a]? = some (.cells C 108 (0, 0)) ∧ C[o]? = some (.int .i64 room) ∧ C[o + 1]? = some v
  row : W.ownsRow N 75 2 v l.length (flatD l)
theorem SetAt.lt {W : World} {N a o : Nat} {room : Int} {v : Value} {l : List (Int × Int)} (h : SetAt W N a o room v l) : a < W.heap.size := by
  obtain ⟨C, h1, _⟩ := h.blk
  exact (Array.getElem?_eq_some_iff.1 h1).1
theorem SetAt.cells {W : World} {N a o : Nat} {room : Int} {v : Value} {l : List (Int × Int)} (h : SetAt W N a o room v l) : W.cell? ⟨a, o, none⟩ = some (.int .i64 room) ∧ W.cell? ⟨a, o + 1, none⟩ = some v ∧ ∀ k, W.frozen? ⟨a, k, none⟩ = false := by
  obtain ⟨C, h1, h2, h3⟩ := h.blk
  exact ⟨(cell_of_row W a o _ _ _ h1).trans h2, (cell_of_row W a (o + 1) _ _ _ h1).trans h3, fun k => frozen_of_row W a k _ _ h1⟩
theorem SetAt.ne {W : World} {N a o : Nat} {room : Int} {v : Value} {l : List (Int × Int)} (h : SetAt W N a o room v l) : v.ownBlock ≠ some a := by
  intro e
  obtain ⟨C, h1, _⟩ := h.blk
  rcases h.row.2 with ⟨rfl, _⟩ | ⟨g, cap, cur, rfl, _, h2, _⟩
  · simp [Value.ownBlock] at e
  · simp [Value.ownBlock] at e
    subst e
    rw [h1] at h2
    simp at h2
/-- what is turned behind a call of a set's: its list's place in block a, its row's block, and what is new -/
def SS (a : Nat) (v : Value) : Nat → Prop := fun k => k = a ∨ v.ownBlock = some k
structure Stp (W w : World) (a o : Nat) (v v' : Value) : Prop where
  tch : Tch (SS a v) W w
  arr : ∀ C, W.heap[a]? = some (.cells C 108 (0, 0)) → w.heap[a]? = some (.cells (C.setIfInBounds (o + 1) v') 108 (0, 0))
  new : ∀ g, v'.ownBlock = some g → v.ownBlock = some g ∨ W.heap.size ≤ g
theorem Stp.set {W w : World} {N a o : Nat} {room : Int} {v v' : Value} {l l' : List (Int × Int)} (h : Stp W w a o v v') (hs : SetAt W N a o room v l) (hr : w.ownsRow N 75 2 v' l'.length (flatD l')) : SetAt w N a o room v' l' := by
  obtain ⟨C, h1, h2, h3⟩ := hs.blk
  refine ⟨hs.na, ⟨_, h.arr C h1, ?_, ?_⟩, hr⟩
  · rw [Array.getElem?_setIfInBounds_ne (by omega)]; exact h2
  · have := (Array.getElem?_eq_some_iff.1 h3).1
    rw [Array.getElem?_setIfInBounds_self_of_lt this]
theorem Stp.trans {W w w2 : World} {a o : Nat} {v v' v'' : Value} (h : Stp W w a o v v') (k : Stp w w2 a o v' v'') : Stp W w2 a o v v'' := by
  refine ⟨h.tch.trans k.tch ?_, ?_, ?_⟩
  · intro i hi hs
    rcases hs with rfl | hs
    · exact .inl rfl
    · rcases h.new i hs with x | x
      · exact .inr x
      · omega
  · intro C hC
    rw [k.arr _ (h.arr C hC), Array.setIfInBounds_setIfInBounds]
  · intro g hg
    rcases k.new g hg with x | x
    · exact h.new g x
    · exact .inr (Nat.le_trans h.tch.size x)
/-- nothing of the set was turned -/
theorem Stp.same {W w : World} {a o : Nat} {v : Value} (h : Tch (fun _ => False) W w) (hC : ∀ C, W.heap[a]? = some (.cells C 108 (0, 0)) → C[o + 1]? = some v) : Stp W w a o v v := by
  refine ⟨h.mono fun _ _ x => x.elim, fun C hc => ?_, fun g hg => .inl hg⟩
  have e : C.setIfInBounds (o + 1) v = C := by
    apply Array.ext_getElem?
    intro k
    by_cases hk : k = o + 1
    · subst hk
      have := (Array.getElem?_eq_some_iff.1 (hC C hc)).1
      rw [Array.getElem?_setIfInBounds_self_of_lt this, hC C hc]
    · rw [Array.getElem?_setIfInBounds_ne (by omega)]
  rw [e, h.blk a (Array.getElem?_eq_some_iff.1 hc).1 (fun x => x)]; exact hc
end Go.Proofs.Ytdjmjdlolhfejaa
