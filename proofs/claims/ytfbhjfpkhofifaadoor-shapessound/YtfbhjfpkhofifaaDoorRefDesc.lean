/- The walk of arbiterref02's ParseDesc: the descriptor that a text writes, or the error; what was there before stays. -/
import Derived.Test.YtfbhjfpkhofifaaDoorDescA
namespace Go.Proofs.YtfbhjfpkhofifaaDoor
open Go.RowKit

/-- while the document's ParseDesc reads: the answer's block, the descriptor's block, its arguments, what was there before -/
structure Rq (w : World) (v : Value) (ts : List (Nat × List UInt8)) (vd : Bool) (rd : Int) (rn : ByteArray) (wr : World) : Prop where
  r : wr.heap[w.heap.size]? = some (.cells zeroD 50 (0, 0))
  d : wr.heap[w.heap.size + 1]? = some (.cells #[v, .bool vd, .int .i64 rd, .string rn] 50 (0, 0))
  own : wr.ownsRow (w.heap.size + 2) 48 2 v ts.length (flatT (ts.map natT))
  bel : Below w.heap.size w wr

section
variable {w wr w1 : World} {v : Value} {ts : List (Nat × List UInt8)} {vd : Bool} {rd : Int} {rn : ByteArray}

theorem Rq.keep (h : Rq w v ts vd rd rn wr) (hb : Below wr.heap.size wr w1) : Rq w v ts vd rd rn w1 :=
  ⟨by rw [hb.block _ (Array.getElem?_eq_some_iff.1 h.r).1]; exact h.r, by rw [hb.block _ (Array.getElem?_eq_some_iff.1 h.d).1]; exact h.d, own_below h.own hb (Nat.le_refl _), Below.step h.bel hb⟩

theorem Rq.cells (h : Rq w v ts vd rd rn wr) :
    wr.cell? ⟨w.heap.size, 0, none⟩ = some (.slice none 0 0) ∧ wr.cell? ⟨w.heap.size, 1, none⟩ = some (.bool false) ∧ wr.cell? ⟨w.heap.size, 2, none⟩ = some (.int .i64 0) ∧ wr.cell? ⟨w.heap.size, 3, none⟩ = some (.string ⟨#[]⟩) ∧
    wr.frozen? ⟨w.heap.size, 0, none⟩ = false ∧ wr.frozen? ⟨w.heap.size, 1, none⟩ = false ∧ wr.frozen? ⟨w.heap.size, 2, none⟩ = false ∧ wr.frozen? ⟨w.heap.size, 3, none⟩ = false ∧ w.heap.size < wr.heap.size := by
  refine ⟨?_, ?_, ?_, ?_, ?_, ?_, ?_, ?_, (Array.getElem?_eq_some_iff.1 h.r).1⟩
  · rw [cell_of_row _ w.heap.size 0 _ 50 (0, 0) h.r]; rfl
  · rw [cell_of_row _ w.heap.size 1 _ 50 (0, 0) h.r]; rfl
  · rw [cell_of_row _ w.heap.size 2 _ 50 (0, 0) h.r]; rfl
  · rw [cell_of_row _ w.heap.size 3 _ 50 (0, 0) h.r]; rfl
  all_goals simp [World.frozen?, h.r]

theorem Rq.cellsD (h : Rq w v ts vd rd rn wr) :
    wr.cell? ⟨w.heap.size + 1, 0, none⟩ = some v ∧ wr.cell? ⟨w.heap.size + 1, 1, none⟩ = some (.bool vd) ∧ wr.cell? ⟨w.heap.size + 1, 2, none⟩ = some (.int .i64 rd) ∧ wr.cell? ⟨w.heap.size + 1, 3, none⟩ = some (.string rn) ∧
    wr.frozen? ⟨w.heap.size + 1, 0, none⟩ = false ∧ wr.frozen? ⟨w.heap.size + 1, 1, none⟩ = false ∧ wr.frozen? ⟨w.heap.size + 1, 2, none⟩ = false ∧ wr.frozen? ⟨w.heap.size + 1, 3, none⟩ = false ∧ w.heap.size + 1 < wr.heap.size := by
  refine ⟨?_, ?_, ?_, ?_, ?_, ?_, ?_, ?_, (Array.getElem?_eq_some_iff.1 h.d).1⟩
  · rw [cell_of_row _ (w.heap.size + 1) 0 _ 50 (0, 0) h.d]; rfl
  · rw [cell_of_row _ (w.heap.size + 1) 1 _ 50 (0, 0) h.d]; rfl
  · rw [cell_of_row _ (w.heap.size + 1) 2 _ 50 (0, 0) h.d]; rfl
  · rw [cell_of_row _ (w.heap.size + 1) 3 _ 50 (0, 0) h.d]; rfl
  all_goals simp [World.frozen?, h.d]

theorem Rq.done (h : Rq w v ts vd rd rn wr) (u0 u1 u2 u3 : Value) :
    (set4 wr w.heap.size u0 u1 u2 u3).ownsRow w.heap.size 48 2 v ts.length (flatT (ts.map natT)) ∧ Below w.heap.size w (set4 wr w.heap.size u0 u1 u2 u3) := by
  have hg := grownBy_set4 wr w.heap.size u0 u1 u2 u3
  exact ⟨own_base (h.own.kept hg (.inr (fun e => by have := (h.own.lt _ e).1; omega))) (by omega), h.bel.grown hg h.bel.size (fun k e => by simp at e; omega)⟩

theorem Rq.first (w : World) : Rq w (.slice none 0 0) [] false 0 ⟨#[]⟩ ((w.alloc (.cells zeroD 50)).alloc (.cells zeroD 50)) := by
  refine ⟨?_, ?_, World.ownsRow_nil _ _ _ _, ((Below.refl _ _).alloc (Nat.le_refl _) _).alloc (by simp) _⟩
  · rw [Below.heap_alloc _ _ _ (by simp)]; exact heap_alloc_new w _
  · have := heap_alloc_new (w.alloc (.cells zeroD 50)) (.cells zeroD 50)
    simpa [zeroD] using this

/-- a cell of the descriptor is written -/
theorem Rq.put {u1 : Value} {vd' : Bool} {rd' : Int} {rn' : ByteArray} {o : Nat} (h : Rq w v ts vd rd rn wr) (he : (#[v, .bool vd, .int .i64 rd, .string rn] : Array Value).setIfInBounds o u1 = #[v, .bool vd', .int .i64 rd', .string rn']) :
    Rq w v ts vd' rd' rn' (wr.setCell ⟨w.heap.size + 1, o, none⟩ u1) := by
  have hg := grownBy_set wr (w.heap.size + 1) o u1
  refine ⟨?_, ?_, h.own.kept hg (.inr (fun e => by have := (h.own.lt _ e).1; omega)), h.bel.setCell (by show w.heap.size ≤ w.heap.size + 1; omega) _⟩
  · rw [hg.block _ (Array.getElem?_eq_some_iff.1 h.r).1 (by simp)]; exact h.r
  · rw [heap_setCell_same wr (w.heap.size + 1) o _ 50 _ h.d, he]

/-- behind an append: the arguments are one more, and the descriptor's block as it was -/
structure Rp (w : World) (v v' : Value) (ts : List (Nat × List UInt8)) (wr : World) : Prop where
  r : wr.heap[w.heap.size]? = some (.cells zeroD 50 (0, 0))
  d : wr.heap[w.heap.size + 1]? = some (.cells #[v, .bool false, .int .i64 0, .string ⟨#[]⟩] 50 (0, 0))
  own : wr.ownsRow (w.heap.size + 2) 48 2 v' ts.length (flatT (ts.map natT))
  bel : Below w.heap.size w wr

theorem Rq.app {w2 : World} {v' : Value} {k : Nat} {nm : List UInt8} (o1 o2 : Obj) (h : Rq w v ts false 0 ⟨#[]⟩ wr)
    (ho : w2.ownsRow (w.heap.size + 2) 48 2 v' (ts.length + 1) (flatT (ts.map natT) ++ [.int .i64 k, .string ⟨nm.toArray⟩])) (hg : ((wr.alloc o1).alloc o2).grownBy w2 v.ownBlock) : Rp w v v' (ts ++ [(k, nm)]) w2 := by
  have h2 := h.keep (((Below.refl _ _).alloc (Nat.le_refl _) o1).alloc (by simp) o2)
  refine ⟨?_, ?_, ?_, ?_⟩
  · rw [hg.block _ (Array.getElem?_eq_some_iff.1 h2.r).1 (fun e => by have := (h.own.lt _ e.symm).1; omega)]; exact h2.r
  · rw [hg.block _ (Array.getElem?_eq_some_iff.1 h2.d).1 (fun e => by have := (h.own.lt _ e.symm).1; omega)]; exact h2.d
  · have e : flatT ((ts ++ [(k, nm)]).map natT) = flatT (ts.map natT) ++ [.int .i64 k, .string ⟨nm.toArray⟩] := by simp [flatT, tyC, natT]
    rw [e, List.length_append]
    exact ho
  · exact h2.bel.grown hg h2.bel.size (fun x e => by have := (h.own.lt _ e).1; omega)

theorem Rp.cell {v' : Value} (h : Rp w v v' ts wr) : wr.cell? ⟨w.heap.size + 1, 0, none⟩ = some v ∧ wr.frozen? ⟨w.heap.size + 1, 0, none⟩ = false := by
  constructor
  · rw [cell_of_row _ (w.heap.size + 1) 0 _ 50 (0, 0) h.d]; rfl
  · simp [World.frozen?, h.d]

theorem Rp.put {v' : Value} (h : Rp w v v' ts wr) : Rq w v' ts false 0 ⟨#[]⟩ (wr.setCell ⟨w.heap.size + 1, 0, none⟩ v') := by
  have hg := grownBy_set wr (w.heap.size + 1) 0 v'
  refine ⟨?_, ?_, h.own.kept hg (.inr (fun e => by have := (h.own.lt _ e).1; omega)), h.bel.setCell (by show w.heap.size ≤ w.heap.size + 1; omega) _⟩
  · rw [hg.block _ (Array.getElem?_eq_some_iff.1 h.r).1 (by simp)]; exact h.r
  · rw [heap_setCell_same wr (w.heap.size + 1) 0 _ 50 _ h.d]; rfl

end

theorem readD_none {l : List UInt8} (h : descOf l = none) : readD l = none := by rw [descOf_readD, h]
theorem readD_open {l : List UInt8} (h : argsOf l = none) : readD l = none := readD_none (by rw [descOf, h])

theorem byte_ne (s : ByteArray) (i : Nat) (h : i < s.size) (c : UInt8) : (((s[i]).toNat : Int) != (c.toNat : Int)) = !decide (s[i] = c) := by
  rw [bne, byte_eq s i h c]

end Go.Proofs.YtfbhjfpkhofifaaDoor
