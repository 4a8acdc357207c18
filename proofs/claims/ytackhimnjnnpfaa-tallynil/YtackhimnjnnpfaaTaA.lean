/- Package tally: a tally in memory (a block that names its list, and the list's block); New, Len, checkCounter, a counter's add, read, most. -/
import Derived.Test.YtackhimnjnnpfaaChecked
import Derived.WalkKit
import Derived.OwnWalk
import Derived.Laws.LoneSync
import Derived.Laws.MakeOwn
import Derived.Deep.OwnRows
import Derived.IntWalk
import Derived.Lib.SmallJoins
namespace Go.Proofs.Ytackhimnjnnpfaa
open Go.RowKit

theorem Try.hinfoCt : (Try.prog.info? 60).map (fun i => (i.zero, i.size, i.bytes)) = some (some (.agg #[.int .i64 0]), 1, 8) := by kernel_rfl

/-- the numbers of a list as a block's cells -/
def numC (xs : List Int) : Array Value := (xs.map (Value.int .i64)).toArray
/-- block p is a tally whose counters lie in block q -/
structure TAt (w : World) (p q : Nat) (xs : List Int) : Prop where
  ne : p ≠ q
  hp : w.heap[p]? = some (.cells #[.slice (some ⟨q, 0, none⟩) xs.length xs.length] 46 (0, 0))
  hq : w.heap[q]? = some (.cells (numC xs) 60 (0, 0))

theorem numC_size (xs : List Int) : (numC xs).size = xs.length := by simp [numC]
theorem TAt.cellP {w : World} {p q : Nat} {xs : List Int} (h : TAt w p q xs) : w.cell? ⟨p, 0, none⟩ = some (.slice (some ⟨q, 0, none⟩) xs.length xs.length) := (cell_of_row w p 0 _ _ _ h.hp).trans rfl
theorem TAt.cellQ {w : World} {p q : Nat} {xs : List Int} (h : TAt w p q xs) {k : Nat} {x : Int} (hx : xs[k]? = some x) : w.cell? ⟨q, k, none⟩ = some (.int .i64 x) := by
  rw [cell_of_row w q k _ _ _ h.hq]; simp [numC, hx]
theorem TAt.frz {w : World} {p q : Nat} {xs : List Int} (h : TAt w p q xs) (k : Nat) : w.frozen? ⟨q, k, none⟩ = false := frozen_of_row w q k _ _ h.hq
theorem TAt.ltp {w : World} {p q : Nat} {xs : List Int} (h : TAt w p q xs) : p < w.heap.size := (Array.getElem?_eq_some_iff.1 h.hp).1
theorem TAt.ltq {w : World} {p q : Nat} {xs : List Int} (h : TAt w p q xs) : q < w.heap.size := (Array.getElem?_eq_some_iff.1 h.hq).1
/-- a tally stays where its two blocks stay -/
theorem TAt.keep {w w' : World} {p q : Nat} {xs : List Int} (h : TAt w p q xs) (h1 : w'.heap[p]? = w.heap[p]?) (h2 : w'.heap[q]? = w.heap[q]?) : TAt w' p q xs := ⟨h.ne, h1.trans h.hp, h2.trans h.hq⟩
theorem TAt.below {w w' : World} {p q : Nat} {xs : List Int} (h : TAt w p q xs) (hb : Below w.heap.size w w') : TAt w' p q xs := h.keep (hb.block p h.ltp) (hb.block q h.ltq)
/-- a counter is turned -/
theorem TAt.set {w : World} {p q : Nat} {xs : List Int} (h : TAt w p q xs) (k : Nat) (s : Int) : TAt (w.setCell ⟨q, k, none⟩ (.int .i64 s)) p q (xs.set k s) := by
  refine ⟨h.ne, ?_, ?_⟩
  · rw [List.length_set, Below.heap_setCell _ _ _ _ h.ne]; exact h.hp
  · rw [Go.Joins.block_setCell (i := k) h.hq]
    simp [numC]
theorem TAt.set_far {w : World} {p q : Nat} {xs : List Int} (h : TAt w p q xs) {q2 k : Nat} (v : Value) (h1 : p ≠ q2) (h2 : q ≠ q2) : TAt (w.setCell ⟨q2, k, none⟩ v) p q xs :=
  h.keep (Below.heap_setCell _ _ _ _ h1) (Below.heap_setCell _ _ _ _ h2)

set_option maxRecDepth 100000 in
theorem tnew_yes (n : Nat) (h1 : 1 ≤ n) (h2 : n ≤ 64) (W : World) :
    Calls Try.prog 8 #[.int .i64 (n : Int)] W fun e w' => e = .returned (.tuple #[.pointer (some ⟨W.heap.size + 1, 0, none⟩), .int .i64 0]) ∧ TAt w' (W.heap.size + 1) W.heap.size (List.replicate n 0) ∧ Below W.heap.size W w' ∧ w'.heap.size = W.heap.size + 2 := by
  have hmk : ∀ w : World, (Instr.makeSlice 44 (.int .i64 (n : Int)) (.int .i64 (n : Int))).run Try.prog w = .ok (.slice (some ⟨w.heap.size, 0, none⟩) n n) (w.alloc (.cells (numC (List.replicate n 0)) 60)) := fun w => by
    obtain ⟨i0, hi, hz0, hz1, hz2⟩ := info_parts Try.hinfoCt
    have := run_make w (P := Try.prog) 44 60 i0 _ Try.underlying44 hi hz0 .i64 .i64 (n : Int) (n : Int) (by omega) (Int.le_refl _) (by rw [hz2]; omega) (by omega)
    rw [hz1, Int.toNat_natCast] at this
    rw [this]
    have e : madeCells (Value.agg #[.int .i64 0]).cells (n * 1) = numC (List.replicate n 0) := by
      apply Array.ext
      · rw [size_madeCells, numC_size, List.length_replicate, Nat.mul_one]
      · intro k h1 h2
        simp [numC, madeCells, Value.cells, Nat.mod_one]
    rw [e]
  go_enter Try.func8, Try.ntmps8
  have g1 : ¬ ((n : Int) < 1) := by omega
  have g2 : ¬ ((64 : Int) < n) := by omega
  go_wp2
  go_ret2
  refine ⟨rfl, ⟨by omega, ?_, ?_⟩, ((Below.refl _ W).alloc (Nat.le_refl _) _).alloc (by simp) _, by simp⟩
  · have := heap_alloc_new (W.alloc (.cells (numC (List.replicate n 0)) 60)) (.cells #[.slice (some ⟨W.heap.size, 0, none⟩) n n] 46)
    simpa using this
  · rw [Below.heap_alloc _ _ _ (by simp)]; exact heap_alloc_new W _

set_option maxRecDepth 100000 in
theorem tnew_no (n : Int) (h : n < 1 ∨ 64 < n) (W : World) :
    Calls Try.prog 8 #[.int .i64 n] W fun e w' => e = .returned (.tuple #[.pointer none, .int .i64 7]) ∧ w' = W := by
  go_enter Try.func8, Try.ntmps8
  by_cases g1 : n < 1
  · go_wp2
    go_ret2
    exact ⟨rfl, rfl⟩
  · have g2 : (64 : Int) < n := by omega
    go_wp2
    go_ret2
    exact ⟨rfl, rfl⟩
theorem tlen_nil (W : World) : Calls Try.prog 10 #[.pointer none] W fun e w' => e = .returned (.int .i64 0) ∧ w' = W := by
  go_enter Try.func10, Try.ntmps10
  go_wp2
  go_ret
  exact ⟨rfl, rfl⟩
theorem tlen_c {W : World} {p q : Nat} {xs : List Int} (h : TAt W p q xs) : Calls Try.prog 10 #[.pointer (some ⟨p, 0, none⟩)] W fun e w' => e = .returned (.int .i64 xs.length) ∧ w' = W := by
  have hc := h.cellP
  go_enter Try.func10, Try.ntmps10
  go_wp2
  go_ret
  exact ⟨rfl, rfl⟩
theorem tchk_nil (k : Int) (W : World) : Calls Try.prog 31 #[.pointer none, .int .i64 k] W fun e w' => e = .returned (.int .i64 2) ∧ w' = W := by
  go_enter Try.func31, Try.ntmps31
  go_wp2
  go_ret
  exact ⟨rfl, rfl⟩
set_option maxRecDepth 100000 in
theorem tchk_no {W : World} {p q : Nat} {xs : List Int} (h : TAt W p q xs) (k : Int) (hk : k < 0 ∨ xs.length ≤ k) : Calls Try.prog 31 #[.pointer (some ⟨p, 0, none⟩), .int .i64 k] W fun e w' => e = .returned (.int .i64 3) ∧ w' = W := by
  have hc := h.cellP
  go_enter Try.func31, Try.ntmps31
  by_cases g1 : k < 0
  · go_wp2
    go_ret
    exact ⟨rfl, rfl⟩
  · have g2 : (xs.length : Int) ≤ k := by omega
    go_wp2
    go_ret
    exact ⟨rfl, rfl⟩
set_option maxRecDepth 100000 in
theorem tchk_yes {W : World} {p q : Nat} {xs : List Int} (h : TAt W p q xs) (k : Nat) (hk : k < xs.length) : Calls Try.prog 31 #[.pointer (some ⟨p, 0, none⟩), .int .i64 (k : Int)] W fun e w' => e = .returned (.int .i64 0) ∧ w' = W := by
  have hc := h.cellP
  have g1 : ¬ ((k : Int) < 0) := by omega
  have g2 : ¬ ((xs.length : Int) ≤ k) := by omega
  go_enter Try.func31, Try.ntmps31
  go_wp2
  go_ret
  exact ⟨rfl, rfl⟩
/-- what a sum of two ints of 64 bits is -/
theorem add64 (x y : Int) (w : World) : (Op.intArith .add .i64 x y).run Try.prog w = .ok (.int .i64 (wrap64 (x + y))) w := by simp [go_sem, wrap64, IntKind.wrap_i64]
set_option maxRecDepth 100000 in
theorem cadd_c (q k : Nat) (x y : Int) (W : World) (h0 : W.cell? ⟨q, k, none⟩ = some (.int .i64 x)) (f0 : W.frozen? ⟨q, k, none⟩ = false) :
    Calls Try.prog 28 #[.pointer (some ⟨q, k, none⟩), .int .i64 y] W fun e w' => e = .returned (.int .i64 (wrap64 (x + y))) ∧ w' = W.setCell ⟨q, k, none⟩ (.int .i64 (wrap64 (x + y))) := by
  have ha := run_call_add (P := Try.prog) Try.func56 (by kernel_rfl) (by kernel_rfl) (by kernel_rfl) .i64 (by kernel_rfl) h0 f0 (add64 x y W)
  go_enter Try.func28, Try.ntmps28
  go_wp2
  go_ret
  exact ⟨rfl, rfl⟩
set_option maxRecDepth 100000 in
theorem cread_c (q k : Nat) (x : Int) (W : World) (h0 : W.cell? ⟨q, k, none⟩ = some (.int .i64 x)) :
    Calls Try.prog 30 #[.pointer (some ⟨q, k, none⟩)] W fun e w' => e = .returned (.int .i64 x) ∧ w' = W := by
  have ha := run_call_load (P := Try.prog) Try.func57 (by kernel_rfl) (by kernel_rfl) (by kernel_rfl) .i64 (by kernel_rfl) h0
  go_enter Try.func30, Try.ntmps30
  go_wp2
  go_ret
  exact ⟨rfl, rfl⟩
end Go.Proofs.Ytackhimnjnnpfaa
