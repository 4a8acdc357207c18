/- A range over an iterator that keeps its place in a cell of its own (a captured variable, block b): the law for the statement, at the wide fence. What the body's own word speaks of lies below the loop's start and apart from b. -/
import Derived.RangeFuncNested
import Derived.RangeFuncLeaves
import Derived.RangeFuncFrom
import Derived.Shelf.Abstract
import Derived.WalkKit
import Derived.OwnWalkIn
import Derived.TacticsInMore
import Derived.LoopNIn
import Derived.LoopIn
import Derived.Test.YtdkjapfnilbomaaDoorIdxA
namespace Go.Proofs.YtdkjapfnilbomaaDoor
open Go.RowKit Go.Shelf

/-- below B all but block b lies as it lay -/
structure Off (B b : Nat) (w w' : World) : Prop where
  os : w'.os = w.os
  tape : w'.tape = w.tape
  output : w'.output = w.output
  size : w.heap.size ≤ w'.heap.size
  block : ∀ k, k < B → k ≠ b → w'.heap[k]? = w.heap[k]?

theorem Off.refl (B b : Nat) (w : World) : Off B b w w := ⟨rfl, rfl, rfl, Nat.le_refl _, fun _ _ _ => rfl⟩
theorem Off.trans {B b : Nat} {x y z : World} (h : Off B b x y) (k : Off B b y z) : Off B b x z :=
  ⟨k.os.trans h.os, k.tape.trans h.tape, k.output.trans h.output, Nat.le_trans h.size k.size, fun i hi hb => (k.block i hi hb).trans (h.block i hi hb)⟩
theorem Off.mono {B B' b : Nat} {x y : World} (h : Off B b x y) (hB : B' ≤ B) : Off B' b x y := ⟨h.os, h.tape, h.output, h.size, fun i hi hb => h.block i (by omega) hb⟩
theorem Off.below {B b n : Nat} {x y : World} (h : Off B b x y) (hn : n ≤ B) (hb : n ≤ b) : Below n x y := ⟨h.os, h.tape, h.output, h.size, fun i hi => h.block i (by omega) (by omega)⟩
theorem off_below {B b : Nat} {x y : World} (h : Below B x y) : Off B b x y := ⟨h.os, h.tape, h.output, h.size, fun i hi _ => h.block i hi⟩
theorem off_put {B b : Nat} (w : World) (l : Nat) (o : Obj) (h : B ≤ l) : Off B b w (w.putObj l o) := ⟨rfl, rfl, rfl, by simp, fun k hk _ => World.putObj_heap_other (by omega)⟩
theorem off_set {B b : Nat} (w : World) (o : Nat) (v : Value) : Off B b w (w.setCell ⟨b, o, none⟩ v) := by
  have h := (Below.refl b w).setCell (p := ⟨b, o, none⟩) (Nat.le_refl _) v
  refine ⟨h.os, h.tape, h.output, h.size, fun k _ hk => ?_⟩
  exact Below.heap_setCell _ _ _ _ hk

/-- the body's word at the end of a round -/
def cellPost {α : Type} (ks : List Nat) (I Ix : List α → World → Prop) (xs : List α) (W : World) : Exit → Act → World → Prop
  | .normal, _, W' => KeepsOthers W W' ∧ (∀ k ∈ ks, W'.heap[k]? = W.heap[k]?) ∧ I xs W'
  | .ret, _, W' => KeepsOthers W W' ∧ Ix xs W'
  | _, _, _ => False

/-- the iterator's contract: function gf with captured lb, its place in block b, its other blocks among ks -/
def SeqCell {α : Type} (n gf : Nat) (lb : Array Value) (encs : α → Array Value) (b : Nat) (ks : List Nat) (S Sp : List α → Prop) (w : World) : Prop :=
  ∀ (l : Nat) (J Jx : List α → World → Prop) (W : World), Below w.heap.size w W →
    (∀ s A B, J s A → Off W.heap.size b A B → J s B) →
    (∀ pre x W1, J pre W1 → YieldAt Fence.wide (n - 1) Tryd.prog l (encs x) W1 fun e W' =>
      (e = .returned (.bool true) ∧ J (pre ++ [x]) W' ∧ ∀ k ∈ ks, W'.heap[k]? = W1.heap[k]?) ∨ (e = .returned (.bool false) ∧ Jx (pre ++ [x]) W')) →
    J [] W →
    CallsIn Fence.wide n Tryd.prog gf (#[.func (.yield l) #[] #[]] ++ lb) W fun e W' => (∃ v, e = .returned v) ∧ ((∃ xs, S xs ∧ J xs W') ∨ (∃ pre, Sp pre ∧ Jx pre W'))

theorem range_cell {α : Type} {n : Nat} {g : Operand} {ps : Array Tmp} {assign body : Code} {Q : Exit → Act → World → Prop} {a : Act} {w : World}
    {gf : Nat} {lb : Array Value} (hg : a.eval g = .func (.func gf) #[] lb) (eg : ∀ args w, (callFunc gf args).run Tryd.prog w = .ok (.enter gf args) w)
    {encs : α → Array Value} {b : Nat} {ks : List Nat} {S Sp : List α → Prop} (hseq : SeqCell (n - 1) gf lb encs b ks S Sp w) (hps : ∀ x, (encs x).size = ps.size)
    (hb : b < w.heap.size) (hks : ∀ k ∈ ks, k < w.heap.size)
    (I Ix : List α → World → Prop) (hI : ∀ s A B, I s A → Off w.heap.size b A B → I s B) (hIx : ∀ s A B, Ix s A → Off w.heap.size b A B → Ix s B) (h0 : I [] w) (a₁ : α → Act)
    (hassign : ∀ (l : Nat) (x : α) (W : World) (K : Act → World → Prop), K (a₁ x) W →
      assign.wpIn (Fence.wide.inRound l) (n - 1 - 1) Tryd.prog (Exit.then K (fun _ _ _ => False)) { tmps := (ps.zip (encs x)).foldl (fun t (p, v) => t.setIfInBounds p v) a.tmps, defers := [] } W)
    (hbody : ∀ (l : Nat) (pre : List α) (x : α) (W : World), I pre W → body.wpIn (Fence.wide.inRound l) (n - 1 - 1) Tryd.prog (cellPost ks I Ix (pre ++ [x]) W) (a₁ x) W)
    (hdone : ∀ (D : Nat) (xs : List α) (W : World), w.heap.size ≤ D → S xs → I xs W → W.heap[D]? = some (.deferred (some [])) → Q .normal { a with defers := { target := .collected D, args := #[] } :: a.defers } W)
    (hstop : ∀ (D : Nat) (pre : List α) (W : World), w.heap.size ≤ D → Sp pre → Ix pre W → W.heap[D]? = some (.deferred (some [])) → Code.ret.wpIn Fence.wide n Tryd.prog Q { a with defers := { target := .collected D, args := #[] } :: a.defers } W) :
    (Code.rangeFunc g ps assign body).wpIn Fence.wide n Tryd.prog Q a w := by
  apply wpIn_rangeFunc
  intro fn hfn
  -- the two blocks that the statement lays: D for deferred calls, L for the loop's record
  let D := w.heap.size
  let L := w.heap.size + 1
  let R : LoopState → Option Code → Loop := fun st pe => { state := st, pending := pe, fn := fn, tmps := a.tmps, params := ps, assign := assign, body := body, defers := D }
  let W1 := (w.alloc (.deferred (some []))).alloc (.loop (R .ready none))
  have sz1 : W1.heap.size = w.heap.size + 2 := by simp [W1]
  have lay1 : W1.heap[L]? = some (.loop (R .ready none)) := by
    have := World.alloc_heap_new (w.alloc (.deferred (some []))) (.loop (R .ready none))
    rwa [World.size_alloc] at this
  have layD : W1.heap[D]? = some (.deferred (some [])) := (Below.heap_alloc _ _ _ (by simp [D])).trans (World.alloc_heap_new w _)
  have bel1 : Below w.heap.size w W1 := ((Below.refl _ w).alloc (Nat.le_refl _) _).alloc (by simp) _
  have I1 : I [] W1 := hI _ _ _ h0 (off_below bel1)
  refine ⟨L, [{ target := .collected D, args := #[] }], W1, { target := .fn (.func gf) lb, args := #[.func (.yield L) #[] #[]] }, W1, gf, #[.func (.yield L) #[] #[]] ++ lb, W1, run_enterLoop_outer _ _ _ _ _, ?_, fun _ _ => trivial, ?_, (fun h => by cases h), ?_⟩
  · simp only [resolve, hg]
    simp [go_sem]
  · simp [invoke, go_sem, eg]
  · -- what stands while the iterator runs: the caller's word, and the two blocks
    refine (hseq L (fun pre W => I pre W ∧ W.heap[L]? = some (.loop (R .ready none)) ∧ W.heap[D]? = some (.deferred (some [])))
      (fun pre W => Ix pre W ∧ W.heap[L]? = some (.loop (R .done (some .ret))) ∧ W.heap[D]? = some (.deferred (some []))) W1 bel1 ?_ ?_ ⟨I1, lay1, layD⟩).mono ?_
    · rintro s A B ⟨hi, hl, hd⟩ ho
      have e1 := ho.block L (by rw [sz1]; simp [L]) (by simp only [L]; omega)
      have e2 := ho.block D (by rw [sz1]; simp [D]) (by simp only [D]; omega)
      exact ⟨hI _ _ _ hi (ho.mono (by rw [sz1]; omega)), e1.trans hl, e2.trans hd⟩
    · -- one round
      rintro pre x W ⟨hi, hl, hd⟩
      have hLW : L < W.heap.size := (Array.getElem?_eq_some_iff.1 hl).1
      have hy := run_yield (P := Tryd.prog) (args := encs x) hl (hps x)
      refine ⟨fn, _, assign, body, hy, roundIn_of_wpIn hfn (hassign _ x W _ ⟨_, run_beginRound hl rfl, ?_⟩)⟩
      have lb2 : (W.putObj L (.loop { R .ready none with state := .busy })).heap[L]? = some (.loop { R .ready none with state := .busy }) := World.putObj_heap_same hLW
      have ld2 : (W.putObj L (.loop { R .ready none with state := .busy })).heap[D]? = some (.deferred (some [])) := (World.putObj_heap_other (by simp only [D, L]; omega)).trans hd
      have hi2 : I pre (W.putObj L (.loop { R .ready none with state := .busy })) := hI _ _ _ hi (off_put W L _ (by simp only [L]; omega))
      have hk2 : ∀ k ∈ ks, (W.putObj L (.loop { R .ready none with state := .busy })).heap[k]? = W.heap[k]? := fun k hk => World.putObj_heap_other (by have := hks k hk; simp only [L]; omega)
      refine wpIn_mono (hbody L pre x _ hi2) ?_
      intro e a3 W3 hp
      cases e with
      | normal =>
        obtain ⟨ko, kk, hi3⟩ := hp
        have l3 := ko.same _ _ lb2 rfl
        refine ⟨_, _, run_endRound none l3, .inl ⟨rfl, ⟨hI _ _ _ hi3 (off_put W3 L _ (by simp only [L]; omega)), World.putObj_heap_same (Array.getElem?_eq_some_iff.1 l3).1, (World.putObj_heap_other (by simp only [D, L]; omega)).trans (ko.same _ _ ld2 rfl)⟩, fun k hk => ?_⟩⟩
        exact (World.putObj_heap_other (by have := hks k hk; simp only [L]; omega)).trans ((kk k hk).trans (hk2 k hk))
      | ret =>
        obtain ⟨ko, hi3⟩ := hp
        have l3 := ko.same _ _ lb2 rfl
        exact ⟨_, _, run_endRound (some .ret) l3, .inr ⟨rfl, hIx _ _ _ hi3 (off_put W3 L _ (by simp only [L]; omega)), World.putObj_heap_same (Array.getElem?_eq_some_iff.1 l3).1, (World.putObj_heap_other (by simp only [D, L]; omega)).trans (ko.same _ _ ld2 rfl)⟩⟩
      | exit id => exact hp.elim
      | goto t => exact hp.elim
      | panic ch => exact hp.elim
      | outgrown => exact hp.elim
    · -- behind the iterator
      rintro e W2 ⟨⟨v, rfl⟩, (⟨xs, hS, hi, hl, hd⟩ | ⟨pre, hSp, hi, hl, hd⟩)⟩
      · exact ⟨none, _, run_endLoop hl (by simp [R]), hdone D xs _ (Nat.le_refl _) hS (hI _ _ _ hi (off_put W2 L _ (by simp only [L]; omega))) ((World.putObj_heap_other (by simp only [D, L]; omega)).trans hd)⟩
      · exact ⟨some .ret, _, run_endLoop hl (by simp [R]), hstop D pre _ (Nat.le_refl _) hSp (hIx _ _ _ hi (off_put W2 L _ (by simp only [L]; omega))) ((World.putObj_heap_other (by simp only [D, L]; omega)).trans hd)⟩
end Go.Proofs.YtdkjapfnilbomaaDoor
