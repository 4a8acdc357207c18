/- StackPlays: a stack beside the document's; agrees. -/
import Derived.Test.YtaphlhcenelkbaaSkV
namespace Go.Proofs.Ytaphlhcenelkbaa
open Go.RowKit Go.Maps

theorem One.keep {k : Bool} {W w w' : World} {S S' : Nat → Prop} {sb : Nat} {ps : List PF} (h : One k W w S sb ps) (T : Tch S' w w') (hd : ∀ j, S j → ¬ S' j) (hb : Below W.heap.size W w') : One k W w' S sb ps := by
  obtain ⟨⟨fv, fs, h1, h2⟩, lo, bl⟩ := h
  exact ⟨⟨fv, fs, h1.keep T.size (fun j hj hs => T.blk j hj (hd j hs)), h2⟩, lo, hb⟩
/-- two stacks apart from each other, and a block that is of neither -/
def Tw (W : World) (sb xb ob : Nat) (o : Obj) (ps qs : List PF) (v : World) : Prop := ∃ S S', One true W v S sb ps ∧ One false W v S' xb qs ∧ (∀ j, S j → ¬ S' j) ∧ v.heap[ob]? = some o ∧ ¬ S ob ∧ ¬ S' ob
/-- the same without the block -/
def Tp (W : World) (sb xb : Nat) (ps : List PF) (v : World) : Prop := ∃ S S', One true W v S sb ps ∧ One false W v S' xb ps ∧ (∀ j, S j → ¬ S' j)
section
variable {W : World} {sb xb ob : Nat} {o : Obj} {ps qs : List PF} {v : World}
theorem Tp.box (h : Tp W sb xb ps v) (o : Obj) : Tw W sb xb v.heap.size o ps ps (v.alloc o) := by
  obtain ⟨S, S', h1, h2, h3⟩ := h
  have hb : Below v.heap.size v (v.alloc o) := (Below.refl _ _).alloc (Nat.le_refl _) _
  exact ⟨S, S', h1.bel hb, h2.bel hb, h3, halloc1 _ _, fun x => by have := h1.sz _ x; omega, fun x => by have := h2.sz _ x; omega⟩
theorem Tp.bel {w : World} (h : Tp W sb xb ps v) (hb : Below v.heap.size v w) : Tp W sb xb ps w := by
  obtain ⟨S, S', h1, h2, h3⟩ := h
  exact ⟨S, S', h1.bel hb, h2.bel hb, h3⟩
theorem Tw.p (h : Tw W sb xb ob o ps ps v) : Tp W sb xb ps v := by
  obtain ⟨S, S', h1, h2, h3, _⟩ := h
  exact ⟨S, S', h1, h2, h3⟩
theorem Tw.sw (h : Tw W sb xb ob o ps qs v) (o' : Obj) : Tw W sb xb v.heap.size o' ps qs (v.alloc o') := by
  obtain ⟨S, S', h1, h2, h3, _⟩ := h
  have hb : Below v.heap.size v (v.alloc o') := (Below.refl _ _).alloc (Nat.le_refl _) _
  exact ⟨S, S', h1.bel hb, h2.bel hb, h3, halloc1 _ _, fun x => by have := h1.sz _ x; omega, fun x => by have := h2.sz _ x; omega⟩
theorem Tw.bel {w : World} (h : Tw W sb xb ob o ps qs v) (hb : Below v.heap.size v w) : Tw W sb xb ob o ps qs w := by
  obtain ⟨S, S', h1, h2, h3, h4, h5⟩ := h
  exact ⟨S, S', h1.bel hb, h2.bel hb, h3, (hb.block ob (Array.getElem?_eq_some_iff.1 h4).1).trans h4, h5⟩
theorem Tw.at (h : Tw W sb xb ob o ps qs v) : v.heap[ob]? = some o := by
  obtain ⟨S, S', h1, h2, h3, h4, h5⟩ := h
  exact h4
theorem Tw.A {f : Nat} {args : Array Value} {u : Value} {ps' : List PF} (h : Tw W sb xb ob o ps qs v) (hc : ∀ S, One true W v S sb ps → Calls Try.prog f args v fun e w' => e = .returned u ∧ OneN true W v S sb w' ps') : Calls Try.prog f args v fun e w' => e = .returned u ∧ Tw W sb xb ob o ps' qs w' := by
  obtain ⟨S, S', h1, h2, h3, h4, h5, h6⟩ := h
  refine (hc S h1).mono (fun e w' ⟨x, S1, o1, T, hu⟩ => ⟨x, S1, S', o1, h2.keep T (fun j hj x => h3 j x hj) o1.bl, fun j hj x => ?_, (T.blk ob (Array.getElem?_eq_some_iff.1 h4).1 h5).trans h4, fun x => ?_, h6⟩)
  · rcases hu j hj with y | y
    · exact h3 j y x
    · have := h2.sz _ x; omega
  · rcases hu ob x with y | y
    · exact h5 y
    · have := (Array.getElem?_eq_some_iff.1 h4).1; omega
theorem Tw.B {f : Nat} {args : Array Value} {u : Value} {qs' : List PF} (h : Tw W sb xb ob o ps qs v) (hc : ∀ S, One false W v S xb qs → Calls Try.prog f args v fun e w' => e = .returned u ∧ OneN false W v S xb w' qs') : Calls Try.prog f args v fun e w' => e = .returned u ∧ Tw W sb xb ob o ps qs' w' := by
  obtain ⟨S, S', h1, h2, h3, h4, h5, h6⟩ := h
  refine (hc S' h2).mono (fun e w' ⟨x, S1, o1, T, hu⟩ => ⟨x, S, S1, h1.keep T h3 o1.bl, o1, fun j hj x => ?_, (T.blk ob (Array.getElem?_eq_some_iff.1 h4).1 h6).trans h4, h5, fun x => ?_⟩)
  · rcases hu j x with y | y
    · exact h3 j hj y
    · have := h1.sz _ hj; omega
  · rcases hu ob x with y | y
    · exact h6 y
    · have := (Array.getElem?_eq_some_iff.1 h4).1; omega
theorem Tw.RA {f : Nat} {args : Array Value} {u : Value} (h : Tw W sb xb ob o ps qs v) (hc : ∀ S, One true W v S sb ps → Calls Try.prog f args v fun e w' => e = .returned u ∧ Below v.heap.size v w') : Calls Try.prog f args v fun e w' => e = .returned u ∧ Tw W sb xb ob o ps qs w' := by
  have h0 := h
  obtain ⟨S, S', h1, h2⟩ := h
  exact (hc S h1).mono (fun e w' x => ⟨x.1, h0.bel x.2⟩)
theorem Tw.RB {f : Nat} {args : Array Value} {u : Value} (h : Tw W sb xb ob o ps qs v) (hc : ∀ S, One false W v S xb qs → Calls Try.prog f args v fun e w' => e = .returned u ∧ Below v.heap.size v w') : Calls Try.prog f args v fun e w' => e = .returned u ∧ Tw W sb xb ob o ps qs w' := by
  have h0 := h
  obtain ⟨S, S', h1, h2, h3⟩ := h
  exact (hc S' h2).mono (fun e w' x => ⟨x.1, h0.bel x.2⟩)
end
theorem callEnA (vs : Array Value) (w : World) : (callFunc 15 vs).run Try.prog w = .ok (.enter 15 vs) w := by simp [go_sem]
theorem callEnB (vs : Array Value) (w : World) : (callFunc 23 vs).run Try.prog w = .ok (.enter 23 vs) w := by simp [go_sem]
theorem callPuA (vs : Array Value) (w : World) : (callFunc 17 vs).run Try.prog w = .ok (.enter 17 vs) w := by simp [go_sem]
theorem callPuB (vs : Array Value) (w : World) : (callFunc 25 vs).run Try.prog w = .ok (.enter 25 vs) w := by simp [go_sem]
theorem callSeA (vs : Array Value) (w : World) : (callFunc 18 vs).run Try.prog w = .ok (.enter 18 vs) w := by simp [go_sem]
theorem callSeB (vs : Array Value) (w : World) : (callFunc 29 vs).run Try.prog w = .ok (.enter 29 vs) w := by simp [go_sem]
/-- a thing to be done, as a block -/
def oB (kd a b : Int) (r : Bool) (n : Int) : Obj := .cells #[.int .i64 kd, .int .i64 a, .int .i64 b, .bool r, .int .i64 n] 34 (0, 0)
theorem r5d {w : World} {n : Nat} {kd a b : Int} {r : Bool} {m : Int} (h : w.heap[n]? = some (oB kd a b r m)) : w.cell? ⟨n, 0, none⟩ = some (.int .i64 kd) ∧ w.cell? ⟨n, 1, none⟩ = some (.int .i64 a) ∧ w.cell? ⟨n, 2, none⟩ = some (.int .i64 b) ∧ w.cell? ⟨n, 3, none⟩ = some (.bool r) ∧ w.cell? ⟨n, 4, none⟩ = some (.int .i64 m) ∧ n < w.heap.size :=
  ⟨(cell_of_row w n 0 _ _ _ h).trans rfl, (cell_of_row w n 1 _ _ _ h).trans rfl, (cell_of_row w n 2 _ _ _ h).trans rfl, (cell_of_row w n 3 _ _ _ h).trans rfl, (cell_of_row w n 4 _ _ _ h).trans rfl, (Array.getElem?_eq_some_iff.1 h).1⟩
end Go.Proofs.Ytaphlhcenelkbaa
