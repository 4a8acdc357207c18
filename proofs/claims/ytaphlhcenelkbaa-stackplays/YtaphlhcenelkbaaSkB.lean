/- Stacks in memory, the program's (k true) and the document's (k false): a block, the row of the frames, two rows of values for each; what a call leaves. -/
import Derived.Test.YtaphlhcenelkbaaSkA
namespace Go.Proofs.Ytaphlhcenelkbaa
open Go.RowKit Go.Maps

/-- a frame: its operands and the slice of them, its room, its locals and the slice of them -/
structure Fr where
  vv : Value
  xs : List (Bool × Int)
  rm : Nat
  lv : Value
  ls : List (Bool × Int)
def Fr.own (f : Fr) (g : Nat) : Prop := f.vv.ownBlock = some g ∨ f.lv.ownBlock = some g
def frC (k : Bool) (f : Fr) : List Value := match k with
  | true => [f.vv, .int .i64 (f.rm : Int), f.lv]
  | false => [f.lv, f.vv, .int .i64 (f.rm : Int)]
theorem frC_len (k : Bool) (f : Fr) : (frC k f).length = 3 := by cases k <;> rfl
/-- the cells of a list of frames, the top one first in the list and last in memory -/
def flatF (k : Bool) : List Fr → List Value
  | [] => []
  | f :: r => flatF k r ++ frC k f
theorem flatF_len (k : Bool) : ∀ fs : List Fr, (flatF k fs).length = fs.length * 3
  | [] => rfl
  | f :: r => by have := flatF_len k r; simp [flatF, frC_len, this]; omega
/-- the words of a list of frames -/
def wdF : List Fr → Nat
  | [] => 0
  | f :: r => f.ls.length + f.rm + 3 + wdF r
theorem wdF_len : ∀ fs : List Fr, fs.length * 3 ≤ wdF fs
  | [] => Nat.le_refl _
  | f :: r => by have := wdF_len r; simp [wdF]; omega
def tyS (k : Bool) : TypeId := match k with
  | true => 52
  | false => 29
def tyF (k : Bool) : TypeId := match k with
  | true => 67
  | false => 60
def hdC (k : Bool) (fv : Value) (fs : List Fr) : Array Value := match k with
  | true => #[fv, .int .i64 (wdF fs : Int)]
  | false => #[fv]
/-- no block is of two rows -/
def ApF : List Fr → Prop
  | [] => True
  | f :: r => (∀ g, f.vv.ownBlock = some g → f.lv.ownBlock ≠ some g) ∧ (∀ p ∈ r, ∀ g, f.own g → ¬ p.own g) ∧ ApF r
theorem apF_app : ∀ {a b : List Fr}, ApF (a ++ b) ↔ ApF a ∧ ApF b ∧ ∀ f ∈ a, ∀ p ∈ b, ∀ g, f.own g → ¬ p.own g
  | [], b => by simp [ApF]
  | f :: r, b => by
    have ih := apF_app (a := r) (b := b)
    simp only [List.cons_append, ApF, ih]
    constructor
    · rintro ⟨h1, h2, h3, h4, h5⟩
      refine ⟨⟨h1, fun p hp => h2 p (List.mem_append.2 (.inl hp)), h3⟩, h4, fun q hq p hp => ?_⟩
      rcases List.mem_cons.1 hq with rfl | hq
      · exact h2 p (List.mem_append.2 (.inr hp))
      · exact h5 q hq p hp
    · rintro ⟨⟨h1, h2, h3⟩, h4, h5⟩
      refine ⟨h1, fun p hp => ?_, h3, h4, fun q hq => h5 q (List.mem_cons_of_mem _ hq)⟩
      rcases List.mem_append.1 hp with hp | hp
      · exact h2 p hp
      · exact h5 f List.mem_cons_self p hp
/-- block sb is a stack with these frames; all its blocks are of S -/
structure SkAt (k : Bool) (w : World) (S : Nat → Prop) (sb : Nat) (fv : Value) (fs : List Fr) : Prop where
  sz : ∀ j, S j → j < w.heap.size
  hS : S sb
  oS : ∀ j, fv.ownBlock = some j → S j
  eS : ∀ f ∈ fs, ∀ g, f.own g → S g
  hh : w.heap[sb]? = some (.cells (hdC k fv fs) (tyS k) (0, 0))
  ow : w.ownsRow 0 (tyF k) 3 fv fs.length (flatF k fs)
  vo : ∀ f ∈ fs, w.ownsRow 0 32 2 f.vv f.xs.length (flatV f.xs)
  lo : ∀ f ∈ fs, w.ownsRow 0 32 2 f.lv f.ls.length (flatV f.ls)
  ap : ApF fs
  bd : ∀ f ∈ fs, f.ls.length ≤ 40 ∧ f.rm ≤ 40 ∧ f.xs.length ≤ f.rm
  n4 : wdF fs ≤ 4000
theorem tyS_F (k : Bool) : tyS k ≠ tyF k := by cases k <;> decide
theorem tyS_V (k : Bool) : tyS k ≠ 32 := by cases k <;> decide
theorem tyF_V (k : Bool) : tyF k ≠ 32 := by cases k <;> decide
theorem own_two {w : World} {N M e s e' s' n n' g : Nat} {v v' : Value} {xs xs' : List Value} (h : w.ownsRow N e s v n xs) (h' : w.ownsRow M e' s' v' n' xs') (ht : e ≠ e') (hg : v.ownBlock = some g) : v'.ownBlock ≠ some g := by
  rcases h.2 with ⟨e1, _⟩ | ⟨gg, cap, cur, e1, _, e2, _⟩
  · rw [e1] at hg; simp [Value.ownBlock] at hg
  · rw [e1] at hg; simp [Value.ownBlock] at hg; subst hg
    exact own_type h' e2 ht
theorem SkAt.own_lt {k : Bool} {w : World} {S : Nat → Prop} {sb : Nat} {fv : Value} {fs : List Fr} (h : SkAt k w S sb fv fs) {f : Fr} (hf : f ∈ fs) {g : Nat} (hg : f.own g) : g < w.heap.size := hg.elim (fun x => ((h.vo f hf).lt g x).2) (fun x => ((h.lo f hf).lt g x).2)
theorem SkAt.own_far {k : Bool} {w : World} {S : Nat → Prop} {sb : Nat} {fv : Value} {fs : List Fr} (h : SkAt k w S sb fv fs) {f : Fr} (hf : f ∈ fs) {g : Nat} (hg : f.own g) : g ≠ sb ∧ fv.ownBlock ≠ some g := by
  rcases hg with hg | hg
  · exact ⟨fun e => own_type (h.vo f hf) h.hh (tyS_V k) (by rw [← e]; exact hg), own_two (h.vo f hf) h.ow (fun e => tyF_V k e.symm) hg⟩
  · exact ⟨fun e => own_type (h.lo f hf) h.hh (tyS_V k) (by rw [← e]; exact hg), own_two (h.lo f hf) h.ow (fun e => tyF_V k e.symm) hg⟩
theorem SkAt.fne {k : Bool} {w : World} {S : Nat → Prop} {sb : Nat} {fv : Value} {fs : List Fr} (h : SkAt k w S sb fv fs) : fv.ownBlock ≠ some sb := own_type h.ow h.hh (tyS_F k)
theorem SkAt.lt {k : Bool} {w : World} {S : Nat → Prop} {sb : Nat} {fv : Value} {fs : List Fr} (h : SkAt k w S sb fv fs) : sb < w.heap.size := (Array.getElem?_eq_some_iff.1 h.hh).1
theorem SkAt.keep {k : Bool} {w w' : World} {S : Nat → Prop} {sb : Nat} {fv : Value} {fs : List Fr} (h : SkAt k w S sb fv fs) (hz : w.heap.size ≤ w'.heap.size) (hk : ∀ j, j < w.heap.size → S j → w'.heap[j]? = w.heap[j]?) : SkAt k w' S sb fv fs :=
  { h with
    sz := fun j hs => Nat.lt_of_lt_of_le (h.sz j hs) hz
    hh := (hk sb h.lt h.hS).trans h.hh
    ow := own_keep h.ow (fun g hg => hk g (h.ow.lt g hg).2 (h.oS g hg))
    vo := fun f hf => own_keep (h.vo f hf) (fun g hg => hk g (h.own_lt hf (.inl hg)) (h.eS f hf g (.inl hg)))
    lo := fun f hf => own_keep (h.lo f hf) (fun g hg => hk g (h.own_lt hf (.inr hg)) (h.eS f hf g (.inr hg))) }
theorem SkAt.below {k : Bool} {w w' : World} {S : Nat → Prop} {sb : Nat} {fv : Value} {fs : List Fr} (h : SkAt k w S sb fv fs) (hb : Below w.heap.size w w') : SkAt k w' S sb fv fs := h.keep hb.size (fun j hj _ => hb.block j hj)
theorem SkAt.mono {k : Bool} {w : World} {S S' : Nat → Prop} {sb : Nat} {fv : Value} {fs : List Fr} (h : SkAt k w S sb fv fs) (hz : ∀ j, S' j → j < w.heap.size) (hs : ∀ j, j < w.heap.size → S j → S' j) : SkAt k w S' sb fv fs :=
  { h with
    sz := hz
    hS := hs _ h.lt h.hS
    oS := fun j hj => hs j (h.ow.lt j hj).2 (h.oS j hj)
    eS := fun f hf g hg => hs g (h.own_lt hf hg) (h.eS f hf g hg) }
/-- what a call leaves that puts the frames t' in the place of the frames t on top -/
theorem SkAt.turn {k : Bool} {W w' : World} {S : Nat → Prop} {sb : Nat} {fv fv' : Value} {t t' r : List Fr} (h : SkAt k W S sb fv (t ++ r)) (hz : W.heap.size ≤ w'.heap.size)
    (kp : ∀ j, j < W.heap.size → j ≠ sb → fv.ownBlock ≠ some j → (∀ f ∈ t, ¬ f.own j) → w'.heap[j]? = W.heap[j]?)
    (hh : w'.heap[sb]? = some (.cells (hdC k fv' (t' ++ r)) (tyS k) (0, 0))) (ow : w'.ownsRow 0 (tyF k) 3 fv' (t' ++ r).length (flatF k (t' ++ r)))
    (vo : ∀ f ∈ t', w'.ownsRow 0 32 2 f.vv f.xs.length (flatV f.xs)) (lo : ∀ f ∈ t', w'.ownsRow 0 32 2 f.lv f.ls.length (flatV f.ls))
    (ne : ∀ f ∈ t', ∀ g, f.own g → (∃ p ∈ t, p.own g) ∨ W.heap.size ≤ g) (ap : ApF t') (fS : ∀ j, fv'.ownBlock = some j → fv.ownBlock = some j ∨ W.heap.size ≤ j)
    (bd : ∀ f ∈ t', f.ls.length ≤ 40 ∧ f.rm ≤ 40 ∧ f.xs.length ≤ f.rm) (n4 : wdF (t' ++ r) ≤ 4000) : SkAt k w' (gS S W.heap.size w'.heap.size) sb fv' (t' ++ r) := by
  have mr : ∀ f ∈ r, f ∈ t ++ r := fun f hf => List.mem_append.2 (.inr hf)
  have mt : ∀ f ∈ t, f ∈ t ++ r := fun f hf => List.mem_append.2 (.inl hf)
  obtain ⟨_, apr, cr⟩ := apF_app.1 h.ap
  have kr : ∀ f ∈ r, ∀ g, f.own g → w'.heap[g]? = W.heap[g]? := fun f hf g hg => kp g (h.own_lt (mr f hf) hg) (h.own_far (mr f hf) hg).1 (h.own_far (mr f hf) hg).2 (fun p hp x => cr p hp f hf g x hg)
  refine { sz := fun j hj => hj.elim (fun x => Nat.lt_of_lt_of_le (h.sz j x) hz) (fun x => x.2), hS := .inl h.hS, oS := fun j hj => ?_, eS := fun f hf g hg => ?_, hh := hh, ow := ow, vo := fun f hf => ?_, lo := fun f hf => ?_, ap := apF_app.2 ⟨ap, apr, fun f hf p hp g hg x => ?_⟩, bd := fun f hf => ?_, n4 := n4 }
  · exact (fS j hj).elim (fun x => .inl (h.oS j x)) (fun x => .inr ⟨x, (ow.lt j hj).2⟩)
  · rcases List.mem_append.1 hf with hf | hf
    · rcases ne f hf g hg with ⟨p, hp, x⟩ | x
      · exact .inl (h.eS p (mt p hp) g x)
      · exact .inr ⟨x, hg.elim (fun y => ((vo f hf).lt g y).2) (fun y => ((lo f hf).lt g y).2)⟩
    · exact .inl (h.eS f (mr f hf) g hg)
  · rcases List.mem_append.1 hf with hf | hf
    · exact vo f hf
    · exact own_keep (h.vo f (mr f hf)) (fun g hg => kr f hf g (.inl hg))
  · rcases List.mem_append.1 hf with hf | hf
    · exact lo f hf
    · exact own_keep (h.lo f (mr f hf)) (fun g hg => kr f hf g (.inr hg))
  · rcases ne f hf g hg with ⟨q, hq, y⟩ | y
    · exact cr q hq p hp g y x
    · have := h.own_lt (mr p hp) x; omega
  · rcases List.mem_append.1 hf with hf | hf
    · exact bd f hf
    · exact h.bd f (mr f hf)
/-- the top frame's cells -/
theorem SkAt.topc {k : Bool} {w : World} {S : Nat → Prop} {sb : Nat} {fv : Value} {f : Fr} {r : List Fr} (h : SkAt k w S sb fv (f :: r)) : ∃ g c, fv = .slice (some ⟨g, 0, none⟩) (r.length + 1) c ∧ (∀ j, j < 3 → w.cell? ⟨g, r.length * 3 + j, none⟩ = (frC k f)[j]?) ∧ (∀ j, w.frozen? ⟨g, j, none⟩ = false) ∧ g < w.heap.size ∧ g ≠ sb := by
  have hw := h.ow
  obtain ⟨g, c, rfl⟩ := Go.Joins.ownsRow_form hw (by simp)
  refine ⟨g, c, by simp, fun j hj => ?_, fun j => hw.frozenAt j, (hw.lt g rfl).2, fun e => h.fne (by rw [← e]; rfl)⟩
  rw [hw.cellAt (r.length * 3 + j) (by simp; omega), flatF, List.getElem?_append_right (by rw [flatF_len]; omega), flatF_len]
  congr 1
  omega
theorem SkAt.bnd {k : Bool} {w : World} {S : Nat → Prop} {sb : Nat} {fv : Value} {fs : List Fr} (h : SkAt k w S sb fv fs) : fs.length ≤ 1333 := by
  have := wdF_len fs; have := h.n4; omega
end Go.Proofs.Ytaphlhcenelkbaa
