/- Package cache: a cache in memory; made, Get. -/
import Derived.Test.YtdjmjdlolhfejaaKaM
namespace Go.Proofs.Ytdjmjdlolhfejaa
open Go.RowKit Go.Maps

/-- a cache's store: none; of one entry, its block; of sets, their two blocks -/
abbrev Sk := Option (Nat × Option Nat)
abbrev Sk.no : Sk := none
abbrev Sk.one (q : Nat) : Sk := some (q, none)
abbrev Sk.many (q a : Nat) : Sk := some (q, some a)
theorem Sk.elim {P : Sk → Prop} (K : Sk) (no : P .no) (one : ∀ q, P (.one q)) (many : ∀ q a, P (.many q a)) : P K := by
  rcases K with _ | ⟨q, _ | a⟩
  · exact no
  · exact one q
  · exact many q a
def Sk.r : Sk → Value
  | none => .agg #[]
  | some (q, none) => .pointer (some ⟨q, 0, none⟩)
  | some (q, some _) => .pointer (some ⟨q, 0, none⟩)
def Sk.v : Sk → Value
  | none => .iface 80 (.agg #[])
  | some (q, none) => .iface 81 (.pointer (some ⟨q, 0, none⟩))
  | some (q, some _) => .iface 89 (.pointer (some ⟨q, 0, none⟩))
def Sk.at (w : World) (N : Nat) : Sk → Nat → List (List (Int × Int)) → Prop
  | none, cap, ss => cap = 0 ∧ ss = []
  | some (q, none), cap, ss => cap = 1 ∧ ∃ l, ss = [l] ∧ SgAt w N q l
  | some (q, some a), cap, ss => ∃ vs, SetsAt w N q a cap 0 vs ss
def cb (K : Sk) (h m s r : Int) : Array Value := #[K.v, .int .i64 h, .int .i64 m, .int .i32 s, .int .u32 0, .int .u32 0, .int .u32 0, .int .i32 r, .int .i32 0]
/-- block p is a cache of this capacity, with these entries, hits and misses, and its lock in this state -/
structure CaK (w : World) (N p : Nat) (K : Sk) (cap : Nat) (ss : List (List (Int × Int))) (h m s r : Int) : Prop where
  np : N ≤ p
  hp : w.heap[p]? = some (.cells (cb K h m s r) 64 (0, 0))
  st : K.at w N cap ss
def CaAt (w : World) (N p cap : Nat) (ss : List (List (Int × Int))) (h m : Int) : Prop := ∃ K, CaK w N p K cap ss h m 0 0
/-- the types of a cache's blocks -/
def cty2 (e : TypeId) : Bool := e == 64 || cty e
def SC (W : World) (N : Nat) : Nat → Prop := fun k => N ≤ k ∧ ∃ c e z, W.heap[k]? = some (.cells c e z) ∧ cty2 e = true
def TC (N : Nat) (W w : World) : Prop := Tch (SC W N) W w
theorem TC.trans {N : Nat} {a b c : World} (h : TC N a b) (k : TC N b c) : TC N a c := by
  refine Tch.trans h k ?_
  rintro i hi ⟨h1, x, e, z, h2, h3⟩
  refine Classical.byContradiction fun hn => hn ⟨h1, x, e, z, ?_, h3⟩
  rw [← h.blk i hi hn]; exact h2
theorem TC.below {N : Nat} {W w : World} (h : TC N W w) (hN : N ≤ W.heap.size) : Below N W w := Tch.below h hN fun _ x => x.1
theorem TC.kind {N : Nat} {W w : World} (h : TC N W w) {k : Nat} {c : Array Value} {e : TypeId} {z : Nat × Nat} (hk : W.heap[k]? = some (.cells c e z)) (he : cty2 e = false) : w.heap[k]? = W.heap[k]? :=
  h.blk k (Array.getElem?_eq_some_iff.1 hk).1 (by rintro ⟨_, c', e', z', h1, h2⟩; rw [hk] at h1; cases h1; rw [he] at h2; cases h2)
theorem TC.set {N : Nat} {W : World} {k o : Nat} {c : Array Value} {e : TypeId} {z : Nat × Nat} (hk : W.heap[k]? = some (.cells c e z)) (he : cty2 e = true) (hN : N ≤ k) (u : Value) : TC N W (W.setCell ⟨k, o, none⟩ u) :=
  (Tch.refl _ W).set (.inl ⟨hN, c, e, z, hk, he⟩) u
theorem TK.tc {N : Nat} {W w : World} (h : TK N W w) : TC N W w := h.mono fun k _ ⟨h1, c, e, z, h2, h3⟩ => ⟨h1, c, e, z, h2, by simp [cty2, h3]⟩
theorem TC.of {N : Nat} {W w : World} (h : Tch (fun _ => False) W w) : TC N W w := h.mono fun _ _ x => x.elim
theorem TK.of0 {N : Nat} {W w : World} (h : Tch (fun _ => False) W w) : TK N W w := h.mono fun _ _ x => x.elim
/-- a store stays where a cache's own block alone is turned -/
theorem Sk.keep {W w : World} {N p : Nat} {K : Sk} {cap : Nat} {ss : List (List (Int × Int))} (h : K.at W N cap ss) {c : Array Value} {z : Nat × Nat} (hp : W.heap[p]? = some (.cells c 64 z)) (ht : Tch (fun k => k = p) W w) : K.at w N cap ss := by
  have key : ∀ (k : Nat) (c' : Array Value) (e' : TypeId), W.heap[k]? = some (.cells c' e' (0, 0)) → e' ≠ 64 → w.heap[k]? = W.heap[k]? := by
    intro k c' e' hk he
    refine ht.blk k (Array.getElem?_eq_some_iff.1 hk).1 (fun e => he ?_)
    rw [e, hp] at hk; cases hk; rfl
  cases K using Sk.elim with
  | no => exact h
  | one q =>
    obtain ⟨h1, l, h2, h3, x, h4, h5⟩ := h
    refine ⟨h1, l, h2, h3, x, (key q _ _ h4 (by decide)).trans h4, h5.keep ?_⟩
    rintro b rfl
    rcases h5 with ⟨e, _⟩ | ⟨b', k, v, e, _, h6⟩
    · cases e
    · cases e; exact key b _ _ h6 (by decide)
  | many q a =>
    obtain ⟨vs, h⟩ := h
    obtain ⟨C, hC, _⟩ := h.ha
    refine ⟨vs, h.keep (key q _ _ h.hq (by decide)) (key a _ _ hC (by decide)) (fun j v g hv hg => ?_)⟩
    obtain ⟨l, hl⟩ : ∃ l, ss[j]? = some l := ⟨_, List.getElem?_eq_getElem (by have := (List.getElem?_eq_some_iff.1 hv).1; have := h.lv; omega)⟩
    obtain ⟨c, hc⟩ := own_entry (h.row j v l hv hl).1 hg
    exact key g _ _ hc (by decide)
theorem Sk.tch {W w : World} {N : Nat} {K : Sk} {cap : Nat} {ss : List (List (Int × Int))} (h : K.at W N cap ss) (ht : Tch (fun _ => False) W w) : K.at w N cap ss := by
  cases K using Sk.elim with
  | no => exact h
  | one q => obtain ⟨h1, l, h2, h3⟩ := h; exact ⟨h1, l, h2, h3.tch ht⟩
  | many q a => obtain ⟨vs, h⟩ := h; exact ⟨vs, h.tch ht⟩
theorem CaK.cells {w : World} {N p : Nat} {K : Sk} {cap : Nat} {ss : List (List (Int × Int))} {h m s r : Int} (H : CaK w N p K cap ss h m s r) : w.cell? ⟨p, 0, none⟩ = some K.v ∧ w.cell? ⟨p, 1, none⟩ = some (.int .i64 h) ∧ w.cell? ⟨p, 2, none⟩ = some (.int .i64 m) ∧ w.cell? ⟨p, 3, none⟩ = some (.int .i32 s) ∧ w.cell? ⟨p, 3 + 2, none⟩ = some (.int .u32 0) ∧ w.cell? ⟨p, 3 + 3, none⟩ = some (.int .u32 0) ∧ w.cell? ⟨p, 3 + 4, none⟩ = some (.int .i32 r) ∧ (∀ k, w.frozen? ⟨p, k, none⟩ = false) ∧ p < w.heap.size :=
  ⟨(cell_of_row w p 0 _ _ _ H.hp).trans rfl, (cell_of_row w p 1 _ _ _ H.hp).trans rfl, (cell_of_row w p 2 _ _ _ H.hp).trans rfl, (cell_of_row w p 3 _ _ _ H.hp).trans rfl, (cell_of_row w p 5 _ _ _ H.hp).trans rfl, (cell_of_row w p 6 _ _ _ H.hp).trans rfl, (cell_of_row w p 7 _ _ _ H.hp).trans rfl, fun k => frozen_of_row w p k _ _ H.hp, (Array.getElem?_eq_some_iff.1 H.hp).1⟩
theorem CaK.setc {w : World} {N p : Nat} {K : Sk} {cap : Nat} {ss : List (List (Int × Int))} {h m s r h' m' s' r' : Int} (H : CaK w N p K cap ss h m s r) (o : Nat) (u : Value) (e : (cb K h m s r).setIfInBounds o u = cb K h' m' s' r') : CaK (w.setCell ⟨p, o, none⟩ u) N p K cap ss h' m' s' r' :=
  ⟨H.np, by rw [Go.Joins.block_setCell H.hp, e], Sk.keep H.st H.hp (Tch.set (S := fun k => k = p) (Tch.refl _ w) (.inl rfl) u)⟩
theorem CaK.tcs {w : World} {N p : Nat} {K : Sk} {cap : Nat} {ss : List (List (Int × Int))} {h m s r : Int} (H : CaK w N p K cap ss h m s r) (o : Nat) (u : Value) : TC N w (w.setCell ⟨p, o, none⟩ u) := TC.set H.hp (by rfl) H.np u
/-- the store is turned -/
theorem CaK.store {w w' : World} {N p : Nat} {K : Sk} {cap : Nat} {ss ss' : List (List (Int × Int))} {h m s r : Int} (H : CaK w N p K cap ss h m s r) (hs : K.at w' N cap ss') (ht : TK N w w') : CaK w' N p K cap ss' h m s r :=
  ⟨H.np, (ht.kind H.hp (by rfl)).trans H.hp, hs⟩
set_option maxRecDepth 100000 in
theorem made_c (p : Nat) (K : Sk) (W : World) (h : W.cell? ⟨p, 0, none⟩ = some K.v) : Calls Try.prog 24 #[.pointer (some ⟨p, 0, none⟩)] W fun e w' => e = .returned (.bool true) ∧ w' = W := by
  cases K using Sk.elim <;> simp only [Sk.v] at h
  all_goals
    go_enter Try.func24, Try.ntmps24
    go_wp2
    go_ret
    exact ⟨rfl, rfl⟩
set_option maxRecDepth 100000 in
theorem made_nil (W : World) : Calls Try.prog 24 #[.pointer none] W fun e w' => e = .returned (.bool false) ∧ w' = W := by
  go_enter Try.func24, Try.ntmps24
  go_wp2
  go_ret
  exact ⟨rfl, rfl⟩
/-- find of a store, whatever its kind -/
def Sk.find : Sk → Nat
  | none => 82
  | some (_, none) => 86
  | some (_, some _) => 96
set_option maxRecDepth 100000 in
theorem skfind_c {W : World} {N : Nat} (K : Sk) {cap : Nat} {ss : List (List (Int × Int))} (h : K.at W N cap ss) (key : Int) :
    Calls Try.prog K.find #[K.r, .int .i64 key] W fun e w' => e = .returned (.tuple #[.int .i64 (fdSS key ss).1, .bool (fdSS key ss).2.1]) ∧ K.at w' N cap (fdSS key ss).2.2 ∧ TK N W w' := by
  cases K using Sk.elim with
  | no =>
    obtain ⟨rfl, rfl⟩ := h
    show Calls Try.prog 82 #[.agg #[], .int .i64 key] W _
    go_enter Try.func82, Try.ntmps82
    go_wp2
    go_ret2
    exact ⟨rfl, ⟨rfl, rfl⟩, TK.of0 ((Tch.refl _ _).alloc _)⟩
  | one q =>
    obtain ⟨rfl, l, rfl, h⟩ := h
    refine (sgfind_c h key).mono ?_
    rintro e w' ⟨rfl, rfl, e2⟩
    have e0 : sIx 1 key = 0 := by have := sIx_lt (n := 1) (by omega) key; omega
    have e : fdSS key [l] = ((fdS key l).1, (fdS key l).2.1, [(fdS key l).2.2]) := by simp [fdSS, e0]
    rw [e]
    exact ⟨rfl, ⟨rfl, _, rfl, by rw [e2]; exact h⟩, Tch.refl _ _⟩
  | many q a =>
    obtain ⟨vs, h⟩ := h
    exact ssfind_c h key
def Sk.put : Sk → Nat
  | none => 84
  | some (_, none) => 88
  | some (_, some _) => 98
set_option maxRecDepth 100000 in
theorem skput_c {W : World} {N : Nat} (K : Sk) {cap : Nat} {ss : List (List (Int × Int))} (h : K.at W N cap ss) (e1 e2 : Int) :
    Calls Try.prog K.put #[K.r, .agg #[.int .i64 e1, .int .i64 e2]] W fun e w' => e = .returned (.tuple #[.agg #[.int .i64 (ptSS cap (e1, e2) ss).1.1, .int .i64 (ptSS cap (e1, e2) ss).1.2], .bool (ptSS cap (e1, e2) ss).2.1]) ∧ K.at w' N cap (ptSS cap (e1, e2) ss).2.2 ∧ TK N W w' := by
  cases K using Sk.elim with
  | no =>
    obtain ⟨rfl, rfl⟩ := h
    show Calls Try.prog 84 #[.agg #[], .agg #[.int .i64 e1, .int .i64 e2]] W _
    go_enter Try.func84, Try.ntmps84
    go_wp2
    refine bodyPost_ret (v := .tuple #[.agg #[.int .i64 0, .int .i64 0], .bool false]) (by simp [results, Try.results84, go_sem]) rfl ⟨rfl, ⟨rfl, rfl⟩, ?_⟩
    apply TK.of0
    repeat (first | exact Tch.refl _ _ | refine Tch.alloc ?_ _ | refine Tch.set ?_ (.inr (by simp; try omega)) _)
  | one q =>
    obtain ⟨rfl, l, rfl, h⟩ := h
    refine (sgput_c h e1 e2).mono ?_
    rintro e w' ⟨rfl, hs, ht⟩
    have e0 : sIx 1 e1 = 0 := by have := sIx_lt (n := 1) (by omega) e1; omega
    have e : ptSS 1 (e1, e2) [l] = ((ptS 1 (e1, e2) l).1, (ptS 1 (e1, e2) l).2.1, [(ptS 1 (e1, e2) l).2.2]) := by simp [ptSS, e0, rmN]
    rw [e]
    exact ⟨rfl, ⟨rfl, _, rfl, hs⟩, ht⟩
  | many q a =>
    obtain ⟨vs, h⟩ := h
    exact ssput_c h e1 e2
def Sk.keys : Sk → Nat
  | none => 83
  | some (_, none) => 87
  | some (_, some _) => 97
set_option maxRecDepth 100000 in
theorem skkeys_c {W : World} {N : Nat} (K : Sk) {cap : Nat} {ss : List (List (Int × Int))} (h : K.at W N cap ss) :
    Calls Try.prog K.keys #[K.r] W fun e w' => ∃ v', e = .returned v' ∧ w'.ownsRow W.heap.size 3 1 v' (ksL ss).length (intC (ksL ss)) ∧ K.at w' N cap ss ∧ TK N W w' := by
  cases K using Sk.elim with
  | no =>
    obtain ⟨rfl, rfl⟩ := h
    show Calls Try.prog 83 #[.agg #[]] W _
    go_enter Try.func83, Try.ntmps83
    go_wp2
    go_ret
    exact ⟨_, rfl, World.ownsRow_nil _ _ _ _, ⟨rfl, rfl⟩, TK.of0 ((Tch.refl _ _).alloc _)⟩
  | one q =>
    obtain ⟨rfl, l, rfl, h⟩ := h
    refine (sgkeys_c h).mono ?_
    rintro e w' ⟨v', rfl, hr, ht⟩
    have e : ksL [l] = l.map Prod.fst := by simp [ksL]
    rw [e, List.length_map]
    exact ⟨v', rfl, hr, ⟨rfl, l, rfl, h.tch ht⟩, TK.of0 ht⟩
  | many q a =>
    obtain ⟨vs, h⟩ := h
    exact sskeys_c h
def Sk.empty : Sk → Nat
  | none => 81
  | some (_, none) => 85
  | some (_, some _) => 95
set_option maxRecDepth 100000 in
theorem skempty_c {W : World} {N : Nat} (K : Sk) {cap : Nat} {ss : List (List (Int × Int))} (h : K.at W N cap ss) :
    Calls Try.prog K.empty #[K.r] W fun e w' => e = .returned (.tuple #[]) ∧ K.at w' N cap (List.replicate ss.length []) ∧ TK N W w' := by
  cases K using Sk.elim with
  | no =>
    obtain ⟨rfl, rfl⟩ := h
    show Calls Try.prog 81 #[.agg #[]] W _
    go_enter Try.func81, Try.ntmps81
    go_wp2
    exact bodyPost_end (results_none rfl _ _ _) rfl ⟨rfl, ⟨rfl, rfl⟩, TK.of0 ((Tch.refl _ _).alloc _)⟩
  | one q =>
    obtain ⟨rfl, l, rfl, h⟩ := h
    refine (sgempty_c h).mono ?_
    rintro e w' ⟨rfl, hs, ht⟩
    exact ⟨rfl, ⟨rfl, [], rfl, hs⟩, ht⟩
  | many q a =>
    obtain ⟨vs, h⟩ := h
    exact ssempty_c h
end Go.Proofs.Ytdjmjdlolhfejaa
