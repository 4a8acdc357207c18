/- put of a set, joined; the sets of a cache in memory; what a cache's calls turn (TK). -/
import Derived.Test.YtdjmjdlolhfejaaKaH
namespace Go.Proofs.Ytdjmjdlolhfejaa
open Go.RowKit Go.Maps

theorem tkM_mem {key : Int} : ∀ {l : List (Int × Int)} {y : Int × Int}, y ∈ l → y.1 = key → ∃ p, tkM key l = some p
  | x :: r, y, hm, hk => by
    cases e : x.1 == key
    · rcases List.mem_cons.1 hm with rfl | hm
      · simp [hk] at e
      · obtain ⟨p, hp⟩ := tkM_mem hm hk
        exact ⟨_, by simp [tkM, e, hp]; rfl⟩
    · exact ⟨_, by simp [tkM, e]; rfl⟩
theorem put_c (N a o room : Nat) (v : Value) (l : List (Int × Int)) (e1 e2 : Int) (hr1 : 1 ≤ room) (hr2 : room ≤ 2) (hl : l.length ≤ room) (h1 : Roomy1 v) (W : World) (h : SetAt W N a o room v l) :
    Calls Try.prog 101 #[.pointer (some ⟨a, o, none⟩), .agg #[.int .i64 e1, .int .i64 e2]] W fun e w' => e = .returned (.tuple #[.agg #[.int .i64 (ptS room (e1, e2) l).1.1, .int .i64 (ptS room (e1, e2) l).1.2], .bool (ptS room (e1, e2) l).2.1]) ∧ ∃ v', w'.ownsRow N 75 2 v' (ptS room (e1, e2) l).2.2.length (flatD (ptS room (e1, e2) l).2.2) ∧ Stp W w' a o v v' ∧ Roomy1 v' := by
  -- the first take
  have hT : ∃ (l1 : List (Int × Int)) (t : Value), l1.length ≤ l.length ∧ rmS e1 l = l1 ∧ (∀ w, Tch (fun _ => False) W w → Calls Try.prog 102 #[.pointer (some ⟨a, o, none⟩), .int .i64 e1] w fun e w' => e = .returned t ∧ ∃ v', SetAt w' N a o room v' l1 ∧ Stp w w' a o v v' ∧ Roomy1 v') := by
    cases hk : tkM e1 l with
    | none =>
      refine ⟨l, .tuple #[.agg #[.int .i64 0, .int .i64 0], .bool false], Nat.le_refl _, by simp [rmS, hk], fun w hw => (tk_none N a o room v l e1 w (h.tch hw) (by omega) hk).mono ?_⟩
      rintro e w' ⟨rfl, ht⟩
      exact ⟨rfl, v, (h.tch hw).tch ht, stp_same (h.tch hw) ht, h1⟩
    | some p =>
      obtain ⟨⟨x1, x2⟩, l'⟩ := p
      have := tkM_len hk
      refine ⟨l', .tuple #[.agg #[.int .i64 x1, .int .i64 x2], .bool true], by omega, by simp [rmS, hk], fun w hw => (tk_some N a o room v l l' x1 x2 e1 w (h.tch hw) (by omega) hk).mono ?_⟩
      rintro e w' ⟨rfl, v', hr, hs, hv⟩
      exact ⟨rfl, v', hs.set (h.tch hw) hr, hs, hv⟩
  obtain ⟨l1, t, hle, hm, HT⟩ := hT
  by_cases hf : l1.length = room
  · obtain ⟨⟨y1, y2⟩, hy⟩ : ∃ y, l1[room - 1]? = some y := ⟨_, List.getElem?_eq_getElem (by omega)⟩
    obtain ⟨⟨⟨z1, z2⟩, l2⟩, hz⟩ := tkM_mem (List.mem_of_getElem? hy) rfl
    have hz' : tkM y1 l1 = some ((z1, z2), l2) := hz
    have := tkM_len hz
    rw [ptS_full (x := (e1, e2)) (by rw [hm]; exact hf) (by rw [hm]; exact hy) (by rw [hm]; exact hz)]
    refine put_f N a o room v l l1 l2 e1 e2 y1 y2 z1 z2 hr1 hr2 W h hf (by omega) hy t HT ?_
    intro v w hs
    refine (tk_some N a o room v l1 l2 z1 z2 y1 w hs (by omega) hz').mono ?_
    rintro e w' ⟨rfl, v', hr, hs', hv⟩
    exact ⟨rfl, v', hs'.set hs hr, hs', hv⟩
  · rw [ptS_room (x := (e1, e2)) (by rw [hm]; exact hf), hm]
    exact put_n N a o room v l l1 e1 e2 W h hf (by omega) t HT
/-- the types of a store's blocks -/
def cty (e : TypeId) : Bool := e == 88 || e == 110 || e == 108 || e == 75
def SK (W : World) (N : Nat) : Nat → Prop := fun k => N ≤ k ∧ ∃ c e z, W.heap[k]? = some (.cells c e z) ∧ cty e = true
/-- turned are blocks of caches alone, from N on -/
def TK (N : Nat) (W w : World) : Prop := Tch (SK W N) W w
theorem TK.refl (N : Nat) (W : World) : TK N W W := Tch.refl _ _
theorem TK.of {N : Nat} {W w : World} {S : Nat → Prop} (h : Tch S W w) (hs : ∀ k, k < W.heap.size → S k → SK W N k) : TK N W w := h.mono hs
theorem TK.trans {N : Nat} {a b c : World} (h : TK N a b) (k : TK N b c) : TK N a c := by
  refine Tch.trans h k ?_
  rintro i hi ⟨h1, x, e, z, h2, h3⟩
  refine Classical.byContradiction fun hn => hn ⟨h1, x, e, z, ?_, h3⟩
  rw [← h.blk i hi hn]; exact h2
theorem TK.below {N : Nat} {W w : World} (h : TK N W w) (hN : N ≤ W.heap.size) : Below N W w := Tch.below h hN fun _ x => x.1
theorem TK.kind {N : Nat} {W w : World} (h : TK N W w) {k : Nat} {c : Array Value} {e : TypeId} {z : Nat × Nat} (hk : W.heap[k]? = some (.cells c e z)) (he : cty e = false) : w.heap[k]? = W.heap[k]? :=
  h.blk k (Array.getElem?_eq_some_iff.1 hk).1 (by rintro ⟨_, c', e', z', h1, h2⟩; rw [hk] at h1; cases h1; rw [he] at h2; cases h2)
theorem TK.set {N : Nat} {W : World} {k o : Nat} {c : Array Value} {e : TypeId} {z : Nat × Nat} (hk : W.heap[k]? = some (.cells c e z)) (he : cty e = true) (hN : N ≤ k) (u : Value) : TK N W (W.setCell ⟨k, o, none⟩ u) :=
  (Tch.refl _ W).set (.inl ⟨hN, c, e, z, hk, he⟩) u
theorem Stp.tk {W w : World} {N a o : Nat} {room : Int} {v v' : Value} {l : List (Int × Int)} (h : Stp W w a o v v') (hs : SetAt W N a o room v l) : TK N W w := by
  refine TK.of h.tch ?_
  rintro k hk (rfl | x)
  · obtain ⟨C, h1, _⟩ := hs.blk
    exact ⟨hs.na, C, _, _, h1, by rfl⟩
  · rcases hs.row.2 with ⟨rfl, _⟩ | ⟨g, cap, cur, rfl, h1, h2, _⟩
    · simp [Value.ownBlock] at x
    · simp [Value.ownBlock] at x
      subst x
      exact ⟨h1, cur, _, _, h2, by rfl⟩
/-- how many entries a set of a cache has room for -/
def rmN (cap j : Nat) : Nat := min 2 (cap - 2 * j)
/-- the sets of a cache: block q (mutex m, list), block a (the sets), a row for each set's entries -/
structure SetsAt (w : World) (N q a cap : Nat) (m : Int) (vs : List Value) (ss : List (List (Int × Int))) : Prop where
  nq : N ≤ q
  na : N ≤ a
  c2 : 2 ≤ cap
  c64 : cap ≤ 64
  ls : ss.length = (cap + 1) / 2
  lv : vs.length = ss.length
  hq : w.heap[q]? = some (.cells #[.int .i32 m, .int .u32 0, .slice (some ⟨a, 0, none⟩) ss.length ss.length] 110 (0, 0))
  ha : ∃ C : Array Value, w.heap[a]? = some (.cells C 108 (0, 0)) ∧ ∀ j v, vs[j]? = some v → C[j * 2]? = some (.int .i64 (rmN cap j)) ∧ C[j * 2 + 1]? = some v
  row : ∀ j v l, vs[j]? = some v → ss[j]? = some l → w.ownsRow N 75 2 v l.length (flatD l) ∧ Roomy1 v ∧ l.length ≤ rmN cap j
  inj : ∀ (i j : Nat) (u v : Value) (g : Nat), i ≠ j → vs[i]? = some u → vs[j]? = some v → u.ownBlock = some g → v.ownBlock ≠ some g
theorem SetsAt.ne {w : World} {N q a cap : Nat} {m : Int} {vs : List Value} {ss : List (List (Int × Int))} (h : SetsAt w N q a cap m vs ss) : q ≠ a := by
  rintro rfl
  obtain ⟨C, h1, _⟩ := h.ha
  have := h.hq
  rw [h1] at this
  cases this
theorem SetsAt.at {w : World} {N q a cap : Nat} {m : Int} {vs : List Value} {ss : List (List (Int × Int))} (h : SetsAt w N q a cap m vs ss) {j : Nat} {v : Value} {l : List (Int × Int)} (hv : vs[j]? = some v) (hl : ss[j]? = some l) : SetAt w N a (j * 2) (rmN cap j) v l := by
  obtain ⟨C, h1, h2⟩ := h.ha
  exact ⟨h.na, ⟨C, h1, h2 j v hv⟩, (h.row j v l hv hl).1⟩
theorem own_entry {w : World} {N : Nat} {v : Value} {n : Nat} {xs : List Value} (h : w.ownsRow N 75 2 v n xs) {g : Nat} (hg : v.ownBlock = some g) : ∃ c, w.heap[g]? = some (.cells c 75 (0, 0)) := by
  rcases h.2 with ⟨rfl, _⟩ | ⟨g', cap, cur, rfl, h1, h2, _⟩
  · simp [Value.ownBlock] at hg
  · simp [Value.ownBlock] at hg; subst hg; exact ⟨cur, h2⟩
/-- one of the sets is turned -/
theorem SetsAt.step {W w : World} {N q a cap : Nat} {m : Int} {vs : List Value} {ss : List (List (Int × Int))} (h : SetsAt W N q a cap m vs ss) {j : Nat} {v v' : Value} {l l' : List (Int × Int)} (hv : vs[j]? = some v) (hl : ss[j]? = some l)
    (hs : Stp W w a (j * 2) v v') (hr : w.ownsRow N 75 2 v' l'.length (flatD l')) (h1 : Roomy1 v') (hlen : l'.length ≤ rmN cap j) : SetsAt w N q a cap m (vs.set j v') (ss.set j l') := by
  have hj : j < vs.length := (List.getElem?_eq_some_iff.1 hv).1
  have hj2 : j < ss.length := (List.getElem?_eq_some_iff.1 hl).1
  have hqo : v.ownBlock ≠ some q := fun e => by
    obtain ⟨c, hc⟩ := own_entry (h.row j v l hv hl).1 e
    rw [h.hq] at hc; cases hc
  refine ⟨h.nq, h.na, h.c2, h.c64, by simpa using h.ls, by simpa using h.lv, ?_, ?_, ?_, ?_⟩
  · rw [List.length_set]
    exact (hs.far (h.at hv hl) (Array.getElem?_eq_some_iff.1 h.hq).1 h.ne hqo).trans h.hq
  · obtain ⟨C, h2, h3⟩ := h.ha
    refine ⟨_, hs.arr C h2, fun i u hu => ?_⟩
    by_cases hi : i = j
    · subst hi
      rw [List.getElem?_set_self hj] at hu
      cases hu
      obtain ⟨h4, h5⟩ := h3 i v hv
      have := (Array.getElem?_eq_some_iff.1 h5).1
      exact ⟨by rw [Array.getElem?_setIfInBounds_ne (by omega)]; exact h4, by rw [Array.getElem?_setIfInBounds_self_of_lt this]⟩
    · rw [List.getElem?_set_ne (fun e => hi e.symm)] at hu
      obtain ⟨h4, h5⟩ := h3 i u hu
      exact ⟨by rw [Array.getElem?_setIfInBounds_ne (by omega)]; exact h4, by rw [Array.getElem?_setIfInBounds_ne (by omega)]; exact h5⟩
  · intro i u x hu hx
    by_cases hi : i = j
    · subst hi
      rw [List.getElem?_set_self hj] at hu
      rw [List.getElem?_set_self hj2] at hx
      cases hu; cases hx
      exact ⟨hr, h1, hlen⟩
    · rw [List.getElem?_set_ne (fun e => hi e.symm)] at hu hx
      obtain ⟨r1, r2, r3⟩ := h.row i u x hu hx
      refine ⟨own_keep r1 (fun g hg => ?_), r2, r3⟩
      obtain ⟨c, hc⟩ := own_entry r1 hg
      refine hs.far (h.at hv hl) (r1.lt g hg).2 ?_ (h.inj i j u v g hi hu hv hg)
      rintro rfl
      obtain ⟨C, h2, _⟩ := h.ha
      rw [h2] at hc; cases hc
  · intro i k u x g hne hu hx hg
    by_cases hi : i = j
    · subst hi
      rw [List.getElem?_set_self hj] at hu
      cases hu
      rw [List.getElem?_set_ne hne] at hx
      intro e
      obtain ⟨y, hy⟩ : ∃ y, ss[k]? = some y := ⟨_, List.getElem?_eq_getElem (by have := (List.getElem?_eq_some_iff.1 hx).1; have := h.lv; omega)⟩
      rcases hs.new g hg with z | z
      · exact h.inj i k v x g hne hv hx z e
      · have := ((h.row k x y hx hy).1.lt g e).2; omega
    · rw [List.getElem?_set_ne (fun e => hi e.symm)] at hu
      by_cases hk : k = j
      · subst hk
        rw [List.getElem?_set_self hj] at hx
        cases hx
        intro e
        obtain ⟨y, hy⟩ : ∃ y, ss[i]? = some y := ⟨_, List.getElem?_eq_getElem (by have := (List.getElem?_eq_some_iff.1 hu).1; have := h.lv; omega)⟩
        rcases hs.new g e with z | z
        · exact h.inj i k u v g hne hu hv hg z
        · have := ((h.row i u y hu hy).1.lt g hg).2; omega
      · rw [List.getElem?_set_ne (fun e => hk e.symm)] at hx
        exact h.inj i k u x g hne hu hx hg
/-- the mutex is turned -/
theorem SetsAt.lock {W : World} {N q a cap : Nat} {m : Int} {vs : List Value} {ss : List (List (Int × Int))} (h : SetsAt W N q a cap m vs ss) (m' : Int) : SetsAt (W.setCell ⟨q, 0, none⟩ (.int .i32 m')) N q a cap m' vs ss := by
  refine ⟨h.nq, h.na, h.c2, h.c64, h.ls, h.lv, ?_, ?_, ?_, h.inj⟩
  · rw [Go.Joins.block_setCell h.hq]; rfl
  · obtain ⟨C, h2, h3⟩ := h.ha
    exact ⟨C, (Below.heap_setCell _ _ _ _ (fun e => h.ne e.symm)).trans h2, h3⟩
  · intro j v l hv hl
    obtain ⟨r1, r2, r3⟩ := h.row j v l hv hl
    refine ⟨own_keep r1 (fun g hg => Below.heap_setCell _ _ _ _ ?_), r2, r3⟩
    rintro rfl
    obtain ⟨c, hc⟩ := own_entry r1 hg
    rw [h.hq] at hc; cases hc
theorem SetsAt.qc {W : World} {N q a cap : Nat} {m : Int} {vs : List Value} {ss : List (List (Int × Int))} (h : SetsAt W N q a cap m vs ss) : W.cell? ⟨q, 0, none⟩ = some (.int .i32 m) ∧ W.cell? ⟨q, 2, none⟩ = some (.slice (some ⟨a, 0, none⟩) ss.length ss.length) ∧ ∀ k, W.frozen? ⟨q, k, none⟩ = false :=
  ⟨(cell_of_row W q 0 _ _ _ h.hq).trans rfl, (cell_of_row W q 2 _ _ _ h.hq).trans rfl, fun k => frozen_of_row W q k _ _ h.hq⟩
end Go.Proofs.Ytdjmjdlolhfejaa
