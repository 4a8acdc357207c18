/- The walk of the statement TypesDescs over a descriptor that reads as a list of types and an answered type: it returns true; what was there before stays. -/
import Derived.Test.YtaljppicmookeaaDescsFacts
import Derived.Test.YtaljppicmookeaaAwake
namespace Go.Proofs.Ytaljppicmookeaa
open Go.ChangeShapes Go.WideShapes Go.ChangeAt Go.RowKit

/-- two descriptors of the call's own, each with its list; what was handed in is as it was -/
structure Tw (w : World) (D : Obj) (ts : List (Int × ByteArray)) (vb : Bool) (rd : Int) (rn : ByteArray) (A C : Nat) (va vc : Value) (xs : List Value) (wr : World) : Prop where
  bel : Below (w.heap.size + 1) (w.alloc D) wr
  a : wr.heap[A]? = some (.cells #[va, .bool vb, .int .i64 rd, .string rn] 31 (0, 0))
  c : wr.heap[C]? = some (.cells #[vc, .bool vb, .int .i64 rd, .string rn] 31 (0, 0))
  oa : wr.ownsRow (w.heap.size + 1) 24 2 va ts.length xs
  la : ∀ k, va.ownBlock = some k → k < A
  oc : wr.ownsRow (A + 1) 24 2 vc ts.length (flatT ts)
  lc : ∀ k, vc.ownBlock = some k → k < C
  ord : w.heap.size < A ∧ A < C

section
variable {w wr w1 : World} {D : Obj} {ts : List (Int × ByteArray)} {vb : Bool} {rd : Int} {rn : ByteArray} {A C : Nat} {va vc : Value} {xs : List Value}

theorem Tw.size (h : Tw w D ts vb rd rn A C va vc xs wr) : A < wr.heap.size ∧ C < wr.heap.size := ⟨(Array.getElem?_eq_some_iff.1 h.a).1, (Array.getElem?_eq_some_iff.1 h.c).1⟩

theorem Tw.keep (h : Tw w D ts vb rd rn A C va vc xs wr) (hb : Below wr.heap.size wr w1) : Tw w D ts vb rd rn A C va vc xs w1 :=
  ⟨h.bel.trans (hb.mono (by have := h.size; have := h.ord; omega)), by rw [hb.block _ h.size.1]; exact h.a, by rw [hb.block _ h.size.2]; exact h.c, own_below h.oa hb (Nat.le_refl _), h.la, own_below h.oc hb (Nat.le_refl _), h.lc, h.ord⟩

theorem Tw.old (h : Tw w D ts vb rd rn A C va vc xs wr) : Below w.heap.size w wr := ((Below.refl _ _).alloc (Nat.le_refl _) _).trans (h.bel.mono (Nat.le_succ _))

theorem Tw.put {g cap : Nat} (h : Tw w D ts vb rd rn A C (.slice (some ⟨g, 0, none⟩) ts.length cap) vc xs wr) (j : Nat) (u : Value) : Tw w D ts vb rd rn A C (.slice (some ⟨g, 0, none⟩) ts.length cap) vc (xs.set j u) (wr.setCell ⟨g, j, none⟩ u) := by
  have hg := h.oa.stored j u
  have hA := h.la g rfl
  have hB := (h.oa.lt g rfl).1
  have ho := h.ord
  refine ⟨h.bel.setCell hB _, ?_, ?_, hg.1, h.la, h.oc.kept hg.2 (.inr (fun e => by have := (h.oc.lt _ e).1; omega)), h.lc, h.ord⟩
  · rw [hg.2.block A h.size.1 (by simp; omega)]; exact h.a
  · rw [hg.2.block C h.size.2 (by simp; omega)]; exact h.c

theorem Tw.cells (h : Tw w D ts vb rd rn A C va vc xs wr) :
    (wr.cell? ⟨A, 0, none⟩ = some va ∧ wr.cell? ⟨A, 1, none⟩ = some (.bool vb) ∧ wr.cell? ⟨A, 2, none⟩ = some (.int .i64 rd) ∧ wr.cell? ⟨A, 3, none⟩ = some (.string rn)) ∧
    (wr.cell? ⟨C, 0, none⟩ = some vc ∧ wr.cell? ⟨C, 1, none⟩ = some (.bool vb) ∧ wr.cell? ⟨C, 2, none⟩ = some (.int .i64 rd) ∧ wr.cell? ⟨C, 3, none⟩ = some (.string rn)) := by
  refine ⟨⟨?_, ?_, ?_, ?_⟩, ?_, ?_, ?_, ?_⟩
  · rw [cell_of_row _ A 0 _ 31 (0, 0) h.a]; rfl
  · rw [cell_of_row _ A 1 _ 31 (0, 0) h.a]; rfl
  · rw [cell_of_row _ A 2 _ 31 (0, 0) h.a]; rfl
  · rw [cell_of_row _ A 3 _ 31 (0, 0) h.a]; rfl
  · rw [cell_of_row _ C 0 _ 31 (0, 0) h.c]; rfl
  · rw [cell_of_row _ C 1 _ 31 (0, 0) h.c]; rfl
  · rw [cell_of_row _ C 2 _ 31 (0, 0) h.c]; rfl
  · rw [cell_of_row _ C 3 _ 31 (0, 0) h.c]; rfl

/-- behind the last append: the second descriptor and what was handed in are as they were -/
theorem Tw.grown (o : Obj) (h : Tw w D ts vb rd rn A C va vc xs wr) (hg : (wr.alloc o).grownBy w1 va.ownBlock) :
    Below (w.heap.size + 1) (w.alloc D) w1 ∧ (w1.cell? ⟨C, 0, none⟩ = some vc ∧ w1.cell? ⟨C, 1, none⟩ = some (.bool vb) ∧ w1.cell? ⟨C, 2, none⟩ = some (.int .i64 rd) ∧ w1.cell? ⟨C, 3, none⟩ = some (.string rn)) ∧ IsTys w1 vc ts := by
  have h2 := h.keep ((Below.refl _ _).alloc (Nat.le_refl _) o)
  have ho := h.ord
  have hc : w1.heap[C]? = some (.cells #[vc, .bool vb, .int .i64 rd, .string rn] 31 (0, 0)) := by
    rw [hg.block C h2.size.2 (fun e => by have := h.la C e.symm; omega)]; exact h2.c
  refine ⟨h2.bel.grown hg (by have := h2.size; omega) (fun k e => (h.oa.lt k e).1), ⟨?_, ?_, ?_, ?_⟩, ?_⟩
  · rw [cell_of_row _ C 0 _ 31 (0, 0) hc]; rfl
  · rw [cell_of_row _ C 1 _ 31 (0, 0) hc]; rfl
  · rw [cell_of_row _ C 2 _ 31 (0, 0) hc]; rfl
  · rw [cell_of_row _ C 3 _ 31 (0, 0) hc]; rfl
  · refine own_tys (h2.oc.kept hg ?_)
    by_cases hn : vc.ownBlock = none
    · exact .inl hn
    · refine .inr (fun e => ?_)
      obtain ⟨k, hk⟩ := Option.ne_none_iff_exists'.1 hn
      have h1 := (h2.oc.lt k hk).1
      have h3 := h.la k (by rw [← e]; exact hk)
      omega
end

theorem four_new2 (w : World) (x0 x1 x2 x3 : Value) (t : TypeId) : ∀ j u, [x0, x1, x2, x3][j]? = some u → (w.alloc (.cells #[x0, x1, x2, x3] t)).cell? ((⟨w.heap.size, 0, none⟩ : Addr).add j) = some u := by
  obtain ⟨h0, h1, h2, h3⟩ := four_new w x0 x1 x2 x3 t
  intro j u hj
  match j, hj with
  | 0, hj => simp at hj; subst hj; rw [Addr.add_lit]; exact h0
  | 1, hj => simp at hj; subst hj; rw [Addr.add_lit]; exact h1
  | 2, hj => simp at hj; subst hj; rw [Addr.add_lit]; exact h2
  | 3, hj => simp at hj; subst hj; rw [Addr.add_lit]; exact h3

theorem six_new (w : World) (x0 x1 x2 x3 x4 x5 : Value) (t : TypeId) : ∀ j u, [x0, x1, x2, x3, x4, x5][j]? = some u → (w.alloc (.cells #[x0, x1, x2, x3, x4, x5] t)).cell? ((⟨w.heap.size, 0, none⟩ : Addr).add j) = some u := by
  intro j u hj
  match j, hj with
  | 0, hj => simp at hj; subst hj; rw [Addr.add_lit, cell_of_row _ w.heap.size 0 _ t (0, 0) (heap_alloc_new w _)]; rfl
  | 1, hj => simp at hj; subst hj; rw [Addr.add_lit, cell_of_row _ w.heap.size 1 _ t (0, 0) (heap_alloc_new w _)]; rfl
  | 2, hj => simp at hj; subst hj; rw [Addr.add_lit, cell_of_row _ w.heap.size 2 _ t (0, 0) (heap_alloc_new w _)]; rfl
  | 3, hj => simp at hj; subst hj; rw [Addr.add_lit, cell_of_row _ w.heap.size 3 _ t (0, 0) (heap_alloc_new w _)]; rfl
  | 4, hj => simp at hj; subst hj; rw [Addr.add_lit, cell_of_row _ w.heap.size 4 _ t (0, 0) (heap_alloc_new w _)]; rfl
  | 5, hj => simp at hj; subst hj; rw [Addr.add_lit, cell_of_row _ w.heap.size 5 _ t (0, 0) (heap_alloc_new w _)]; rfl

/-- two descriptors parsed one behind the other -/
theorem Tw.make {w wE wF : World} {D : Obj} {ts : List (Int × ByteArray)} {vb : Bool} {rd : Int} {rn : ByteArray} {va vc : Value} (hE : Below (w.heap.size + 1) (w.alloc D) wE) (hz : w.heap.size < wE.heap.size)
    (hoa : wE.ownsRow (w.heap.size + 1) 24 2 va ts.length (flatT ts)) (hb : Below (wE.alloc (.cells #[va, .bool vb, .int .i64 rd, .string rn] 31)).heap.size (wE.alloc (.cells #[va, .bool vb, .int .i64 rd, .string rn] 31)) wF)
    (hoc : wF.ownsRow (wE.alloc (.cells #[va, .bool vb, .int .i64 rd, .string rn] 31)).heap.size 24 2 vc ts.length (flatT ts)) :
    Tw w D ts vb rd rn wE.heap.size wF.heap.size va vc (flatT ts) (wF.alloc (.cells #[vc, .bool vb, .int .i64 rd, .string rn] 31)) := by
  have hs : (wE.alloc (.cells #[va, .bool vb, .int .i64 rd, .string rn] 31)).heap.size = wE.heap.size + 1 := by simp
  rw [hs] at hb hoc
  have hsz := hb.size
  rw [hs] at hsz
  have hal : Below wF.heap.size wF (wF.alloc (.cells #[vc, .bool vb, .int .i64 rd, .string rn] 31)) := (Below.refl _ _).alloc (Nat.le_refl _) _
  refine ⟨(((hE.alloc hz _).trans (hb.mono (by omega))).alloc (by omega) _), ?_, heap_alloc_new wF _, ?_, fun k e => (hoa.lt k e).2, own_below hoc hal (Nat.le_refl _), fun k e => (hoc.lt k e).2, ⟨hz, by omega⟩⟩
  · rw [hal.block _ (by omega), hb.block _ (by omega)]
    exact heap_alloc_new wE _
  · exact own_below (own_below (hoa.alloc _) hb (by rw [hs]; omega)) hal (Nat.le_refl _)

theorem empty_own (w : World) (base : Nat) (hb : base ≤ w.heap.size) : (w.alloc (.cells #[] 24)).ownsRow base 24 2 (.slice (some ⟨w.heap.size, 0, none⟩) 0 0) 0 [] :=
  World.ownsRow_made w #[] 0 hb (by unfold maxLen; omega) rfl

set_option maxRecDepth 10000 in
set_option maxHeartbeats 16000000 in
theorem typesDescs_walk (v : Value) (ts : List (Int × ByteArray)) (vb : Bool) (rd : Int) (rn : ByteArray) (w : World) (h : IsTys w v ts)
    (hsrc : (v = .slice none 0 0 ∧ ts.length = 0) ∨ ∃ ad c, v = .slice (some ad) ts.length c ∧ ∀ j u, (flatT ts)[j]? = some u → w.cell? (ad.add j) = some u)
    (hsz : ∀ t ∈ ts, t.2.size ≤ maxLen) (hrn : rn.size ≤ maxLen) (hn : ts.length * 24 ≤ 140737488351232) :
    Calls Try.prog 5 #[.agg #[v, .bool vb, .int .i64 rd, .string rn]] w fun e w' => e = .returned (.bool true) ∧ Below w.heap.size w w' := by
  obtain ⟨i24, hi24, hz0, hz1, hz2⟩ := info_parts Try.info24
  have HA : Hid (∀ w, _) := awake_any
  have HT : Hid (∀ (x : Value) (W : World), IsTys W x ts → Calls Try.prog 31 #[.agg #[x, .bool vb, .int .i64 rd, .string rn]] W fun e w' => e = .returned (.tuple #[.string ⟨(dtS ts vb rd rn).toArray⟩, .int .i64 (dtE ts vb rd rn)]) ∧ Below W.heap.size W w') := fun x W hx => descText_any x ts vb rd rn W hx hsz hrn
  have HTr : Hid (∀ (W : World), IsTys W v ts → Calls Try.prog 32 #[.agg #[v, .bool vb, .int .i64 rd, .string rn]] W fun e w' => e = .returned (.tuple #[.string ⟨(dtS ts vb rd rn).toArray⟩, .int .i64 (dtE ts vb rd rn)]) ∧ Below W.heap.size W w') := fun W hx => rDescText_any v ts vb rd rn W hx hsz hrn
  have HS : Hid (∀ (x : Value) (W : World), IsTys W x ts → IsTys W v ts → Calls Try.prog 33 #[x, v] W fun e w' => e = .returned (.bool true) ∧ Below W.heap.size W w') := fun x W h1 h2 => sameTypes_any x v ts W h1 h2
  have HSD : Hid (∀ (x : Value) (W : World), IsTys W x ts → IsTys W v ts → Calls Try.prog 16 #[.agg #[x, .bool vb, .int .i64 rd, .string rn], .agg #[v, .bool vb, .int .i64 rd, .string rn]] W fun e w' => e = .returned (.bool true) ∧ Below W.heap.size W w') := fun x W h1 h2 => sameDesc_any x v ts vb rd rn W h1 h2
  have HP : Hid (dtE ts vb rd rn = 0 → ∀ w, Calls Try.prog 14 #[.string ⟨(dtS ts vb rd rn).toArray⟩] w fun e w' => ∃ v, e = .returned (.tuple #[.agg #[v, .bool vb, .int .i64 rd, .string rn], .int .i64 0]) ∧ w'.ownsRow w.heap.size 24 2 v ts.length (flatT ts) ∧ Below w.heap.size w w') := fun h0 w => parse_text ts vb rd rn h0 w
  have HN : Hid (dtE ts vb rd rn = 0 → ts.length ≤ 20) := fun h0 => (dt_zero h0).2.1
  have HI : Hid (IsTys w v ts) := h
  have HSRC : Hid (∀ w', Below w.heap.size w w' → (v = .slice none 0 0 ∧ ts.length = 0) ∨ ∃ ad c, v = .slice (some ad) ts.length c ∧ ∀ j u, (flatT ts)[j]? = some u → w'.cell? (ad.add j) = some u) := fun w' hb => by
    rcases hsrc with h1 | ⟨ad, c, h1, h2⟩
    · exact .inl h1
    · exact .inr ⟨ad, c, h1, fun j u hj => (hb.cell (World.block_lt_of_cell? w _ (h2 j u hj))).trans (h2 j u hj)⟩
  have HFL : Hid _ := flatT_length ts
  obtain ⟨ao, cap0, rfl⟩ := tys_slice h
  generalize (⟨(dtS ts vb rd rn).toArray⟩ : ByteArray) = tx at *
  generalize dtE ts vb rd rn = ex at *
  clear h hsrc hsz hrn
  go_enter Try.func5, Try.ntmps5
  go_wp2_with (first
    | (go_at_call 8; (refine (HA.out _).mono ?_; rintro e w8 ⟨rfl, hb8⟩; have B8 : Hid (Below (w.heap.size + 1) (w.alloc (.cells #[.slice ao ts.length cap0, .bool vb, .int .i64 rd, .string rn] 31)) w8) := hb8.mono (by simp); obtain ⟨t0, t1, t2, t3⟩ := four_keep (four_new w (.slice ao ts.length cap0) (.bool vb) (.int .i64 rd) (.string rn) 31) (by simp) hb8; have z8 : w.heap.size < w8.heap.size := (by have := hb8.size; simp at this; omega); clear hb8))
    | (at_builtin; refine wpList_append_opt _ rfl _ _ 29 rfl (w.heap.size + 1) 24 i24 (.agg #[.int .i64 0, .string ⟨#[]⟩]) 2 24 Try.underlying29 hi24 hz0 hz1 hz2 rfl (by decide) _ _ _ rfl (empty_own w8 _ z8) (.slice ao ts.length cap0) ts.length (flatT ts) rfl HFL.out ?c0 ?c2 ?c3 ?c4 ?c5 ?_))
  case c0 => exact HSRC.out _ ((((Below.refl _ _).alloc (Nat.le_refl _) _).trans (B8.out.mono (Nat.le_succ _))).alloc (by omega) _)
  case c2 => exact flatT_one ts
  case c3 => unfold maxLen; omega
  case c4 => omega
  case c5 => simp; omega
  intro v1 wA ho1 hg1
  have BA : Hid (Below (w.heap.size + 1) (w.alloc (.cells #[.slice ao ts.length cap0, .bool vb, .int .i64 rd, .string rn] 31)) wA) := (B8.out.alloc z8 _).grown hg1 (by simp; omega) (fun k e => by simp [Value.ownBlock] at e; omega)
  have zA : w.heap.size < wA.heap.size := by have := BA.out.size; simp at this; omega
  clear hg1 B8 t0 t1 t2 t3 HSRC HA
  go_wp2_with (at_builtin; refine wpList_append_own _ rfl _ _ 29 rfl (w.heap.size + 1) 24 i24 (.agg #[.int .i64 0, .string ⟨#[]⟩]) 2 24 Try.underlying29 hi24 hz0 hz1 hz2 rfl (by decide) _ _ _ rfl (ho1.alloc _) ⟨wA.heap.size, 0, none⟩ 2 2 [.int .i64 (-71), .string ⟨#[]⟩, .int .i64 (-72), .string ⟨#[]⟩] rfl rfl ?e1 ?e2 ?e3 ?e4 ?e5 ?_)
  case e1 => exact four_new2 wA _ _ _ _ _
  case e2 => intro u hu; simp at hu; rcases hu with rfl | rfl | rfl | rfl <;> rfl
  case e3 => unfold maxLen; omega
  case e4 => omega
  case e5 => simp; omega
  intro v2 wB ho2 hg2 _
  obtain ⟨g, cap, rfl⟩ : ∃ g cap, v2 = .slice (some ⟨g, 0, none⟩) (ts.length + 2) cap := by
    rcases ho2.2 with ⟨_, h0⟩ | ⟨g, cap, cur, q, _⟩
    · omega
    · exact ⟨g, cap, q⟩
  have DS : Hid (Ds w (.cells #[.slice ao ts.length cap0, .bool vb, .int .i64 rd, .string rn] 31) ts g cap wB) := by
    refine ⟨?_, (BA.out.alloc zA _).grown hg2 (by simp; omega) (fun k e => (ho1.lt k e).1)⟩
    have e : flatT (ts ++ marks) = flatT ts ++ [.int .i64 (-71), .string ⟨#[]⟩, .int .i64 (-72), .string ⟨#[]⟩] := by simp [flatT, marks, tyC]
    rw [e]
    exact ho2
  clear ho1 ho2 hg2 BA zA z8
  obtain ⟨hcl, hcm⟩ := DS.out.caps
  unfold maxLen at hcm
  have zB := DS.out.size
  obtain ⟨zB1, zB2⟩ := zB
  obtain ⟨t0, t1, t2, t3⟩ := four_keep (four_new w (.slice ao ts.length cap0) (.bool vb) (.int .i64 rd) (.string rn) 31) (by simp) (DS.out.bel.mono (by simp))
  obtain ⟨σ, V, V1, V2⟩ : ∃ (σ : Type) (V : σ → World), Hid (∀ s, Hid (Below wB.heap.size wB (V s))) ∧ Hid (∀ x, Hid (Below wB.heap.size wB x) → ∃ s, x = V s) :=
    ⟨{x // Hid (Below wB.heap.size wB x)}, Subtype.val, fun s => s.2, fun x q => ⟨⟨x, q⟩, rfl⟩⟩
  have T0 : Hid (Below wB.heap.size wB wB.drew) := (Below.refl _ _).drew
  have hns : Nonempty σ := (V2.out _ T0).elim fun s _ => ⟨s⟩
  have hzw : w.heap.size < wB.heap.size := by omega
  have q1 : ∀ s', (V s').cell? ⟨w.heap.size, 1, none⟩ = some (.bool vb) := fun s' => ((V1.out s').out.cell (p := ⟨w.heap.size, 1, none⟩) hzw).trans t1
  have q2 : ∀ s', (V s').cell? ⟨w.heap.size, 2, none⟩ = some (.int .i64 rd) := fun s' => ((V1.out s').out.cell (p := ⟨w.heap.size, 2, none⟩) hzw).trans t2
  have q3 : ∀ s', (V s').cell? ⟨w.heap.size, 3, none⟩ = some (.string rn) := fun s' => ((V1.out s').out.cell (p := ⟨w.heap.size, 3, none⟩) hzw).trans t3
  have HTV : Hid (∀ s', Calls Try.prog 31 #[.agg #[.slice (some ⟨g, 0, none⟩) ts.length cap, .bool vb, .int .i64 rd, .string rn]] (V s') fun e w' => e = .returned (.tuple #[.string tx, .int .i64 ex]) ∧ ∃ s, w' = V s) := fun s' =>
    (HT.out _ (V s') ((DS.out.keep (V1.out s').out).tys)).mono fun e w' ⟨he, hb⟩ => ⟨he, V2.out _ (Below.step (V1.out s').out hb)⟩
  go_wp2
  refine wp_region_class (C := fun w' => ∃ s, w' = V s) (by kernel_rfl) (by kernel_rfl) (V2.out _ T0) ?_
  repeat (go_big_quiet_step ((go_at_call 31; exact HTV.out _)))
  refine wpQuiet_nil ?_
  intro w9 hw9
  obtain ⟨s9, rfl⟩ := hw9
  have D9 : Hid (Ds w (.cells #[.slice ao ts.length cap0, .bool vb, .int .i64 rd, .string rn] 31) ts g cap (V s9)) := DS.out.keep (V1.out s9).out
  generalize V s9 = wC at *
  clear q1 q2 q3 HTV V1 V2 T0 hns t0 t1 t2 t3 DS zB2 hzw HT
  obtain ⟨t0, t1, t2, t3⟩ := four_keep (four_new w (.slice ao ts.length cap0) (.bool vb) (.int .i64 rd) (.string rn) 31) (by simp) (D9.out.bel.mono (by simp))
  go_wp2_with (go_at_call 32; (refine (HTr.out _ (HI.out.keep D9.out.old)).mono ?_; rintro e wD ⟨rfl, hbD⟩; have D10 : Hid (Ds w (.cells #[.slice ao ts.length cap0, .bool vb, .int .i64 rd, .string rn] 31) ts g cap wD) := D9.out.keep hbD; clear hbD))
  clear t0 t1 t2 t3 D9
  obtain ⟨σ2, U, U1, U2⟩ : ∃ (σ : Type) (U : σ → World), Hid (∀ s, Hid (Below wD.heap.size wD (U s))) ∧ Hid (∀ x, Hid (Below wD.heap.size wD x) → ∃ s, x = U s) :=
    ⟨{x // Hid (Below wD.heap.size wD x)}, Subtype.val, fun s => s.2, fun x q => ⟨⟨x, q⟩, rfl⟩⟩
  have T0 : Hid (Below wD.heap.size wD wD.drew) := (Below.refl _ _).drew
  have hns : Nonempty σ2 := (U2.out _ T0).elim fun s _ => ⟨s⟩
  obtain ⟨t0, t1, t2, t3⟩ := four_keep (four_new w (.slice ao ts.length cap0) (.bool vb) (.int .i64 rd) (.string rn) 31) (by simp) (D10.out.bel.mono (by simp))
  have hzw : w.heap.size < wD.heap.size := by have := D10.out.size; omega
  obtain ⟨p, hpn⟩ : ∃ p, p = ts.length + 1 := ⟨_, rfl⟩
  have hp : (ts.length : Int) + 1 = (p : Int) := by omega
  have hp2 : p < ts.length + 2 := by omega
  have HPN : Hid _ := hpn
  have q0 : ∀ s', (U s').cell? ⟨w.heap.size, 0, none⟩ = some (.slice ao ts.length cap0) := fun s' => ((U1.out s').out.cell (p := ⟨w.heap.size, 0, none⟩) hzw).trans t0
  have m1 : ∀ s', (U s').cell? ⟨g, ts.length * 2, none⟩ = some (.int .i64 (-71)) := fun s' => (D10.out.keep (U1.out s').out).marked.1
  have m2 : ∀ s', (U s').cell? ⟨g, p * 2, none⟩ = some (.int .i64 (-72)) := fun s' => by rw [hpn]; exact (D10.out.keep (U1.out s').out).marked.2
  have HSV : Hid (∀ s', Calls Try.prog 33 #[.slice (some ⟨g, 0, none⟩) ts.length cap, .slice ao ts.length cap0] (U s') fun e w' => e = .returned (.bool true) ∧ ∃ s, w' = U s) := fun s' =>
    (HS.out _ (U s') ((D10.out.keep (U1.out s').out).tys) (HI.out.keep (D10.out.keep (U1.out s').out).old)).mono fun e w' ⟨he, hb⟩ => ⟨he, U2.out _ (Below.step (U1.out s').out hb)⟩
  have n1 : (tx.toList != tx.toList) = false := by simp
  have n2 : (ex != ex) = false := by simp
  clear hpn t0 t1 t2 t3
  refine wp_region_class (C := fun w' => ∃ s, w' = U s) (by kernel_rfl) (by kernel_rfl) (U2.out _ T0) ?_
  repeat (go_big_quiet_step ((go_at_call 33; exact HSV.out _)))
  refine wpQuiet_nil ?_
  intro w9 hw9
  obtain ⟨s9, rfl⟩ := hw9
  have D11 : Hid (Ds w (.cells #[.slice ao ts.length cap0, .bool vb, .int .i64 rd, .string rn] 31) ts g cap (U s9)) := D10.out.keep (U1.out s9).out
  generalize U s9 = wX at *
  clear q0 m1 m2 HSV U1 U2 T0 hns hzw D10 hp hp2 HPN HS HTr
  by_cases hx : ex = 0
  · subst hx
    have hn20 := HN.out rfl
    have HP1 : Hid (∀ w, _) := HP.out rfl
    have HP2 : Hid (∀ w, _) := HP.out rfl
    have HD1 : Hid _ := HSD.out
    have HD2 : Hid _ := HSD.out
    have B11 : Hid (Below (w.heap.size + 1) (w.alloc (.cells #[.slice ao ts.length cap0, .bool vb, .int .i64 rd, .string rn] 31)) wX) := D11.out.bel
    obtain ⟨t0, t1, t2, t3⟩ := four_keep (four_new w (.slice ao ts.length cap0) (.bool vb) (.int .i64 rd) (.string rn) 31) (by simp) (B11.out.mono (by simp))
    have z11 : w.heap.size < wX.heap.size := by have := D11.out.size; omega
    clear D11 HP HN
    go_wp2_with (first
      | (go_at_call 14; (refine (HP1.out _).mono ?_; rintro e wE ⟨va, rfl, hoa, hbE⟩; obtain ⟨aoa, capa, rfl⟩ := own_slice hoa; have zE : w.heap.size < wE.heap.size := Nat.lt_of_lt_of_le z11 hbE.size; have BE : Hid (Below (w.heap.size + 1) (w.alloc (.cells #[.slice ao ts.length cap0, .bool vb, .int .i64 rd, .string rn] 31)) wE) := B11.out.trans (hbE.mono z11); have OA : Hid _ := own_base hoa z11; clear hoa hbE HP1; obtain ⟨e0, e1, e2, e3⟩ := four_keep (four_new w (.slice ao ts.length cap0) (.bool vb) (.int .i64 rd) (.string rn) 31) (by simp) (BE.out.mono (by simp))))
      | (go_at_call 14; (refine (HP2.out _).mono ?_; rintro e wF ⟨vc, rfl, hoc, hbF⟩; obtain ⟨aoc, capc, rfl⟩ := own_slice hoc; have TW : Hid (Tw w (.cells #[.slice ao ts.length cap0, .bool vb, .int .i64 rd, .string rn] 31) ts vb rd rn wE.heap.size wF.heap.size (.slice aoa ts.length capa) (.slice aoc ts.length capc) (flatT ts) (wF.alloc (.cells #[.slice aoc ts.length capc, .bool vb, .int .i64 rd, .string rn] 31))) := Tw.make BE.out zE OA.out hbF hoc; clear hoc hbF HP2; obtain ⟨⟨f0, f1, f2, f3⟩, f4, f5, f6, f7⟩ := TW.out.cells; obtain ⟨fd0, fd1, fd2, fd3⟩ := four_keep (four_new w (.slice ao ts.length cap0) (.bool vb) (.int .i64 rd) (.string rn) 31) (by simp) (TW.out.bel.mono (by simp))))
      | (go_at_call 16; (refine (HD1.out _ _ (own_tys TW.out.oa) (HI.out.keep TW.out.old)).mono ?_; rintro e wG ⟨rfl, hbG⟩; have TG : Hid (Tw w (.cells #[.slice ao ts.length cap0, .bool vb, .int .i64 rd, .string rn] 31) ts vb rd rn wE.heap.size wF.heap.size (.slice aoa ts.length capa) (.slice aoc ts.length capc) (flatT ts) wG) := TW.out.keep hbG; clear hbG HD1; obtain ⟨⟨g0, g1, g2, g3⟩, g4, g5, g6, g7⟩ := TG.out.cells; obtain ⟨gd0, gd1, gd2, gd3⟩ := four_keep (four_new w (.slice ao ts.length cap0) (.bool vb) (.int .i64 rd) (.string rn) 31) (by simp) (TG.out.bel.mono (by simp))))
      | (go_at_call 16; (refine (HD2.out _ _ (own_tys TG.out.oc) (HI.out.keep TG.out.old)).mono ?_; rintro e wH ⟨rfl, hbH⟩; have TH : Hid (Tw w (.cells #[.slice ao ts.length cap0, .bool vb, .int .i64 rd, .string rn] 31) ts vb rd rn wE.heap.size wF.heap.size (.slice aoa ts.length capa) (.slice aoc ts.length capc) (flatT ts) wH) := TG.out.keep hbH; clear hbH HD2)))
    clear t0 t1 t2 t3 e0 e1 e2 e3 f0 f1 f2 f3 f4 f5 f6 f7 fd0 fd1 fd2 fd3 g0 g1 g2 g3 g4 g5 g6 g7 gd0 gd1 gd2 gd3 TW TG OA BE B11
    go_loopw [13] (fun iv wr => ∃ (i : Nat) (xs : List Value), iv = .int .i64 i ∧ i ≤ ts.length ∧ Hid (Tw w (.cells #[.slice ao ts.length cap0, .bool vb, .int .i64 rd, .string rn] 31) ts vb rd rn wE.heap.size wF.heap.size (.slice aoa ts.length capa) (.slice aoc ts.length capc) xs wr)) (fun iv _ => ts.length - (intOf iv).toNat)
    case atStart => exact ⟨0, _, rfl, Nat.zero_le _, TH⟩
    case round =>
      clear TH
      obtain ⟨i, xs, rfl, hi, hT⟩ := hrel
      obtain ⟨⟨a0, a1, a2, a3⟩, a4, a5, a6, a7⟩ := hT.out.cells
      have zC := hT.out.size.2
      have zAC := hT.out.ord
      by_cases hlt : i < ts.length
      · obtain ⟨ga, rfl⟩ : ∃ ga, aoa = some ⟨ga, 0, none⟩ := by
          rcases hT.out.oa.2 with ⟨_, h0⟩ | ⟨ga, c, cur, q, _⟩
          · omega
          · simp only [Value.slice.injEq] at q
            exact ⟨ga, q.1⟩
        have hxl : xs.length = ts.length * 2 := hT.out.oa.1
        have k0 := hT.out.oa.cellAt (i * 2) (by omega)
        have k1 := hT.out.oa.cellAt (i * 2 + 1) (by omega)
        rw [List.getElem?_eq_getElem (by omega)] at k0 k1
        have l0 := hT.out.oa.frozenAt (i * 2)
        have l1 := hT.out.oa.frozenAt (i * 2 + 1)
        have hcap : ts.length ≤ capa ∧ capa ≤ maxLen := by
          rcases hT.out.oa.2 with ⟨q, _⟩ | ⟨g1, c1, cur, q, _, _, b1, b2, _⟩
          · simp at q
          · simp only [Value.slice.injEq, Option.some.injEq, Addr.mk.injEq, and_true, true_and] at q
            obtain ⟨_, rfl⟩ := q
            exact ⟨b1, b2⟩
        obtain ⟨hc1, hc2⟩ := hcap
        unfold maxLen at hc2
        have R : Hid (Tw w (.cells #[.slice ao ts.length cap0, .bool vb, .int .i64 rd, .string rn] 31) ts vb rd rn wE.heap.size wF.heap.size (.slice (some ⟨ga, 0, none⟩) ts.length capa) (.slice aoc ts.length capc) ((xs.set (i * 2) (.int .i64 9)).set (i * 2 + 1) (.string ⟨#[120]⟩)) ((wr.setCell ⟨ga, i * 2, none⟩ (.int .i64 9)).setCell ⟨ga, i * 2 + 1, none⟩ (.string ⟨#[120]⟩))) := (hT.out.put _ _).put _ _
        clear hT HI HSD HFL
        go_wp2
        go_roundw
        case rel => exact ⟨i + 1, _, by go_num, by omega, R⟩
        case measure => simp [intOf]; omega
      · go_wp2_with (at_builtin; refine wpList_append_own _ rfl _ _ 29 rfl (w.heap.size + 1) 24 i24 (.agg #[.int .i64 0, .string ⟨#[]⟩]) 2 24 Try.underlying29 hi24 hz0 hz1 hz2 rfl (by decide) _ _ _ rfl (hT.out.oa.alloc _) ⟨wr.heap.size, 0, none⟩ 3 3 [.int .i64 8, .string ⟨#[]⟩, .int .i64 8, .string ⟨#[]⟩, .int .i64 8, .string ⟨#[]⟩] rfl rfl ?r1 ?r2 ?r3 ?r4 ?r5 ?_)
        case r1 => exact six_new wr _ _ _ _ _ _ _
        case r2 => intro u hu; simp at hu; rcases hu with rfl | rfl | rfl | rfl | rfl | rfl <;> rfl
        case r3 => unfold maxLen; omega
        case r4 => omega
        case r5 => simp; omega
        intro v3 wH2 ho3 hg3 _
        obtain ⟨ao3, cap3, rfl⟩ := own_slice ho3
        obtain ⟨BH, ⟨x0, x1, x2, x3⟩, IC⟩ := hT.out.grown _ hg3
        obtain ⟨y0, y1, y2, y3⟩ := four_keep (four_new w (.slice ao ts.length cap0) (.bool vb) (.int .i64 rd) (.string rn) 31) (by simp) (BH.mono (by simp))
        have HBH : Hid _ := BH
        have HIC : Hid _ := IC
        have HOLD : Hid (Below w.heap.size w wH2) := ((Below.refl _ _).alloc (Nat.le_refl _) _).trans (BH.mono (Nat.le_succ _))
        have h3 : (((ts.length + 3 : Nat) : Int) == (ts.length : Int) + 3) = true := by rw [beq_iff_eq]; omega
        clear hT ho3 hg3 BH IC
        go_wp2_with (go_at_call 16; (refine (HSD.out _ _ HIC.out (HI.out.keep HOLD.out)).mono ?_; rintro e wZ ⟨rfl, hbZ⟩))
        go_ret
        exact ⟨rfl, Below.step HOLD.out hbZ⟩
  · have hx' : (ex != 0) = true := by simpa using hx
    have HB : Hid _ := D11.out.old
    clear D11 HP HN HSD HI hx
    go_wp2
    go_ret
    exact ⟨rfl, HB.out⟩

end Go.Proofs.Ytaljppicmookeaa
