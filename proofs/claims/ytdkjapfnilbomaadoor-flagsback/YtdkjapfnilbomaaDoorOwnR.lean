/- The walk of package flags' read: it answers the flags that the words of a text write, or ErrText. -/
import Derived.Test.YtdkjapfnilbomaaDoorSplit
import Derived.Shelf.RegionOpen
import Derived.Test.YtdkjapfnilbomaaDoorOwnC
namespace Go.Proofs.YtdkjapfnilbomaaDoor
open Go.RowKit Go.Shelf
attribute [local go_sem] Oper.semAt_some

/-- one word taken: its flag above all that were read -/
def stepT (kn f : Int) (t : List UInt8) : Option Int := if bits .and .i64 (flagN t) kn ≤ f then none else some (bits .or .i64 f (bits .and .i64 (flagN t) kn))
def runT (kn : Int) : List (List UInt8) → Int → Option Int
  | [], f => some f
  | t :: ts, f => (stepT kn f t).bind (runT kn ts)
theorem runT_app (kn : Int) (a b : List (List UInt8)) (f : Int) : runT kn (a ++ b) f = (runT kn a f).bind (runT kn b) := by
  induction a generalizing f with
  | nil => rfl
  | cons t a ih =>
    simp only [List.cons_append, runT]
    cases stepT kn f t with
    | none => rfl
    | some g => exact ih g
theorem runT_pre {kn f : Int} {a b : List (List UInt8)} (h : a <+: b) (hn : runT kn a f = none) : runT kn b f = none := by
  obtain ⟨c, rfl⟩ := h
  rw [runT_app, hn]; rfl

set_option maxHeartbeats 400000 in
theorem splitSeq_any (s : ByteArray) (w : World) : Calls Tryd.prog 47 #[.string s, .string ⟨#[32]⟩, .int .i64 0] w fun e w' =>
    e = .returned (.func (.func 50) #[] #[.pointer (some ⟨w.heap.size + 1, 0, none⟩), .pointer (some ⟨w.heap.size, 0, none⟩), .pointer (some ⟨w.heap.size + 1 + 1, 0, none⟩)]) ∧
      w' = ((w.alloc (.cells #[.string s] 9)).alloc (.cells #[.string ⟨#[32]⟩] 9)).alloc (.cells #[.int .i64 0] 3) := by
  go_enter Tryd.func47, Tryd.ntmps47
  go_wp2
  go_ret
  exact ⟨rfl, rfl⟩
set_option maxHeartbeats 400000 in
theorem SplitSeq_any (s : ByteArray) (w : World) : Calls Tryd.prog 40 #[.string s, .string ⟨#[32]⟩] w fun e w' =>
    e = .returned (.func (.func 50) #[] #[.pointer (some ⟨w.heap.size + 1, 0, none⟩), .pointer (some ⟨w.heap.size, 0, none⟩), .pointer (some ⟨w.heap.size + 1 + 1, 0, none⟩)]) ∧
      w' = ((w.alloc (.cells #[.string s] 9)).alloc (.cells #[.string ⟨#[32]⟩] 9)).alloc (.cells #[.int .i64 0] 3) := by
  have HS : Hid (∀ w : World, _) := splitSeq_any s
  go_enter Tryd.func40, Tryd.ntmps40
  go_wp2_with (go_at_call 47; refine (HS.out _).mono ?_; rintro e w1 ⟨rfl, rfl⟩)
  go_ret
  exact ⟨rfl, rfl⟩

/-- what read's own variables hold between two rounds -/
structure Rd (kn : Int) (w : World) (f r : Int) (x : Int) (W : World) : Prop where
  known : W.heap[w.heap.size]? = some (.cells #[.int .i64 kn] 3 (0, 0))
  res : W.heap[w.heap.size + 1]? = some (.cells #[.int .i64 r] 3 (0, 0))
  err : W.heap[w.heap.size + 1 + 1]? = some (.cells #[.int .i64 x] 23 (0, 0))
  flags : W.heap[w.heap.size + 1 + 1 + 1]? = some (.cells #[.int .i64 f] 3 (0, 0))
  bel : Below w.heap.size w W

theorem Rd.off {kn : Int} {w : World} {f r x : Int} {A B : World} (h : Rd kn w f r x A) (ho : Off (w.heap.size + 7) (w.heap.size + 4) A B) : Rd kn w f r x B :=
  ⟨(ho.block _ (by omega) (by omega)).trans h.known, (ho.block _ (by omega) (by omega)).trans h.res, (ho.block _ (by omega) (by omega)).trans h.err, (ho.block _ (by omega) (by omega)).trans h.flags, h.bel.trans (ho.below (by omega) (by omega))⟩

theorem WordsIn.same {w w' : World} (h : WordsIn w) (e : w'.heap = w.heap) : WordsIn w' :=
  ⟨by rw [e]; exact h.1, fun i t ht => by
    have := h.2 i t ht
    unfold World.cell? at this ⊢
    rw [e]; exact this⟩

/-- the world where the loop begins -/
def seven (w : World) (s : ByteArray) (kn : Int) : World := (((((((w.alloc (.cells #[.int .i64 kn] 3)).alloc (.cells #[.int .i64 0] 3)).alloc (.cells #[.int .i64 0] 23)).alloc (.cells #[.int .i64 0] 3)).alloc (.cells #[.string s] 9)).alloc (.cells #[.string ⟨#[32]⟩] 9)).alloc (.cells #[.int .i64 0] 3))
theorem seven_size (w : World) (s : ByteArray) (kn : Int) : (seven w s kn).heap.size = w.heap.size + 7 := by simp [seven]
theorem seven_below (w : World) (s : ByteArray) (kn : Int) : Below w.heap.size w (seven w s kn) :=
  (((((((Below.refl _ w).alloc (Nat.le_refl _) _).alloc (by simp) _).alloc (by simp; omega) _).alloc (by simp; omega) _).alloc (by simp; omega) _).alloc (by simp; omega) _).alloc (by simp; omega) _
theorem seven_at (w : World) (s : ByteArray) (kn : Int) : Rd kn w 0 0 0 (seven w s kn) ∧ Boxes (w.heap.size + 5) (w.heap.size + 4) (w.heap.size + 6) (seven w s kn) s := by
  have step : ∀ (v : World) (o o' : Obj) (k : Nat), v.heap[k]? = some o → (v.alloc o').heap[k]? = some o := fun v o o' k hk => (Below.heap_alloc v o' k (Array.getElem?_eq_some_iff.1 hk).1).trans hk
  have new : ∀ (v : World) (o : Obj) (k : Nat), v.heap.size = k → (v.alloc o).heap[k]? = some o := fun v o k hk => by subst hk; exact World.alloc_heap_new v o
  unfold seven
  refine ⟨⟨?_, ?_, ?_, ?_, seven_below w s kn⟩, ?_, ?_, ?_⟩
  · exact step _ _ _ _ (step _ _ _ _ (step _ _ _ _ (step _ _ _ _ (step _ _ _ _ (step _ _ _ _ (new _ _ _ rfl))))))
  · exact step _ _ _ _ (step _ _ _ _ (step _ _ _ _ (step _ _ _ _ (step _ _ _ _ (new _ _ _ (by simp))))))
  · exact step _ _ _ _ (step _ _ _ _ (step _ _ _ _ (step _ _ _ _ (new _ _ _ (by simp)))))
  · exact step _ _ _ _ (step _ _ _ _ (step _ _ _ _ (new _ _ _ (by simp))))
  · exact step _ _ _ _ (new _ _ _ (by simp))
  · exact step _ _ _ _ (step _ _ _ _ (new _ _ _ (by simp)))
  · exact new _ _ _ (by simp)

theorem stepT_none {kn f : Int} {t : List UInt8} (h : bits .and .i64 (flagN t) kn ≤ f) : stepT kn f t = none := by rw [stepT, if_pos h]
theorem stepT_some {kn f : Int} {t : List UInt8} (h : ¬ bits .and .i64 (flagN t) kn ≤ f) : stepT kn f t = some (bits .or .i64 f (bits .and .i64 (flagN t) kn)) := by rw [stepT, if_neg h]

theorem rd_bad {kn f : Int} {w W : World} {x : List UInt8} {pre : List (List UInt8)} (hf : runT kn pre 0 = some f) (rd : Rd kn w f 0 0 W) (hle : bits .and .i64 (flagN x) kn ≤ f) :
    KeepsOthers W ((W.setCell ⟨w.heap.size + 1, 0, none⟩ (.int .i64 0)).setCell ⟨w.heap.size + 1 + 1, 0, none⟩ (.int .i64 4)).drew ∧
      (Hid (runT kn (pre ++ [x]) 0 = none) ∧ ∃ f, Rd kn w f 0 4 ((W.setCell ⟨w.heap.size + 1, 0, none⟩ (.int .i64 0)).setCell ⟨w.heap.size + 1 + 1, 0, none⟩ (.int .i64 4)).drew) := by
  refine ⟨((KeepsOthers.setCell _ _ _).trans (KeepsOthers.setCell _ _ _)).trans (KeepsOthers.drew _), ?_, f, ?_, ?_, ?_, ?_, ?_⟩
  · rw [Hid, runT_app, hf]
    show (stepT kn f x).bind _ = none
    rw [stepT_none hle]; rfl
  · exact (Below.heap_setCell _ _ _ _ (by simp; omega)).trans ((Below.heap_setCell _ _ _ _ (by simp)).trans rd.known)
  · exact (Below.heap_setCell _ _ _ _ (by simp)).trans (box_set rd.res)
  · exact box_set ((Below.heap_setCell _ _ _ _ (by simp)).trans rd.err)
  · exact (Below.heap_setCell _ _ _ _ (by simp)).trans ((Below.heap_setCell _ _ _ _ (by simp; omega)).trans rd.flags)
  · exact ((rd.bel.setCell (p := ⟨w.heap.size + 1, 0, none⟩) (by simp) _).setCell (p := ⟨w.heap.size + 1 + 1, 0, none⟩) (by simp; omega) _).drew

theorem rd_good {kn f : Int} {w W : World} {x : List UInt8} {pre : List (List UInt8)} (hf : runT kn pre 0 = some f) (rd : Rd kn w f 0 0 W) (hlt : f < bits .and .i64 (flagN x) kn) :
    KeepsOthers W (W.setCell ⟨w.heap.size + 1 + 1 + 1, 0, none⟩ (.int .i64 (bits .or .i64 f (bits .and .i64 (flagN x) kn)))).drew ∧
      (∀ k ∈ [w.heap.size + 5, w.heap.size + 4, w.heap.size + 6], (W.setCell ⟨w.heap.size + 1 + 1 + 1, 0, none⟩ (.int .i64 (bits .or .i64 f (bits .and .i64 (flagN x) kn)))).drew.heap[k]? = W.heap[k]?) ∧
      ∃ f', Hid (runT kn (pre ++ [x]) 0 = some f') ∧ Rd kn w f' 0 0 (W.setCell ⟨w.heap.size + 1 + 1 + 1, 0, none⟩ (.int .i64 (bits .or .i64 f (bits .and .i64 (flagN x) kn)))).drew := by
  refine ⟨(KeepsOthers.setCell _ _ _).trans (KeepsOthers.drew _), ?_, bits .or .i64 f (bits .and .i64 (flagN x) kn), ?_, ?_, ?_, ?_, ?_, ?_⟩
  · intro k hk
    exact Below.heap_setCell _ _ _ _ (by simp at hk; show k ≠ w.heap.size + 1 + 1 + 1; omega)
  · rw [Hid, runT_app, hf]
    show (stepT kn f x).bind _ = _
    rw [stepT_some (by omega)]; rfl
  · exact (Below.heap_setCell _ _ _ _ (by simp; omega)).trans rd.known
  · exact (Below.heap_setCell _ _ _ _ (by simp)).trans rd.res
  · exact (Below.heap_setCell _ _ _ _ (by simp)).trans rd.err
  · exact box_set rd.flags
  · exact (rd.bel.setCell (p := ⟨w.heap.size + 1 + 1 + 1, 0, none⟩) (by simp; omega) _).drew

set_option maxRecDepth 100000 in
set_option maxHeartbeats 1000000 in
theorem read_any (s : ByteArray) (hs : s.size ≤ 9223372036854775800) (kn : Int) (hne : s.toList.isEmpty = false) (w : World) (h : WordsIn w) :
    CallsIn Fence.wide 9 Tryd.prog 36 #[.string s, .int .i64 kn] w fun e w' => e = .returned (.tuple #[.int .i64 ((runT kn (toks s.data.toList) 0).getD 0), .int .i64 (if (runT kn (toks s.data.toList) 0).isSome then 0 else 4)]) ∧ Below w.heap.size w w' := by
  have HG : Hid (∀ f, runT kn (toks s.data.toList) 0 = some f → (runT kn (toks s.data.toList) 0).getD 0 = f ∧ (if (runT kn (toks s.data.toList) 0).isSome then (0 : Int) else 4) = 0) := fun f e => by rw [e]; exact ⟨rfl, rfl⟩
  have HB : Hid (runT kn (toks s.data.toList) 0 = none → (runT kn (toks s.data.toList) 0).getD 0 = 0 ∧ (if (runT kn (toks s.data.toList) 0).isSome then (0 : Int) else 4) = 4) := fun e => by rw [e]; exact ⟨rfl, rfl⟩
  generalize (runT kn (toks s.data.toList) 0).getD 0 = G at HG HB ⊢
  generalize (if (runT kn (toks s.data.toList) 0).isSome then (0 : Int) else 4) = X at HG HB ⊢
  have HS : Hid (∀ w : World, _) := SplitSeq_any s
  have HF : Hid (∀ (t : List UInt8) (w1 : World), Below w.heap.size w w1 → Calls Tryd.prog 41 #[.string ⟨t.toArray⟩] w1 fun e w' => e = .returned (.int .i64 (flagN t)) ∧ w' = w1) := fun t w1 hb => flagOf_any ⟨t.toArray⟩ w1 (h.keep hb)
  refine callsIn_of_wp_marks Tryd.func36 rfl trivial ?_ rfl
  simp only [Tryd.ntmps36, List.size_toArray, List.length_cons, List.length_nil, Nat.reduceAdd, Nat.reduceSub, Array.replicate_succ, Array.replicate_zero, List.push_toArray, List.append_toArray, List.nil_append, List.cons_append]
  gi_wp2
  refine ⟨trivial, ?_⟩
  refine (callsIn_wide.2 (HS.out _)).mono ?_
  rintro e w' ⟨rfl, rfl⟩
  gi_wp2
  obtain ⟨rd0, bx0⟩ := seven_at w s kn
  have hsz := seven_size w s kn
  refine range_cell (w := seven w s kn) (gf := 50) (lb := #[.pointer (some ⟨w.heap.size + 5, 0, none⟩), .pointer (some ⟨w.heap.size + 4, 0, none⟩), .pointer (some ⟨w.heap.size + 6, 0, none⟩)]) rfl (enters_of Tryd.func50 (by kernel_rfl) rfl)
    (split_in 8 s hs (seven w s kn) (w.heap.size + 5) (w.heap.size + 4) (w.heap.size + 6) (by omega) (by omega) (by rw [hsz]; omega) (by rw [hsz]; omega) (by rw [hsz]; omega) bx0) (fun _ => rfl) (by rw [hsz]; omega)
    (fun k hk => by rw [hsz]; simp at hk; omega)
    (fun pre W => ∃ f, Hid (runT kn pre 0 = some f) ∧ Rd kn w f 0 0 W) (fun pre W => Hid (runT kn pre 0 = none) ∧ ∃ f, Rd kn w f 0 4 W)
    (fun pre A B ⟨f, hf, hr⟩ ho => ⟨f, hf, hr.off (by rw [hsz] at ho; exact ho)⟩) (fun pre A B ⟨hf, f, hr⟩ ho => ⟨hf, f, hr.off (by rw [hsz] at ho; exact ho)⟩)
    ⟨0, rfl, rd0⟩
    (fun x => { tmps := #[.string s, .int .i64 kn, undef, .pointer (some ⟨w.heap.size, 0, none⟩), .pointer (some ⟨w.heap.size + 1, 0, none⟩), .pointer (some ⟨w.heap.size + 1 + 1, 0, none⟩), .pointer (some ⟨w.heap.size + 1 + 1 + 1, 0, none⟩), .string ⟨x.toArray⟩, undef, .string s, .bool false, .string s,
        .func (.func 50) #[] #[.pointer (some ⟨w.heap.size + 1 + 1 + 1 + 1 + 1, 0, none⟩), .pointer (some ⟨w.heap.size + 1 + 1 + 1 + 1, 0, none⟩), .pointer (some ⟨w.heap.size + 1 + 1 + 1 + 1 + 1 + 1, 0, none⟩)], .string ⟨x.toArray⟩, undef, undef, undef, undef, undef, undef, undef, undef, undef, undef, undef], defers := [] }) ?assign ?body ?done ?stop
  case assign =>
    intro l x W K hK
    gi_wp2
    exact hK
  case body =>
    rintro l pre x W ⟨f, hf, rd⟩
    have hWd : WordsIn W := h.keep rd.bel
    have c0 := box_cell rd.known
    have c1 := box_cell rd.res
    have c2 := box_cell rd.err
    have c3 := box_cell rd.flags
    have z1 := box_free rd.res
    have z2 := box_free rd.err
    have z3 := box_free rd.flags
    have HX : Hid (Calls Tryd.prog 41 #[.string ⟨x.toArray⟩] W.drew fun e w' => e = .returned (.int .i64 (flagN x)) ∧ w' = W.drew) := flagOf_any ⟨x.toArray⟩ W.drew (hWd.same rfl)
    clear HF HS
    have hmx : Tryd.prog.follows .mixedOrders = true := by kernel_rfl
    have hfn : Fence.wide.fn 41 := trivial
    gi_wp2
    gi_region_with_o (gi_at_call 41; refine (CallsIn.inRound l (callsIn_wide.2 HX.out)).mono ?_; rintro e w' ⟨rfl, rfl⟩)
    all_goals gi_wp2
    all_goals first | exact rd_bad hf.out rd (by assumption) | exact rd_good hf.out rd (by assumption)
  case done =>
    rintro D ys W hD rfl ⟨f, hf, rd⟩ hK
    have c1 := box_cell rd.res
    have c2 := box_cell rd.err
    have c3 := box_cell rd.flags
    have z1 := box_free rd.res
    have z2 := box_free rd.err
    clear HF HS HB h
    gi_wp2
    obtain ⟨eG, eX⟩ := HG.out f hf.out
    rw [hsz] at hD
    have hK' := ((KeepsOthers.setCell W ⟨w.heap.size + 1, 0, none⟩ (.int .i64 f)).trans (KeepsOthers.setCell _ ⟨w.heap.size + 1 + 1, 0, none⟩ (.int .i64 0))).same D _ hK rfl
    have d1 := box_cell ((World.putObj_heap_other (o := .deferred none) (r := D) (by omega)).trans ((Below.heap_setCell (W.setCell ⟨w.heap.size + 1, 0, none⟩ (.int .i64 f)) ⟨w.heap.size + 1 + 1, 0, none⟩ (.int .i64 0) _ (by simp)).trans (box_set rd.res (u := .int .i64 f))))
    have d2 := box_cell ((World.putObj_heap_other (o := .deferred none) (r := D) (by omega)).trans (box_set (u := .int .i64 0) ((Below.heap_setCell W ⟨w.heap.size + 1, 0, none⟩ (.int .i64 f) _ (by simp)).trans rd.err)))
    refine ⟨by simp, .inl ⟨_, _, rfl, run_takeDeferred hK', ?_⟩⟩
    refine ⟨.tuple #[.int .i64 f, .int .i64 0], ?_, by rw [eG, eX], ?_⟩
    · simp [results, Tryd.f36, go_sem, d1, d2]
    · exact ((rd.bel.setCell (p := ⟨w.heap.size + 1, 0, none⟩) (by simp) _).setCell (p := ⟨w.heap.size + 1 + 1, 0, none⟩) (by simp; omega) _).trans (belowK_b (w := w) (Nat.le_refl _) _ D _ _ (by omega) hK' rfl rfl)
  case stop =>
    rintro D pre W hD hpre ⟨hf, f, rd⟩ hK
    have c1 := box_cell rd.res
    have c2 := box_cell rd.err
    have hn := runT_pre hpre hf.out
    clear HF HS HG h
    gi_wp2
    obtain ⟨eG, eX⟩ := HB.out hn
    rw [hsz] at hD
    have d1 := box_cell ((World.putObj_heap_other (o := .deferred none) (r := D) (by omega)).trans rd.res)
    have d2 := box_cell ((World.putObj_heap_other (o := .deferred none) (r := D) (by omega)).trans rd.err)
    refine ⟨by simp, .inl ⟨_, _, rfl, run_takeDeferred hK, ?_⟩⟩
    refine ⟨.tuple #[.int .i64 0, .int .i64 4], ?_, by rw [eG, eX], ?_⟩
    · simp [results, Tryd.f36, go_sem, d1, d2]
    · exact rd.bel.trans (belowK_b (w := w) (Nat.le_refl _) _ D _ _ (by omega) hK rfl rfl)
end Go.Proofs.YtdkjapfnilbomaaDoor
