/- Walks of the small functions of package types that a cursor leans on: each returns what the plain function on bytes says; what was there before stays. -/
import Derived.Test.YtpbnjmncjecobaaGreatRefLists
import Derived.Test.YtpbnjmncjecobaaGreatTypesPure
import Derived.Laws.IdiomStrings
import Derived.ArgAppend
import Derived.Deep.RegionWith
import Derived.Deep.QuietTactic
import Derived.BigQuiet
namespace Go.Proofs.YtpbnjmncjecobaaGreat
open Go.RowKit

theorem Below.step {w w1 w2 : World} (h1 : Below w.heap.size w w1) (h2 : Below w1.heap.size w1 w2) : Below w.heap.size w w2 := h1.trans (h2.mono h1.size)

/-- while the brackets are laid: the row of bytes, the type's own block, what was there before -/
structure Brk (G k j : Nat) (s : ByteArray) (w wr : World) : Prop where
  own : ∃ Y, wr.ownsRow (w.heap.size + 1) 5 1 (.slice (some ⟨G, 0, none⟩) k k) k Y ∧ Y.take j = List.replicate j (.int .u8 91)
  c0 : wr.cell? ⟨w.heap.size, 0, none⟩ = some (.int .i64 k)
  c1 : wr.cell? ⟨w.heap.size, 1, none⟩ = some (.string s)
  bel : Below w.heap.size w wr





theorem semi_none (l : List UInt8) (h : (59 : UInt8) ∉ l) : semi l = none := by
  induction l with
  | nil => rfl
  | cons c l ih =>
    have hc : c ≠ 59 := fun e => h (by simp [e])
    simp [semi, hc, ih (fun m => h (List.mem_cons_of_mem _ m))]

theorem drop_cons (s : ByteArray) (i : Nat) (h : i < s.size) : s.data.toList.drop i = s[i] :: s.data.toList.drop (i + 1) := by
  rw [List.drop_eq_getElem_cons (by simpa using h)]
  congr 1
theorem drop_end (s : ByteArray) (i : Nat) (h : s.size ≤ i) : s.data.toList.drop i = [] := List.drop_of_length_le (by simpa using h)

/-- while a type is read: its own block (dimensions, name), the answer's block, what was there before -/
structure Rd (w : World) (x : Int) (nm : ByteArray) (wr : World) : Prop where
  t : wr.heap[w.heap.size + 1]? = some (.cells #[.int .i64 x, .string nm] 71 (0, 0))
  r : wr.heap[w.heap.size]? = some (.cells #[.int .i64 0, .string ⟨#[]⟩] 71 (0, 0))
  bel : Below w.heap.size w wr

theorem read_nil {l : List UInt8} {j : Nat} (hb : bracks l = (j, [])) : readT l = none := by unfold readT; rw [hb]
theorem read_int {l r : List UInt8} {j : Nat} (hb : bracks l = (j, 73 :: r)) : readT l = some ((j, []), r) := by unfold readT; rw [hb]; rfl
theorem read_cls {l r x y : List UInt8} {j : Nat} (hb : bracks l = (j, 76 :: r)) (hs : semi r = some (x, y)) (hv : validL x = true) : readT l = some ((j, x), y) := by
  unfold readT; rw [hb]; simp [hs, hv]
theorem read_bad {l r x y : List UInt8} {j : Nat} (hb : bracks l = (j, 76 :: r)) (hs : semi r = some (x, y)) (hv : validL x = false) : readT l = none := by
  unfold readT; rw [hb]; simp [hs, hv]
theorem read_open {l r : List UInt8} {j : Nat} (hb : bracks l = (j, 76 :: r)) (hs : semi r = none) : readT l = none := by
  unfold readT; rw [hb]; simp [hs]
theorem read_other {l r : List UInt8} {c : UInt8} {j : Nat} (hb : bracks l = (j, c :: r)) (h1 : c ≠ 73) (h2 : c ≠ 76) : readT l = none := by
  unfold readT; rw [hb]; simp [h1, h2]

theorem bracks_step (s : ByteArray) (i : Nat) (h : i < s.size) (e : s[i] = 91) : bracks (s.data.toList.drop i) = ((bracks (s.data.toList.drop (i + 1))).1 + 1, (bracks (s.data.toList.drop (i + 1))).2) := by
  rw [drop_cons s i h, bracks, if_pos e]
theorem bracks_stop (s : ByteArray) (i : Nat) (h : i < s.size) (e : s[i] ≠ 91) : bracks (s.data.toList.drop i) = (0, s.data.toList.drop i) := by
  rw [drop_cons s i h, bracks, if_neg e]





theorem own_below {w w' : World} {B base : Nat} {e : TypeId} {size : Nat} {v : Value} {n : Nat} {xs : List Value} (h : w.ownsRow base e size v n xs) (hb : Below B w w') (hB : w.heap.size ≤ B) : w'.ownsRow base e size v n xs := by
  refine ⟨h.1, ?_⟩
  rcases h.2 with hn | ⟨g, cap, cur, rfl, hb1, hgg, rest⟩
  · exact .inl hn
  · refine .inr ⟨g, cap, cur, rfl, hb1, ?_, rest⟩
    rw [hb.block g (Nat.lt_of_lt_of_le (Array.getElem?_eq_some_iff.1 hgg).1 hB)]
    exact hgg

theorem grownBy_trans {w w1 w2 : World} {r r' : Option Nat} (h1 : w.grownBy w1 r) (h2 : w1.grownBy w2 r') (hr : ∀ b, r' = some b → r = some b ∨ w.heap.size ≤ b) : w.grownBy w2 r :=
  ⟨h2.os.trans h1.os, h2.tape.trans h1.tape, h2.output.trans h1.output, Nat.le_trans h1.size h2.size, fun k hk hne => by
    have a := h1.block k hk hne
    have b := h2.block k (Nat.lt_of_lt_of_le hk h1.size) (fun e => by
      rcases hr k e.symm with q | q
      · exact hne q.symm
      · omega)
    exact b.trans a⟩

theorem grownBy_below {w w1 : World} {r : Option Nat} (h : Below w.heap.size w w1) : w.grownBy w1 r :=
  ⟨h.os, h.tape, h.output, h.size, fun k hk _ => h.block k hk⟩



/-- a region that draws its order, walked once in the text's order, over worlds of one kind that all its operations keep -/
theorem wp_region_class {P : Program} {C : World → Prop} {id : Nat} {Q : Exit → Act → World → Prop} {a : Act} {w : World} {l : List Oper} (hm : P.follows .mixedOrders = true) (hB : Region.lexB .any l.toArray = true) (hC : C { w with drawn := w.drawn + 1 })
    (h : wpQuiet P l.toArray C (fun a' => ∀ w', C w' → Q .normal a' w') l a) : (Code.region id l.toArray true).wp P Q a w :=
  wp_region_quiet (C := C) hm hB hC (by simpa using h)

/-- a cursor in memory: its text and its place -/
def Cur (w : World) (b : Nat) (s : ByteArray) (pl : Nat) : Prop := w.heap[b]? = some (.cells #[.string s, .int .i64 pl] 230 (0, 0))

theorem Cur.cells {w : World} {b : Nat} {s : ByteArray} {pl : Nat} (h : Cur w b s pl) :
    w.cell? ⟨b, 0, none⟩ = some (.string s) ∧ w.cell? ⟨b, 1, none⟩ = some (.int .i64 pl) ∧ w.frozen? ⟨b, 1, none⟩ = false ∧ b < w.heap.size := by
  unfold Cur at h
  refine ⟨?_, ?_, ?_, (Array.getElem?_eq_some_iff.1 h).1⟩
  · rw [cell_of_row _ b 0 _ 230 (0, 0) h]; rfl
  · rw [cell_of_row _ b 1 _ 230 (0, 0) h]; rfl
  · simp [World.frozen?, h]

theorem Cur.keep {w w' : World} {b : Nat} {s : ByteArray} {pl : Nat} (h : Cur w b s pl) (hb : Below w.heap.size w w') : Cur w' b s pl := by
  unfold Cur at *
  rw [hb.block b (Array.getElem?_eq_some_iff.1 h).1]; exact h

theorem grownBy_set (w : World) (b o : Nat) (v : Value) : w.grownBy (w.setCell ⟨b, o, none⟩ v) (some b) :=
  ⟨rfl, rfl, rfl, by simp [World.setCell], fun k _ hk => heap_setCell_other w ⟨b, o, none⟩ k v (fun q => hk (by simp [q]))⟩

theorem Cur.move {w : World} {b : Nat} {s : ByteArray} {pl : Nat} (h : Cur w b s pl) (q : Nat) : Cur (w.setCell ⟨b, 1, none⟩ (.int .i64 q)) b s q := by
  unfold Cur at *
  rw [heap_setCell_same w b 1 _ 230 _ h]; rfl

set_option maxRecDepth 100000 in
set_option maxHeartbeats 400000 in
theorem newCursor_any (s : ByteArray) (w : World) :
    Calls Tryz.prog 204 #[.string s] w fun e w' => e = .returned (.pointer (some ⟨w.heap.size, 0, none⟩)) ∧ w' = w.alloc (.cells #[.string s, .int .i64 0] 230) := by
  go_enter Tryz.func204, Tryz.ntmps204
  go_wp2
  go_ret
  exact ⟨rfl, rfl⟩

set_option maxRecDepth 100000 in
set_option maxHeartbeats 400000 in
theorem atEnd_any (b : Nat) (s : ByteArray) (pl : Nat) (w : World) (h : Cur w b s pl) :
    Calls Tryz.prog 206 #[.pointer (some ⟨b, 0, none⟩)] w fun e w' => e = .returned (.bool (decide (pl = s.size))) ∧ Below w.heap.size w w' := by
  obtain ⟨c0, c1, c2, c3⟩ := h.cells
  clear h
  go_enter Tryz.func206, Tryz.ntmps206
  go_wp2
  go_region
  all_goals (go_wp2; go_ret; exact ⟨ret_bool (by rw [Bool.eq_iff_iff]; simp; omega), (Below.refl _ _).drew⟩)

set_option maxRecDepth 100000 in
set_option maxHeartbeats 400000 in
theorem from_any (s : ByteArray) (k : Nat) (hk : k ≤ s.size) (w : World) :
    Calls Tryz.prog 228 #[.agg #[.string s], .int .i64 k] w fun e w' => e = .returned (.string (s.extract k s.size)) ∧ Below w.heap.size w w' := by
  go_enter Tryz.func228, Tryz.ntmps228
  go_wp2
  go_ret
  exact ⟨rfl, (Below.refl _ _).alloc (Nat.le_refl _) _⟩

set_option maxRecDepth 100000 in
set_option maxHeartbeats 400000 in
theorem isDeep_any (d : Int) (n : ByteArray) (w : World) :
    Calls Tryz.prog 149 #[.agg #[.int .i64 d, .string n]] w fun e w' => e = .returned (.bool (decide (255 < d))) ∧ Below w.heap.size w w' := by
  go_enter Tryz.func149, Tryz.ntmps149
  go_wp2
  go_ret
  exact ⟨ret_bool rfl, (Below.refl _ _).alloc (Nat.le_refl _) _⟩

/-- the byte m stands at the place pl -/
def nxt (s : ByteArray) (pl : Nat) (m : UInt8) : Bool := (s.data.toList.drop pl).head? == some m

def hd (s : ByteArray) (m : UInt8) : Bool := s.data.toList.head? == some m

theorem hd_short {s : ByteArray} {m : UInt8} (h : s.size = 0) : hd s m = false := by
  have : s.data.toList = [] := List.length_eq_zero_iff.1 (by simpa using h)
  simp [hd, this]

theorem hd_take (s : ByteArray) (m : UInt8) (h : 1 ≤ s.size) : ((s.extract 0 1).toList == [m]) = hd s m := by
  have hl : s.data.toList.length = s.size := by simp
  rw [Lib.toList_data, take_bytes]
  cases e : s.data.toList with
  | nil => rw [e] at hl; simp at hl; omega
  | cons c l =>
    simp only [hd, e, List.take_succ_cons, List.take_zero, List.head?_cons]
    rw [Bool.eq_iff_iff]
    simp

set_option maxRecDepth 100000 in
set_option maxHeartbeats 400000 in
theorem litePrefix_any (s : ByteArray) (m : UInt8) (w : World) :
    Calls Tryz.prog 239 #[.string s, .string ⟨#[m]⟩] w fun e w' => e = .returned (.bool (hd s m)) ∧ w' = w := by
  by_cases h : 1 ≤ s.size
  · have H : Hid _ := hd_take s m h
    go_enter Tryz.func239, Tryz.ntmps239
    go_wp2
    go_ret
    exact ⟨ret_bool H.out, rfl⟩
  · have H : Hid _ := hd_short (s := s) (m := m) (by omega)
    go_enter Tryz.func239, Tryz.ntmps239
    go_wp2
    go_ret
    exact ⟨ret_bool H.out.symm, rfl⟩

set_option maxRecDepth 100000 in
set_option maxHeartbeats 400000 in
theorem hasPrefix_any (s : ByteArray) (m : UInt8) (w : World) :
    Calls Tryz.prog 227 #[.string s, .string ⟨#[m]⟩] w fun e w' => e = .returned (.bool (hd s m)) ∧ w' = w := by
  have HB : Hid (∀ w, _) := litePrefix_any s m
  generalize hd s m = b at *
  go_enter Tryz.func227, Tryz.ntmps227
  go_wp2_with (go_at_call 239; refine ((HB.out) _).mono ?_; rintro e w' ⟨rfl, rfl⟩)
  go_ret
  exact ⟨rfl, rfl⟩

theorem hd_from (s : ByteArray) (pl : Nat) (m : UInt8) : hd (s.extract pl s.size) m = nxt s pl m := by
  unfold hd nxt
  rw [Lib.extract_to_end]

set_option maxRecDepth 100000 in
set_option maxHeartbeats 1000000 in
theorem skip_any (b : Nat) (s : ByteArray) (pl : Nat) (m : UInt8) (hpl : pl ≤ s.size) (hs : s.size ≤ 1000000) (W : World) (hc : Cur W b s pl) :
    Calls Tryz.prog 220 #[.pointer (some ⟨b, 0, none⟩), .string ⟨#[m]⟩] W fun e w' => e = .returned (.bool (nxt s pl m)) ∧ Cur w' b s (if nxt s pl m then pl + 1 else pl) ∧ W.grownBy w' (some b) := by
  have HF : Hid (∀ w, Hid (Below W.heap.size W w) → Calls Tryz.prog 228 #[.agg #[.string s], .int .i64 pl] w fun e w' => e = .returned (.string (s.extract pl s.size)) ∧ Hid (Below W.heap.size W w')) :=
    fun w h => (from_any s pl hpl w).mono fun e w' ⟨he, hb⟩ => ⟨he, h.out.trans (hb.mono h.out.size)⟩
  have HP : Hid (∀ w, Hid (Below W.heap.size W w) → Calls Tryz.prog 227 #[.string (s.extract pl s.size), .string ⟨#[m]⟩] w fun e w' => e = .returned (.bool (nxt s pl m)) ∧ Hid (Below W.heap.size W w')) :=
    fun w h => (hasPrefix_any (s.extract pl s.size) m w).mono fun e w' ⟨he, hb⟩ => ⟨by rw [he, hd_from], by rw [hb]; exact h⟩
  obtain ⟨σ, V, V1, V2⟩ : ∃ (σ : Type) (V : σ → World), Hid (∀ s, Hid (Below W.heap.size W (V s))) ∧ Hid (∀ w, Hid (Below W.heap.size W w) → ∃ s, w = V s) :=
    ⟨{w // Hid (Below W.heap.size W w)}, Subtype.val, fun s => s.2, fun w q => ⟨⟨w, q⟩, rfl⟩⟩
  have T0 : Hid (Below W.heap.size W W.drew) := (Below.refl _ _).drew
  have hne : Nonempty σ := (V2.out _ T0).elim fun s _ => ⟨s⟩
  have q0 : ∀ s', (V s').cell? ⟨b, 0, none⟩ = some (.string s) := fun s' => ((hc.keep (V1.out s').out).cells).1
  have q1 : ∀ s', (V s').cell? ⟨b, 1, none⟩ = some (.int .i64 pl) := fun s' => ((hc.keep (V1.out s').out).cells).2.1
  have q2 : ∀ s', (V s').frozen? ⟨b, 1, none⟩ = false := fun s' => ((hc.keep (V1.out s').out).cells).2.2.1
  have HC : Hid (Cur W b s pl) := hc
  clear hc
  generalize nxt s pl m = nb at *
  go_enter Tryz.func220, Tryz.ntmps220
  go_wp2
  refine wp_region_class (C := fun w' => ∃ s, w' = V s) (by kernel_rfl) (by kernel_rfl) (V2.out _ T0) ?_
  repeat (go_big_quiet_step (first
    | (go_at_call 228; exact (HF.out _ (V1.out _)).mono fun e w'' z => ⟨z.1, V2.out _ z.2⟩)
    | (go_at_call 227; exact (HP.out _ (V1.out _)).mono fun e w'' z => ⟨z.1, V2.out _ z.2⟩)))
  refine wpQuiet_nil ?_
  intro w9 hw9
  obtain ⟨s9, rfl⟩ := hw9
  cases nb with
  | false =>
    go_wp2
    go_ret
    exact ⟨rfl, HC.out.keep (V1.out s9).out, grownBy_below (V1.out s9).out⟩
  | true =>
    go_wp2
    go_ret
    exact ⟨rfl, (HC.out.keep (V1.out s9).out).move (pl + 1), grownBy_trans (grownBy_below (V1.out s9).out) (grownBy_set _ _ _ _) (fun _ h => .inl h)⟩

end Go.Proofs.YtpbnjmncjecobaaGreat
