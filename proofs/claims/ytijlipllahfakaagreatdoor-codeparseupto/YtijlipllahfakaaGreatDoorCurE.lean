/- The walk of the cursor's readDesc: the descriptor that stands at the cursor's place, its arguments in new memory; what was there before stays but the cursor's place. -/
import Derived.Test.YtijlipllahfakaaGreatDoorCurD
namespace Go.Proofs.YtijlipllahfakaaGreatDoor
open Go.RowKit

theorem suffix_drop {l a r : List UInt8} (h : l = a ++ r) : r = l.drop (l.length - r.length) := by
  have e : l.length - r.length = a.length := by rw [h, List.length_append]; omega
  rw [e, h, List.drop_left]

theorem args_drop {l : List UInt8} {q : Nat} {ts : List (Nat × List UInt8)} {r : List UInt8} (h : argsOf (l.drop q) = some (ts, r)) : r = l.drop (l.length - r.length) ∧ r.length ≤ l.length := by
  unfold argsOf at h
  split at h
  · rename_i r0 e
    have hw := (write_args h).1
    have e2 : l = (l.take q ++ (40 :: writeArgs ts ++ [41])) ++ r := by
      conv => lhs; rw [← List.take_append_drop q l, e, hw]
      simp
    refine ⟨suffix_drop e2, ?_⟩
    have := congrArg List.length e2
    simp only [List.length_append] at this
    omega
  · simp at h

/-- a descriptor at the beginning of a text, and what is behind it -/
def descOf (l : List UInt8) : Option ((List (Nat × List UInt8) × Option (Nat × List UInt8)) × List UInt8) := match argsOf l with
  | none => none
  | some (ts, q) => if q.head? = some 86 then some ((ts, none), q.drop 1) else match readT q with
    | none => none
    | some (t, r) => some ((ts, some t), r)

def retT (x : Option (Nat × List UInt8)) : Nat × List UInt8 := x.getD (0, [])
def voidB (x : Option (Nat × List UInt8)) : Bool := x.isNone

theorem own_base {w : World} {base base' : Nat} {e : TypeId} {size : Nat} {v : Value} {n : Nat} {xs : List Value} (h : w.ownsRow base e size v n xs) (hb : base' ≤ base) : w.ownsRow base' e size v n xs := by
  refine ⟨h.1, ?_⟩
  rcases h.2 with hn | ⟨g, cap, cur, rfl, hb1, rest⟩
  · exact .inl hn
  · exact .inr ⟨g, cap, cur, rfl, Nat.le_trans hb hb1, rest⟩

theorem own_slice {w : World} {base : Nat} {e : TypeId} {size : Nat} {v : Value} {n : Nat} {xs : List Value} (h : w.ownsRow base e size v n xs) : ∃ ao cap, v = .slice ao n cap := by
  rcases h.2 with ⟨rfl, rfl⟩ | ⟨g, cap, cur, rfl, _⟩
  · exact ⟨none, 0, rfl⟩
  · exact ⟨_, cap, rfl⟩

/-- the zero descriptor's cells -/
def zeroD : Array Value := #[.slice none 0 0, .bool false, .int .i64 0, .string ⟨#[]⟩]

/-- while a descriptor is read: the cursor, the arguments, the answer's block, what was there before -/
structure Dd (W : World) (b : Nat) (s : ByteArray) (q : Nat) (v : Value) (ts : List (Nat × List UInt8)) (wr : World) : Prop where
  cur : Cur wr b s q
  own : wr.ownsRow (W.heap.size + 1) 56 2 v ts.length (flatT (ts.map natT))
  r : wr.heap[W.heap.size]? = some (.cells zeroD 68 (0, 0))
  gr : W.grownBy wr (some b)
  hb : b < W.heap.size
  le : q ≤ s.size

theorem Dd.step {W wr w1 : World} {b : Nat} {s : ByteArray} {q q' : Nat} {v : Value} {ts : List (Nat × List UInt8)} (h : Dd W b s q v ts wr) (hc : Cur w1 b s q') (hg : wr.grownBy w1 (some b)) (hq : q' ≤ s.size) : Dd W b s q' v ts w1 :=
  ⟨hc, h.own.kept hg (.inr (fun e => by have := (h.own.lt b e).1; have := h.hb; omega)), by rw [hg.block _ (Array.getElem?_eq_some_iff.1 h.r).1 (by have := h.hb; simp; omega)]; exact h.r, grownBy_trans h.gr hg (fun _ e => .inl e), h.hb, hq⟩

theorem Dd.alloc {W wr : World} {b : Nat} {s : ByteArray} {q : Nat} {v : Value} {ts : List (Nat × List UInt8)} (h : Dd W b s q v ts wr) (o : Obj) : Dd W b s q v ts (wr.alloc o) :=
  h.step (h.cur.keep ((Below.refl _ _).alloc (Nat.le_refl _) _)) (grownBy_below ((Below.refl _ _).alloc (Nat.le_refl _) _)) h.le

theorem Dd.cells {W wr : World} {b : Nat} {s : ByteArray} {q : Nat} {v : Value} {ts : List (Nat × List UInt8)} (h : Dd W b s q v ts wr) :
    wr.cell? ⟨W.heap.size, 0, none⟩ = some (.slice none 0 0) ∧ wr.cell? ⟨W.heap.size, 1, none⟩ = some (.bool false) ∧ wr.cell? ⟨W.heap.size, 2, none⟩ = some (.int .i64 0) ∧ wr.cell? ⟨W.heap.size, 3, none⟩ = some (.string ⟨#[]⟩) ∧
    wr.frozen? ⟨W.heap.size, 0, none⟩ = false ∧ wr.frozen? ⟨W.heap.size, 1, none⟩ = false ∧ wr.frozen? ⟨W.heap.size, 2, none⟩ = false ∧ wr.frozen? ⟨W.heap.size, 3, none⟩ = false ∧ W.heap.size < wr.heap.size := by
  refine ⟨?_, ?_, ?_, ?_, ?_, ?_, ?_, ?_, (Array.getElem?_eq_some_iff.1 h.r).1⟩
  · rw [cell_of_row _ W.heap.size 0 _ 68 (0, 0) h.r]; rfl
  · rw [cell_of_row _ W.heap.size 1 _ 68 (0, 0) h.r]; rfl
  · rw [cell_of_row _ W.heap.size 2 _ 68 (0, 0) h.r]; rfl
  · rw [cell_of_row _ W.heap.size 3 _ 68 (0, 0) h.r]; rfl
  all_goals simp [World.frozen?, h.r]

def set4 (w : World) (n : Nat) (u0 u1 u2 u3 : Value) : World := (((w.setCell ⟨n, 0, none⟩ u0).setCell ⟨n, 1, none⟩ u1).setCell ⟨n, 2, none⟩ u2).setCell ⟨n, 3, none⟩ u3

theorem grownBy_set4 (w : World) (n : Nat) (u0 u1 u2 u3 : Value) : w.grownBy (set4 w n u0 u1 u2 u3) (some n) :=
  grownBy_trans (grownBy_trans (grownBy_trans (grownBy_set w n 0 u0) (grownBy_set _ n 1 u1) (fun _ e => .inl e)) (grownBy_set _ n 2 u2) (fun _ e => .inl e)) (grownBy_set _ n 3 u3) (fun _ e => .inl e)

theorem Dd.done {W wr : World} {b : Nat} {s : ByteArray} {q : Nat} {v : Value} {ts : List (Nat × List UInt8)} (h : Dd W b s q v ts wr) (u0 u1 u2 u3 : Value) :
    Cur (set4 wr W.heap.size u0 u1 u2 u3) b s q ∧ (set4 wr W.heap.size u0 u1 u2 u3).ownsRow W.heap.size 56 2 v ts.length (flatT (ts.map natT)) ∧ W.grownBy (set4 wr W.heap.size u0 u1 u2 u3) (some b) := by
  have hb := h.hb
  have hg := grownBy_set4 wr W.heap.size u0 u1 u2 u3
  refine ⟨?_, own_base (h.own.kept hg (.inr (fun e => by have := (h.own.lt _ e).1; omega))) (Nat.le_succ _), grownBy_trans h.gr hg (fun k e => by simp at e; right; omega)⟩
  have hc := h.cur
  unfold Cur at *
  rw [hg.block b (Array.getElem?_eq_some_iff.1 hc).1 (by simp; omega)]
  exact hc

/-- what readDesc answers -/
def DescPost (s : ByteArray) (pl b : Nat) (W : World) (e : Ending) (w' : World) : Prop := match descOf (s.data.toList.drop pl) with
  | some ((ts, x), r) => ∃ v, e = .returned (.tuple #[.agg #[v, .bool (voidB x), .int .i64 (retT x).1, .string ⟨(retT x).2.toArray⟩], .bool true]) ∧ w'.ownsRow W.heap.size 56 2 v ts.length (flatT (ts.map natT)) ∧ Cur w' b s (s.size - r.length)
  | none => e = .returned (.tuple #[.agg #[.slice none 0 0, .bool false, .int .i64 0, .string ⟨#[]⟩], .bool false]) ∧ ∃ q, q ≤ s.size ∧ Cur w' b s q

theorem dpost_none {s : ByteArray} {pl b q : Nat} {W w' : World} (h : descOf (s.data.toList.drop pl) = none) (hq : q ≤ s.size) (hc : Cur w' b s q) : DescPost s pl b W (.returned (.tuple #[.agg #[.slice none 0 0, .bool false, .int .i64 0, .string ⟨#[]⟩], .bool false])) w' := by
  unfold DescPost; rw [h]; exact ⟨rfl, q, hq, hc⟩
theorem dpost_some {s : ByteArray} {pl b q : Nat} {W w' : World} {ts : List (Nat × List UInt8)} {x : Option (Nat × List UInt8)} {r : List UInt8} {v : Value} (h : descOf (s.data.toList.drop pl) = some ((ts, x), r)) (hp : q = s.size - r.length)
    (ho : w'.ownsRow W.heap.size 56 2 v ts.length (flatT (ts.map natT))) (hc : Cur w' b s q) : DescPost s pl b W (.returned (.tuple #[.agg #[v, .bool (voidB x), .int .i64 (retT x).1, .string ⟨(retT x).2.toArray⟩], .bool true])) w' := by
  unfold DescPost; rw [h]; rw [hp] at hc; exact ⟨v, rfl, ho, hc⟩

set_option maxRecDepth 100000 in
set_option maxHeartbeats 4000000 in
theorem readDesc_any (b : Nat) (s : ByteArray) (pl : Nat) (hpl : pl ≤ s.size) (hs : s.size ≤ 1000000) (W : World) (hc : Cur W b s pl) :
    Calls Tryz.prog 65 #[.pointer (some ⟨b, 0, none⟩)] W fun e w' => DescPost s pl b W e w' ∧ W.grownBy w' (some b) := by
  have hsz : s.data.toList.length = s.size := by simp
  have HS : Hid (∀ (m : UInt8) (q : Nat) (v : Value) (ts : List (Nat × List UInt8)) (w : World), Hid (Dd W b s q v ts w) → Calls Tryz.prog 81 #[.pointer (some ⟨b, 0, none⟩), .string ⟨#[m]⟩] w fun e w' => e = .returned (.bool (nxt s q m)) ∧ Hid (Dd W b s (if nxt s q m then q + 1 else q) v ts w')) :=
    fun m q v ts w h => (skip_any b s q m h.out.le hs w h.out.cur).mono fun e w' ⟨he, hc, hg⟩ => ⟨he, h.out.step hc hg (by
      have := h.out.le
      split
      · rename_i e; have := nxt_true e; omega
      · exact this)⟩
  have HT : ∀ (q : Nat) (v : Value) (ts : List (Nat × List UInt8)) (w : World), Hid (Dd W b s q v ts w) → Calls Tryz.prog 78 #[.pointer (some ⟨b, 0, none⟩)] w fun e w' => TypePost s q b e w' ∧ w.grownBy w' (some b) :=
    fun q v ts w h => readType_any b s q h.out.le hs w h.out.cur
  have H0 : Dd W b s pl (.slice none 0 0) [] (W.alloc (.cells zeroD 68)) := ⟨hc.keep ((Below.refl _ _).alloc (Nat.le_refl _) _), World.ownsRow_nil _ _ _ _, heap_alloc_new W _, grownBy_below ((Below.refl _ _).alloc (Nat.le_refl _) _), hc.cells.2.2.2, hpl⟩
  have HAR := readArgs_any b s pl hpl hs _ H0.cur
  unfold ArgPost at HAR
  cases ha : argsOf (s.data.toList.drop pl) with
  | none =>
    have HP : Hid (descOf (s.data.toList.drop pl) = none) := by rw [Hid, descOf, ha]
    rw [ha] at HAR
    have HA : Hid (Calls Tryz.prog 80 #[.pointer (some ⟨b, 0, none⟩)] (W.alloc (.cells #[.slice none 0 0, .bool false, .int .i64 0, .string ⟨#[]⟩] 68)) fun e w' => e = .returned (.tuple #[.slice none 0 0, .bool false]) ∧ ∃ q, Hid (Dd W b s q (.slice none 0 0) [] w')) :=
      HAR.mono fun e w' ⟨⟨he, q, hq, hc⟩, hg⟩ => ⟨he, q, H0.step hc hg hq⟩
    clear HAR HT HS ha hc H0 hsz
    go_enter Tryz.func65, Tryz.ntmps65
    go_wp2_with (go_at_call 80; refine (HA.out).mono ?_; rintro e w1 ⟨rfl, q, R1⟩; obtain ⟨c0, c1, c2, c3, f0, f1, f2, f3, hz⟩ := R1.out.cells)
    refine bodyPost_ret (v := .tuple #[.agg #[.slice none 0 0, .bool false, .int .i64 0, .string ⟨#[]⟩], .bool false]) (by simp [results, Tryz.results65, go_sem, *]) rfl ⟨dpost_none HP.out R1.out.le (R1.out.done _ _ _ _).1, (R1.out.done _ _ _ _).2.2⟩
  | some p =>
    obtain ⟨ts, r⟩ := p
    obtain ⟨hrd, hrl⟩ := args_drop ha
    rw [hsz] at hrd hrl
    rw [ha] at HAR
    have HA : Hid (Calls Tryz.prog 80 #[.pointer (some ⟨b, 0, none⟩)] (W.alloc (.cells #[.slice none 0 0, .bool false, .int .i64 0, .string ⟨#[]⟩] 68)) fun e w' => ∃ v, e = .returned (.tuple #[v, .bool true]) ∧ Hid (Dd W b s (s.size - r.length) v ts w')) :=
      HAR.mono fun e w' ⟨⟨v, he, ho, hc⟩, hg⟩ => ⟨v, he, by
        have h1 := H0.step hc hg (by omega)
        refine ⟨h1.cur, ?_, h1.r, h1.gr, h1.hb, h1.le⟩
        have := ho
        rw [show (W.alloc (.cells zeroD 68)).heap.size = W.heap.size + 1 by simp] at this
        exact this⟩
    clear HAR
    obtain ⟨q, hq⟩ : ∃ q, s.size - r.length = q := ⟨_, rfl⟩
    rw [hq] at HA hrd
    have hqs : q ≤ s.size := by omega
    have hnx : nxt s q 86 = (r.head? == some 86) := by rw [nxt, ← hrd]
    cases h86 : nxt s q 86 with
    | true =>
      have hr86 : r.head? = some 86 := by rw [h86] at hnx; simpa using hnx.symm
      have hlt := nxt_true h86
      have HP : Hid (descOf (s.data.toList.drop pl) = some ((ts, none), r.drop 1)) := by rw [Hid, descOf, ha]; simp [hr86]
      have HQ : Hid (q + 1 = s.size - (r.drop 1).length) := by rw [Hid, List.length_drop]; omega
      clear HT ha hc H0 hsz hrd hrl hq hnx hr86
      go_enter Tryz.func65, Tryz.ntmps65
      go_wp2_with (first
        | (go_at_call 80; refine (HA.out).mono ?_; rintro e w1 ⟨v, rfl, R1⟩; obtain ⟨ao, cap, rfl⟩ := own_slice R1.out.own)
        | (go_at_call 81; refine (HS.out _ _ _ _ _ R1).mono ?_; rintro e w2 ⟨rfl, R2⟩; rw [h86, if_pos rfl] at R2; obtain ⟨c0, c1, c2, c3, f0, f1, f2, f3, hz⟩ := R2.out.cells))
      refine bodyPost_ret (v := .tuple #[.agg #[.slice ao ts.length cap, .bool true, .int .i64 0, .string ⟨#[]⟩], .bool true]) (by simp [results, Tryz.results65, go_sem, *]) rfl ⟨dpost_some (x := none) HP.out HQ.out (R2.out.done _ _ _ _).2.1 (R2.out.done _ _ _ _).1, (R2.out.done _ _ _ _).2.2⟩
    | false =>
      have hr86 : r.head? ≠ some 86 := by rw [h86] at hnx; simpa using hnx.symm
      cases hr : readT r with
      | none =>
        have HP : Hid (descOf (s.data.toList.drop pl) = none) := by rw [Hid, descOf, ha]; simp [hr86, hr]
        have HT' : Hid (∀ v w, Hid (Dd W b s q v ts w) → Calls Tryz.prog 78 #[.pointer (some ⟨b, 0, none⟩)] w fun e w' => e = .returned (.tuple #[.agg #[.int .i64 0, .string ⟨#[]⟩], .bool false]) ∧ ∃ q', Hid (Dd W b s q' v ts w')) := fun v w h =>
          (HT q v ts w h).mono fun e w' ⟨hp, hgr⟩ => by
            unfold TypePost at hp
            rw [← hrd, hr] at hp
            obtain ⟨he, q', hq', hc'⟩ := hp
            exact ⟨he, q', h.out.step hc' hgr hq'⟩
        clear HT ha hc H0 hsz hrd hrl hq hnx hr86 hr
        go_enter Tryz.func65, Tryz.ntmps65
        go_wp2_with (first
          | (go_at_call 80; refine (HA.out).mono ?_; rintro e w1 ⟨v, rfl, R1⟩; obtain ⟨ao, cap, rfl⟩ := own_slice R1.out.own)
          | (go_at_call 81; refine (HS.out _ _ _ _ _ R1).mono ?_; rintro e w2 ⟨rfl, R2⟩; rw [h86, if_neg Bool.false_ne_true] at R2)
          | (go_at_call 78; refine (HT'.out _ _ R2).mono ?_; rintro e w3 ⟨rfl, q', R3⟩; obtain ⟨c0, c1, c2, c3, f0, f1, f2, f3, hz⟩ := R3.out.cells))
        have R5 := R3.out.done (.slice none 0 0) (.bool false) (.int .i64 0) (.string ⟨#[]⟩)
        have hal : Below (set4 w3 W.heap.size (.slice none 0 0) (.bool false) (.int .i64 0) (.string ⟨#[]⟩)).heap.size (set4 w3 W.heap.size (.slice none 0 0) (.bool false) (.int .i64 0) (.string ⟨#[]⟩)) ((set4 w3 W.heap.size (.slice none 0 0) (.bool false) (.int .i64 0) (.string ⟨#[]⟩)).alloc (.cells #[.int .i64 0, .string ⟨#[]⟩] 56)) := (Below.refl _ _).alloc (Nat.le_refl _) _
        refine bodyPost_ret (v := .tuple #[.agg #[.slice none 0 0, .bool false, .int .i64 0, .string ⟨#[]⟩], .bool false]) (by simp [results, Tryz.results65, go_sem, *]) rfl ⟨dpost_none HP.out R3.out.le (R5.1.keep hal), grownBy_trans R5.2.2 (grownBy_below hal (r := some b)) (fun _ e => .inl e)⟩
      | some p =>
        obtain ⟨⟨k, nm⟩, y⟩ := p
        have hrd2 := hrd
        obtain ⟨hyd, hyq, hyl⟩ := read_drop (l := s.data.toList) (q := q) (by rw [← hrd2]; exact hr)
        rw [hsz] at hyd hyq hyl
        have HP : Hid (descOf (s.data.toList.drop pl) = some ((ts, some (k, nm)), y)) := by rw [Hid, descOf, ha]; simp [hr86, hr]
        have HT' : Hid (∀ v w, Hid (Dd W b s q v ts w) → Calls Tryz.prog 78 #[.pointer (some ⟨b, 0, none⟩)] w fun e w' => e = .returned (.tuple #[.agg #[.int .i64 k, .string ⟨nm.toArray⟩], .bool true]) ∧ Hid (Dd W b s (s.size - y.length) v ts w')) := fun v w h =>
          (HT q v ts w h).mono fun e w' ⟨hp, hgr⟩ => by
            unfold TypePost at hp
            rw [← hrd, hr] at hp
            exact ⟨hp.1, h.out.step hp.2 hgr (by omega)⟩
        clear HT ha hc H0 hsz hrd hrl hq hnx hr86 hr hrd2 hyd hyq hyl
        go_enter Tryz.func65, Tryz.ntmps65
        go_wp2_with (first
          | (go_at_call 80; refine (HA.out).mono ?_; rintro e w1 ⟨v, rfl, R1⟩; obtain ⟨ao, cap, rfl⟩ := own_slice R1.out.own)
          | (go_at_call 81; refine (HS.out _ _ _ _ _ R1).mono ?_; rintro e w2 ⟨rfl, R2⟩; rw [h86, if_neg Bool.false_ne_true] at R2)
          | (go_at_call 78; refine (HT'.out _ _ R2).mono ?_; rintro e w3 ⟨rfl, R3⟩; obtain ⟨c0, c1, c2, c3, f0, f1, f2, f3, hz⟩ := R3.out.cells))
        have R5 := R3.out.done (.slice ao ts.length cap) (.bool false) (.int .i64 k) (.string ⟨nm.toArray⟩)
        have hal : Below (set4 w3 W.heap.size (.slice ao ts.length cap) (.bool false) (.int .i64 k) (.string ⟨nm.toArray⟩)).heap.size (set4 w3 W.heap.size (.slice ao ts.length cap) (.bool false) (.int .i64 k) (.string ⟨nm.toArray⟩)) ((set4 w3 W.heap.size (.slice ao ts.length cap) (.bool false) (.int .i64 k) (.string ⟨nm.toArray⟩)).alloc (.cells #[.int .i64 k, .string ⟨nm.toArray⟩] 56)) := (Below.refl _ _).alloc (Nat.le_refl _) _
        refine bodyPost_ret (v := .tuple #[.agg #[.slice ao ts.length cap, .bool false, .int .i64 k, .string ⟨nm.toArray⟩], .bool true]) (by simp [results, Tryz.results65, go_sem, *]) rfl ⟨dpost_some (x := some (k, nm)) HP.out rfl (own_below R5.2.1 hal (Nat.le_refl _)) (R5.1.keep hal), grownBy_trans R5.2.2 (grownBy_below hal (r := some b)) (fun _ e => .inl e)⟩

end Go.Proofs.YtijlipllahfakaaGreatDoor
