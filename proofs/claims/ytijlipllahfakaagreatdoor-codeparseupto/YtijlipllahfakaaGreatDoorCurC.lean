/- The walk of the cursor's readType: the type whose text stands at the cursor's place; what was there before stays but the cursor's place. -/
import Derived.Test.YtijlipllahfakaaGreatDoorCurB
namespace Go.Proofs.YtijlipllahfakaaGreatDoor
open Go.RowKit

theorem nxt_lt (s : ByteArray) (i : Nat) (m : UInt8) (h : i < s.size) : nxt s i m = decide (s[i] = m) := by
  unfold nxt
  rw [drop_cons s i h, List.head?_cons, Bool.eq_iff_iff]
  simp
theorem nxt_end (s : ByteArray) (i : Nat) (m : UInt8) (h : s.size ≤ i) : nxt s i m = false := by
  unfold nxt
  rw [drop_end s i h]; rfl
theorem nxt_true {s : ByteArray} {i : Nat} {m : UInt8} (h : nxt s i m = true) : i < s.size := by
  by_cases q : i < s.size
  · exact q
  · rw [nxt_end s i m (by omega)] at h; simp at h

theorem nameP_le (l : List UInt8) : nameP l ≤ l.length := by
  unfold nameP
  split
  · rename_i a b h
    split
    · rw [(semi_eq h).1]; simp
    · omega
  · omega

/-- while a type is read by a cursor: the cursor, the answer's block, what was there before -/
structure Rt (W : World) (b : Nat) (s : ByteArray) (q : Nat) (wr : World) : Prop where
  cur : Cur wr b s q
  r : wr.heap[W.heap.size]? = some (.cells #[.int .i64 0, .string ⟨#[]⟩] 56 (0, 0))
  gr : W.grownBy wr (some b)
  hb : b < W.heap.size
  le : q ≤ s.size

theorem Rt.step {W wr w1 : World} {b : Nat} {s : ByteArray} {q q' : Nat} (h : Rt W b s q wr) (hc : Cur w1 b s q') (hg : wr.grownBy w1 (some b)) (hq : q' ≤ s.size) : Rt W b s q' w1 :=
  ⟨hc, by rw [hg.block _ (Array.getElem?_eq_some_iff.1 h.r).1 (by have := h.hb; simp; omega)]; exact h.r, grownBy_trans h.gr hg (fun _ e => .inl e), h.hb, hq⟩

theorem Rt.cells {W wr : World} {b : Nat} {s : ByteArray} {q : Nat} (h : Rt W b s q wr) :
    wr.cell? ⟨W.heap.size, 0, none⟩ = some (.int .i64 0) ∧ wr.cell? ⟨W.heap.size, 1, none⟩ = some (.string ⟨#[]⟩) ∧ wr.frozen? ⟨W.heap.size, 0, none⟩ = false ∧ wr.frozen? ⟨W.heap.size, 1, none⟩ = false := by
  refine ⟨?_, ?_, ?_, ?_⟩
  · rw [cell_of_row _ W.heap.size 0 _ 56 (0, 0) h.r]; rfl
  · rw [cell_of_row _ W.heap.size 1 _ 56 (0, 0) h.r]; rfl
  all_goals simp [World.frozen?, h.r]

theorem Rt.done {W wr : World} {b : Nat} {s : ByteArray} {q : Nat} (h : Rt W b s q wr) (u v : Value) :
    Cur ((wr.setCell ⟨W.heap.size, 0, none⟩ u).setCell ⟨W.heap.size, 1, none⟩ v) b s q ∧ W.grownBy ((wr.setCell ⟨W.heap.size, 0, none⟩ u).setCell ⟨W.heap.size, 1, none⟩ v) (some b) := by
  have hb := h.hb
  constructor
  · unfold Cur
    rw [heap_setCell_other _ ⟨W.heap.size, 1, none⟩ b v (by simp; omega), heap_setCell_other _ ⟨W.heap.size, 0, none⟩ b u (by simp; omega)]
    exact h.cur
  · refine grownBy_trans (grownBy_trans h.gr (grownBy_set wr W.heap.size 0 u) ?_) (grownBy_set _ W.heap.size 1 v) ?_
    · intro k e; right; simp at e; omega
    · intro k e; right; simp at e; omega

/-- what readType answers -/
def TypePost (s : ByteArray) (pl b : Nat) (e : Ending) (w' : World) : Prop := match readT (s.data.toList.drop pl) with
  | some (t, r) => e = .returned (.tuple #[.agg #[.int .i64 t.1, .string ⟨t.2.toArray⟩], .bool true]) ∧ Cur w' b s (s.size - r.length)
  | none => e = .returned (.tuple #[.agg #[.int .i64 0, .string ⟨#[]⟩], .bool false]) ∧ ∃ q, q ≤ s.size ∧ Cur w' b s q

theorem tpost_none {s : ByteArray} {pl b q : Nat} {w' : World} (h : readT (s.data.toList.drop pl) = none) (hq : q ≤ s.size) (hc : Cur w' b s q) : TypePost s pl b (.returned (.tuple #[.agg #[.int .i64 0, .string ⟨#[]⟩], .bool false])) w' := by
  unfold TypePost; rw [h]; exact ⟨rfl, q, hq, hc⟩
theorem tpost_some {s : ByteArray} {pl b q : Nat} {k : Nat} {nm r : List UInt8} {w' : World} (h : readT (s.data.toList.drop pl) = some ((k, nm), r)) (hp : q = s.size - r.length) (hc : Cur w' b s q) :
    TypePost s pl b (.returned (.tuple #[.agg #[.int .i64 k, .string ⟨nm.toArray⟩], .bool true])) w' := by
  unfold TypePost; rw [h]; rw [hp] at hc; exact ⟨rfl, hc⟩

set_option maxRecDepth 100000 in
set_option maxHeartbeats 4000000 in
theorem readType_any (b : Nat) (s : ByteArray) (pl : Nat) (hpl : pl ≤ s.size) (hs : s.size ≤ 1000000) (W : World) (hc : Cur W b s pl) :
    Calls Tryz.prog 78 #[.pointer (some ⟨b, 0, none⟩)] W fun e w' => TypePost s pl b e w' ∧ W.grownBy w' (some b) := by
  have HS : Hid (∀ (m : UInt8) (q : Nat) (w : World), Hid (Rt W b s q w) → Calls Tryz.prog 81 #[.pointer (some ⟨b, 0, none⟩), .string ⟨#[m]⟩] w fun e w' => e = .returned (.bool (nxt s q m)) ∧ Hid (Rt W b s (if nxt s q m then q + 1 else q) w')) :=
    fun m q w h => (skip_any b s q m h.out.le hs w h.out.cur).mono fun e w' ⟨he, hc, hg⟩ => ⟨he, h.out.step hc hg (by
      have := h.out.le
      split
      · rename_i e; have := nxt_true e; omega
      · exact this)⟩
  have HN : Hid (∀ (q : Nat) (w : World), Hid (Rt W b s q w) → Calls Tryz.prog 91 #[.pointer (some ⟨b, 0, none⟩)] w fun e w' => e = .returned (.tuple #[.string ⟨(nameS (s.data.toList.drop q)).toArray⟩, .bool (nameB (s.data.toList.drop q))]) ∧ Hid (Rt W b s (q + nameP (s.data.toList.drop q)) w')) :=
    fun q w h => (readName_any b s q h.out.le hs w h.out.cur).mono fun e w' ⟨he, hc, hg⟩ => ⟨he, h.out.step hc hg (by
      have h1 := h.out.le
      have h2 := nameP_le (s.data.toList.drop q)
      simp at h2; omega)⟩
  have H0 : Hid (Rt W b s pl (W.alloc (.cells #[.int .i64 0, .string ⟨#[]⟩] 56))) :=
    ⟨hc.keep ((Below.refl _ _).alloc (Nat.le_refl _) _), heap_alloc_new W _, grownBy_below ((Below.refl _ _).alloc (Nat.le_refl _) _), hc.cells.2.2.2, hpl⟩
  have hsz : s.data.toList.length = s.size := by simp
  have HSZ : Hid _ := hsz
  clear hsz hc
  go_enter Tryz.func78, Tryz.ntmps78
  go_wp2
  go_loopw [4] (fun p wr => ∃ j : Nat, p = .int .i64 j ∧ pl + j ≤ s.size ∧ Hid (Rt W b s (pl + j) wr) ∧
      Hid (bracks (s.data.toList.drop pl) = ((bracks (s.data.toList.drop (pl + j))).1 + j, (bracks (s.data.toList.drop (pl + j))).2))) (fun p _ => s.size - (intOf p).toNat)
  case atStart => exact ⟨0, rfl, hpl, H0, rfl⟩
  case round =>
    clear H0
    obtain ⟨j, rfl, hj, hR, hbr⟩ := hrel
    by_cases hlt : pl + j < s.size
    · by_cases h91 : s[pl + j] = 91
      · have q91 : nxt s (pl + j) 91 = true := by rw [nxt_lt s _ _ hlt]; simp [h91]
        have HB : Hid (bracks (s.data.toList.drop pl) = ((bracks (s.data.toList.drop (pl + (j + 1)))).1 + (j + 1), (bracks (s.data.toList.drop (pl + (j + 1)))).2)) := by
          rw [Hid, hbr.out, bracks_step s (pl + j) hlt h91]
          simp only [Prod.mk.injEq]
          exact ⟨by rw [show pl + j + 1 = pl + (j + 1) by omega]; omega, by rw [show pl + j + 1 = pl + (j + 1) by omega]⟩
        clear hbr h91
        go_wp2_with (go_at_call 81; refine (HS.out _ _ _ hR).mono ?_; rintro e w1 ⟨rfl, R1⟩; rw [q91, if_pos rfl] at R1)
        go_roundw
        case rel => exact ⟨j + 1, by go_num, by omega, R1, HB⟩
        case measure => simp [intOf]; omega
      · have hb0 : bracks (s.data.toList.drop pl) = (j, s.data.toList.drop (pl + j)) := by rw [hbr.out, bracks_stop s (pl + j) hlt h91, Nat.zero_add]
        rw [drop_cons s (pl + j) hlt] at hb0
        have q91 : nxt s (pl + j) 91 = false := by rw [nxt_lt s _ _ hlt]; simp [h91]
        by_cases h73 : s[pl + j] = 73
        · have q73 : nxt s (pl + j) 73 = true := by rw [nxt_lt s _ _ hlt]; simp [h73]
          have HP : Hid _ := read_int (by rw [h73] at hb0; exact hb0)
          have HQ : Hid (pl + j + 1 = s.size - (s.data.toList.drop (pl + j + 1)).length) := by rw [Hid, List.length_drop, HSZ.out]; omega
          clear hbr h91 h73 hb0
          go_wp2_with (go_at_call 81; refine (HS.out _ _ _ hR).mono ?_; clear hR; rintro e w1 ⟨rfl, hR⟩; first | rw [q91, if_neg Bool.false_ne_true] at hR | rw [q73, if_pos rfl] at hR; obtain ⟨c0, c1, c2, c3⟩ := hR.out.cells)
          refine bodyPost_ret (v := .tuple #[.agg #[.int .i64 j, .string ⟨#[]⟩], .bool true]) (by simp [results, Tryz.results78, go_sem, *]) rfl ⟨tpost_some HP.out HQ.out (hR.out.done _ _).1, (hR.out.done _ _).2⟩
        · have q73 : nxt s (pl + j) 73 = false := by rw [nxt_lt s _ _ hlt]; simp [h73]
          by_cases h76 : s[pl + j] = 76
          · have q76 : nxt s (pl + j) 76 = true := by rw [nxt_lt s _ _ hlt]; simp [h76]
            rw [h76] at hb0
            cases hsm : semi (s.data.toList.drop (pl + j + 1)) with
            | none =>
              have e2 : nameB (s.data.toList.drop (pl + j + 1)) = false := by simp [nameB, hsm]
              have HP : Hid _ := read_open hb0 hsm
              clear hbr h91 h73 h76 hb0 hsm
              go_wp2_with (first
                | (go_at_call 81; refine (HS.out _ _ _ hR).mono ?_; clear hR; rintro e w1 ⟨rfl, hR⟩; first | rw [q91, if_neg Bool.false_ne_true] at hR | rw [q73, if_neg Bool.false_ne_true] at hR | rw [q76, if_pos rfl] at hR; obtain ⟨c0, c1, c2, c3⟩ := hR.out.cells)
                | (go_at_call 91; refine (HN.out _ _ hR).mono ?_; clear hR; rintro e w1 ⟨rfl, hR⟩; rw [e2]; obtain ⟨c0, c1, c2, c3⟩ := hR.out.cells))
              refine bodyPost_ret (v := .tuple #[.agg #[.int .i64 0, .string ⟨#[]⟩], .bool false]) (by simp [results, Tryz.results78, go_sem, *]) rfl ⟨tpost_none HP.out hR.out.le (hR.out.done _ _).1, (hR.out.done _ _).2⟩
            | some p =>
              obtain ⟨x, y⟩ := p
              cases hv : validL x with
              | false =>
                have e2 : nameB (s.data.toList.drop (pl + j + 1)) = false := by simp [nameB, hsm, hv]
                have HP : Hid _ := read_bad hb0 hsm hv
                clear hbr h91 h73 h76 hb0 hsm hv
                go_wp2_with (first
                  | (go_at_call 81; refine (HS.out _ _ _ hR).mono ?_; clear hR; rintro e w1 ⟨rfl, hR⟩; first | rw [q91, if_neg Bool.false_ne_true] at hR | rw [q73, if_neg Bool.false_ne_true] at hR | rw [q76, if_pos rfl] at hR; obtain ⟨c0, c1, c2, c3⟩ := hR.out.cells)
                  | (go_at_call 91; refine (HN.out _ _ hR).mono ?_; clear hR; rintro e w1 ⟨rfl, hR⟩; rw [e2]; obtain ⟨c0, c1, c2, c3⟩ := hR.out.cells))
                refine bodyPost_ret (v := .tuple #[.agg #[.int .i64 0, .string ⟨#[]⟩], .bool false]) (by simp [results, Tryz.results78, go_sem, *]) rfl ⟨tpost_none HP.out hR.out.le (hR.out.done _ _).1, (hR.out.done _ _).2⟩
              | true =>
                have e1 : nameS (s.data.toList.drop (pl + j + 1)) = x := by simp [nameS, hsm, hv]
                have e2 : nameB (s.data.toList.drop (pl + j + 1)) = true := by simp [nameB, hsm, hv]
                have e3 : nameP (s.data.toList.drop (pl + j + 1)) = x.length + 1 := by simp [nameP, hsm, hv]
                have HP : Hid _ := read_cls hb0 hsm hv
                have HQ : Hid (pl + j + 1 + (x.length + 1) = s.size - y.length) := by
                  have h1 : (s.data.toList.drop (pl + j + 1)).length = s.size - (pl + j + 1) := by rw [List.length_drop, HSZ.out]
                  rw [(semi_eq hsm).1, List.length_append, List.length_cons] at h1
                  rw [Hid]; omega
                clear hbr h91 h73 h76 hb0 hsm hv
                go_wp2_with (first
                  | (go_at_call 81; refine (HS.out _ _ _ hR).mono ?_; clear hR; rintro e w1 ⟨rfl, hR⟩; first | rw [q91, if_neg Bool.false_ne_true] at hR | rw [q73, if_neg Bool.false_ne_true] at hR | rw [q76, if_pos rfl] at hR; obtain ⟨c0, c1, c2, c3⟩ := hR.out.cells)
                  | (go_at_call 91; refine (HN.out _ _ hR).mono ?_; clear hR; rintro e w1 ⟨rfl, hR⟩; rw [e2, e1]; rw [e3] at hR; obtain ⟨c0, c1, c2, c3⟩ := hR.out.cells))
                refine bodyPost_ret (v := .tuple #[.agg #[.int .i64 j, .string ⟨x.toArray⟩], .bool true]) (by simp [results, Tryz.results78, go_sem, *]) rfl ⟨tpost_some HP.out HQ.out (hR.out.done _ _).1, (hR.out.done _ _).2⟩
          · have q76 : nxt s (pl + j) 76 = false := by rw [nxt_lt s _ _ hlt]; simp [h76]
            have HP : Hid _ := read_other hb0 h73 h76
            clear hbr h91 h73 h76 hb0
            go_wp2_with (go_at_call 81; refine (HS.out _ _ _ hR).mono ?_; clear hR; rintro e w1 ⟨rfl, hR⟩; first | rw [q91, if_neg Bool.false_ne_true] at hR | rw [q73, if_neg Bool.false_ne_true] at hR | rw [q76, if_neg Bool.false_ne_true] at hR; obtain ⟨c0, c1, c2, c3⟩ := hR.out.cells)
            refine bodyPost_ret (v := .tuple #[.agg #[.int .i64 0, .string ⟨#[]⟩], .bool false]) (by simp [results, Tryz.results78, go_sem, *]) rfl ⟨tpost_none HP.out hR.out.le (hR.out.done _ _).1, (hR.out.done _ _).2⟩
    · have q91 : nxt s (pl + j) 91 = false := nxt_end _ _ _ (by omega)
      have q73 : nxt s (pl + j) 73 = false := nxt_end _ _ _ (by omega)
      have q76 : nxt s (pl + j) 76 = false := nxt_end _ _ _ (by omega)
      have HP : Hid _ := read_nil (l := s.data.toList.drop pl) (j := j) (by rw [hbr.out, drop_end s (pl + j) (by omega)]; simp [bracks])
      clear hbr
      go_wp2_with (go_at_call 81; refine (HS.out _ _ _ hR).mono ?_; clear hR; rintro e w1 ⟨rfl, hR⟩; first | rw [q91, if_neg Bool.false_ne_true] at hR | rw [q73, if_neg Bool.false_ne_true] at hR | rw [q76, if_neg Bool.false_ne_true] at hR; obtain ⟨c0, c1, c2, c3⟩ := hR.out.cells)
      refine bodyPost_ret (v := .tuple #[.agg #[.int .i64 0, .string ⟨#[]⟩], .bool false]) (by simp [results, Tryz.results78, go_sem, *]) rfl ⟨tpost_none HP.out hR.out.le (hR.out.done _ _).1, (hR.out.done _ _).2⟩

end Go.Proofs.YtijlipllahfakaaGreatDoor
