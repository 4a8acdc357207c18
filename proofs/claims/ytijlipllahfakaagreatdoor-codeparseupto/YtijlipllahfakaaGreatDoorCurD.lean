/- The walk of the cursor's readArgs: the arguments that stand at the cursor's place, in new memory; what was there before stays but the cursor's place. -/
import Derived.Test.YtijlipllahfakaaGreatDoorTys
import Derived.Deep.LoopGhost
import Derived.WalkMore
namespace Go.Proofs.YtijlipllahfakaaGreatDoor
open Go.RowKit

/-- while arguments are read: the cursor, the list so far, what was there before -/
structure Ra (W : World) (b : Nat) (s : ByteArray) (q : Nat) (v : Value) (ts : List (Nat × List UInt8)) (wr : World) : Prop where
  cur : Cur wr b s q
  own : wr.ownsRow W.heap.size 56 2 v ts.length (flatT (ts.map natT))
  gr : W.grownBy wr (some b)
  hb : b < W.heap.size
  le : q ≤ s.size
  tl : ts.length ≤ q

theorem Ra.step {W wr w1 : World} {b : Nat} {s : ByteArray} {q q' : Nat} {v : Value} {ts : List (Nat × List UInt8)} (h : Ra W b s q v ts wr) (hc : Cur w1 b s q') (hg : wr.grownBy w1 (some b)) (hq : q' ≤ s.size) (hqq : q ≤ q') : Ra W b s q' v ts w1 :=
  ⟨hc, h.own.kept hg (.inr (fun e => by have := (h.own.lt b e).1; have := h.hb; omega)), grownBy_trans h.gr hg (fun _ e => .inl e), h.hb, hq, Nat.le_trans h.tl hqq⟩

theorem Ra.app {W wr w2 : World} {b : Nat} {s : ByteArray} {q : Nat} {v v' : Value} {ts : List (Nat × List UInt8)} {k : Nat} {nm : List UInt8} (o1 o2 : Obj) (h : Ra W b s q v ts wr) (hlt : ts.length < q)
    (ho : w2.ownsRow W.heap.size 56 2 v' (ts.length + 1) (flatT (ts.map natT) ++ [.int .i64 k, .string ⟨nm.toArray⟩])) (hg : ((wr.alloc o1).alloc o2).grownBy w2 v.ownBlock) : Ra W b s q v' (ts ++ [(k, nm)]) w2 := by
  have hbel : Below wr.heap.size wr ((wr.alloc o1).alloc o2) := ((Below.refl _ _).alloc (Nat.le_refl _) _).alloc (by simp) _
  have hbn : some b ≠ v.ownBlock := fun e => by have := (h.own.lt b e.symm).1; have := h.hb; omega
  refine ⟨?_, ?_, ?_, h.hb, h.le, by simp; omega⟩
  · have hc := h.cur.keep hbel
    unfold Cur at *
    rw [hg.block b (Array.getElem?_eq_some_iff.1 hc).1 hbn]
    exact hc
  · have e : flatT ((ts ++ [(k, nm)]).map natT) = flatT (ts.map natT) ++ [.int .i64 k, .string ⟨nm.toArray⟩] := by simp [flatT, tyC, natT]
    rw [e, List.length_append]
    exact ho
  · exact grownBy_trans (grownBy_trans h.gr (grownBy_below hbel (r := some b)) (fun _ e => .inl e)) hg (fun x e => .inr (h.own.lt x e).1)

theorem two_new (w : World) (x y : Value) (t : TypeId) : ∀ j u, [x, y][j]? = some u → (w.alloc (.cells #[x, y] t)).cell? ((⟨w.heap.size, 0, none⟩ : Addr).add j) = some u := by
  intro j u hj
  match j, hj with
  | 0, hj => simp at hj; subst hj; rw [Addr.add_lit, cell_of_row _ w.heap.size 0 _ t (0, 0) (heap_alloc_new w _)]; rfl
  | 1, hj => simp at hj; subst hj; rw [Addr.add_lit, cell_of_row _ w.heap.size 1 _ t (0, 0) (heap_alloc_new w _)]; rfl

theorem two_new2 (w : World) (o : Obj) (x y : Value) (t : TypeId) : ∀ j u, [x, y][j]? = some u → ((w.alloc o).alloc (.cells #[x, y] t)).cell? ((⟨w.heap.size + 1, 0, none⟩ : Addr).add j) = some u := by
  intro j u hj
  have h := two_new (w.alloc o) x y t j u hj
  rw [show (w.alloc o).heap.size = w.heap.size + 1 by simp] at h
  exact h

/-- what readArgs answers -/
def ArgPost (s : ByteArray) (pl b : Nat) (W : World) (e : Ending) (w' : World) : Prop := match argsOf (s.data.toList.drop pl) with
  | some (ts, r) => ∃ v, e = .returned (.tuple #[v, .bool true]) ∧ w'.ownsRow W.heap.size 56 2 v ts.length (flatT (ts.map natT)) ∧ Cur w' b s (s.size - r.length)
  | none => e = .returned (.tuple #[.slice none 0 0, .bool false]) ∧ ∃ q, q ≤ s.size ∧ Cur w' b s q

theorem apost_none {s : ByteArray} {pl b q : Nat} {W w' : World} (h : argsOf (s.data.toList.drop pl) = none) (hq : q ≤ s.size) (hc : Cur w' b s q) : ArgPost s pl b W (.returned (.tuple #[.slice none 0 0, .bool false])) w' := by
  unfold ArgPost; rw [h]; exact ⟨rfl, q, hq, hc⟩
theorem apost_some {s : ByteArray} {pl b q : Nat} {W w' : World} {ts : List (Nat × List UInt8)} {r : List UInt8} {v : Value} (h : argsOf (s.data.toList.drop pl) = some (ts, r)) (hp : q = s.size - r.length)
    (ho : w'.ownsRow W.heap.size 56 2 v ts.length (flatT (ts.map natT))) (hc : Cur w' b s q) : ArgPost s pl b W (.returned (.tuple #[v, .bool true])) w' := by
  unfold ArgPost; rw [h]; rw [hp] at hc; exact ⟨v, rfl, ho, hc⟩

theorem argsOf_open {s : ByteArray} {pl : Nat} (h : nxt s pl 40 = true) : argsOf (s.data.toList.drop pl) = raf (s.data.toList.drop (pl + 1)) := by
  have hlt := nxt_true h
  rw [nxt_lt s pl 40 hlt] at h
  rw [drop_cons s pl hlt]
  simp at h
  rw [h]; rfl
theorem argsOf_shut {s : ByteArray} {pl : Nat} (h : nxt s pl 40 = false) : argsOf (s.data.toList.drop pl) = none := by
  by_cases hlt : pl < s.size
  · rw [nxt_lt s pl 40 hlt] at h
    rw [drop_cons s pl hlt]
    simp at h
    unfold argsOf
    split
    · rename_i e; simp at e; exact absurd e.1 h
    · rfl
  · rw [drop_end s pl (by omega)]; rfl

set_option maxRecDepth 100000 in
set_option maxHeartbeats 4000000 in
theorem readArgs_any (b : Nat) (s : ByteArray) (pl : Nat) (hpl : pl ≤ s.size) (hs : s.size ≤ 1000000) (W : World) (hc : Cur W b s pl) :
    Calls Tryz.prog 80 #[.pointer (some ⟨b, 0, none⟩)] W fun e w' => ArgPost s pl b W e w' ∧ W.grownBy w' (some b) := by
  obtain ⟨i24, hi24, hz0, hz1, hz2⟩ := info_parts Tryz.info56
  have HS : Hid (∀ (m : UInt8) (q : Nat) (v : Value) (ts : List (Nat × List UInt8)) (w : World), Hid (Ra W b s q v ts w) → Calls Tryz.prog 81 #[.pointer (some ⟨b, 0, none⟩), .string ⟨#[m]⟩] w fun e w' => e = .returned (.bool (nxt s q m)) ∧ Hid (Ra W b s (if nxt s q m then q + 1 else q) v ts w')) :=
    fun m q v ts w h => (skip_any b s q m h.out.le hs w h.out.cur).mono fun e w' ⟨he, hc, hg⟩ => ⟨he, h.out.step hc hg (by
      have := h.out.le
      split
      · rename_i e; have := nxt_true e; omega
      · exact this) (by split <;> omega)⟩
  have HT : ∀ (q : Nat) (v : Value) (ts : List (Nat × List UInt8)) (w : World), Hid (Ra W b s q v ts w) → Calls Tryz.prog 78 #[.pointer (some ⟨b, 0, none⟩)] w fun e w' => TypePost s q b e w' ∧ w.grownBy w' (some b) :=
    fun q v ts w h => readType_any b s q h.out.le hs w h.out.cur
  have H0 : Hid (Ra W b s pl (.slice none 0 0) [] W) := ⟨hc, World.ownsRow_nil _ _ _ _, ⟨rfl, rfl, rfl, Nat.le_refl _, fun _ _ _ => rfl⟩, hc.cells.2.2.2, hpl, Nat.zero_le _⟩
  have hsz : s.data.toList.length = s.size := by simp
  have HSZ : Hid _ := hsz
  clear hsz hc
  cases h40 : nxt s pl 40 with
  | false =>
    have HP : Hid _ := argsOf_shut h40
    clear HT
    go_enter Tryz.func80, Tryz.ntmps80
    go_wp2
    go_step3
    go_wp2_with (go_at_call 81; refine (HS.out _ _ _ _ _ H0).mono ?_; rintro e w1 ⟨rfl, R1⟩; rw [h40, if_neg Bool.false_ne_true] at R1)
    try rw [Exit.noGoto_ret]
    go_ret2
    exact ⟨apost_none HP.out R1.out.le R1.out.cur, R1.out.gr⟩
  | true =>
    have HO : Hid _ := argsOf_open h40
    go_enter Tryz.func80, Tryz.ntmps80
    go_wp2
    go_step3
    go_wp2_with (go_at_call 81; refine (HS.out _ _ _ _ _ H0).mono ?_; rintro e w1 ⟨rfl, R1⟩; rw [h40, if_pos rfl] at R1)
    go_step3
    go_wp2
    clear H0
    go_loopg [4] (s.size - pl) (fun g v wr => ∃ q ts, q + g = s.size + 1 ∧ Hid (Ra W b s q v ts wr) ∧ Hid (argsOf (s.data.toList.drop pl) = (raf (s.data.toList.drop q)).map (fun p => (ts ++ p.1, p.2))))
    case atStart => exact ⟨pl + 1, [], by have := R1.out.le; omega, R1, by rw [Hid, HO.out]; cases raf (s.data.toList.drop (pl + 1)) <;> rfl⟩
    case round =>
      clear R1 HO h40
      obtain ⟨q, ts, hg, hR, hA⟩ := hrel
      have hle := hR.out.le
      have BAD : Hid (nxt s q 41 = false → readT (s.data.toList.drop q) = none → argsOf (s.data.toList.drop pl) = none) := by
        intro h1 h2
        rw [hA.out]
        by_cases hlt : q < s.size
        · rw [nxt_lt s q 41 hlt] at h1
          simp at h1
          rw [drop_cons s q hlt] at h2 ⊢
          rw [raf_bad h1 h2]; rfl
        · rw [drop_end s q (by omega), raf_nil]; rfl
      cases h41 : nxt s q 41 with
      | true =>
        have hlt := nxt_true h41
        have HP : Hid (argsOf (s.data.toList.drop pl) = some (ts, s.data.toList.drop (q + 1))) := by
          have h1 := h41
          rw [nxt_lt s q 41 hlt] at h1
          simp at h1
          rw [Hid, hA.out, drop_cons s q hlt, h1, raf_end]
          simp
        have HQ : Hid (q + 1 = s.size - (s.data.toList.drop (q + 1)).length) := by rw [Hid, List.length_drop, HSZ.out]; omega
        clear hA BAD HT
        go_wp2_with (go_at_call 81; refine (HS.out _ _ _ _ _ hR).mono ?_; rintro e w1 ⟨rfl, R1⟩; rw [h41, if_pos rfl] at R1)
        try rw [Exit.noGoto_ret]
        go_ret2
        exact ⟨apost_some HP.out HQ.out R1.out.own R1.out.cur, R1.out.gr⟩
      | false =>
        cases hr : readT (s.data.toList.drop q) with
        | none =>
          have HP : Hid _ := BAD.out h41 hr
          have HT' : Hid (∀ v w, Hid (Ra W b s q v ts w) → Calls Tryz.prog 78 #[.pointer (some ⟨b, 0, none⟩)] w fun e w' => e = .returned (.tuple #[.agg #[.int .i64 0, .string ⟨#[]⟩], .bool false]) ∧ Hid (∃ q', q' ≤ s.size ∧ Cur w' b s q' ∧ W.grownBy w' (some b))) := fun v w h =>
            (HT q v ts w h).mono fun e w' ⟨hp, hgr⟩ => by
              unfold TypePost at hp
              rw [hr] at hp
              obtain ⟨he, q', hq', hc'⟩ := hp
              exact ⟨he, q', hq', hc', grownBy_trans h.out.gr hgr (fun _ e => .inl e)⟩
          clear hA BAD HT hr
          go_wp2_with (first
            | (go_at_call 81; refine (HS.out _ _ _ _ _ hR).mono ?_; rintro e w1 ⟨rfl, R1⟩; rw [h41, if_neg Bool.false_ne_true] at R1)
            | (go_at_call 78; refine (HT'.out _ _ R1).mono ?_; rintro e w2 ⟨rfl, R2⟩))
          try rw [Exit.noGoto_ret]
          go_ret2
          obtain ⟨q', hq', hc', hg'⟩ := R2.out
          exact ⟨apost_none HP.out hq' (hc'.keep ((Below.refl _ _).alloc (Nat.le_refl _) _)), grownBy_trans hg' (grownBy_below ((Below.refl _ _).alloc (Nat.le_refl _) _) (r := some b)) (fun _ e => .inl e)⟩
        | some p =>
          obtain ⟨⟨k, nm⟩, r⟩ := p
          obtain ⟨hrd, hrq, hrl⟩ := read_drop hr
          rw [HSZ.out] at hrd hrq hrl
          have HA : Hid (argsOf (s.data.toList.drop pl) = (raf (s.data.toList.drop (s.size - r.length))).map (fun p => ((ts ++ [(k, nm)]) ++ p.1, p.2))) := by
            have hlt : q < s.size := by omega
            have h1 := h41
            rw [nxt_lt s q 41 hlt] at h1
            simp at h1
            have h2 := hr
            rw [drop_cons s q hlt] at h2
            rw [Hid, hA.out, drop_cons s q hlt, raf_step h1 h2, ← hrd]
            cases raf r <;> simp
          have HT' : Hid (∀ v w, Hid (Ra W b s q v ts w) → Calls Tryz.prog 78 #[.pointer (some ⟨b, 0, none⟩)] w fun e w' => e = .returned (.tuple #[.agg #[.int .i64 k, .string ⟨nm.toArray⟩], .bool true]) ∧ Hid (Ra W b s (s.size - r.length) v ts w')) := fun v w h =>
            (HT q v ts w h).mono fun e w' ⟨hp, hgr⟩ => by
              unfold TypePost at hp
              rw [hr] at hp
              exact ⟨hp.1, h.out.step hp.2 hgr (by omega) (by omega)⟩
          have htl := hR.out.tl
          have hWs := hR.out.gr.size
          obtain ⟨z, hz⟩ : ∃ z, s.size - r.length = z := ⟨_, rfl⟩
          rw [hz] at HA HT' hrq
          have hzs : z ≤ s.size := by omega
          clear hA BAD HT hr hrd hrl hz
          go_wp2_with (first
            | (go_at_call 81; refine (HS.out _ _ _ _ _ hR).mono ?_; rintro e w1 ⟨rfl, R1⟩; rw [h41, if_neg Bool.false_ne_true] at R1)
            | (go_at_call 78; refine (HT'.out _ _ R1).mono ?_; rintro e w2 ⟨rfl, R2⟩; have hW2 := R2.out.gr.size)
            | (at_builtin; refine wpList_append_own _ rfl _ _ 66 rfl W.heap.size 56 i24 (.agg #[.int .i64 0, .string ⟨#[]⟩]) 2 24 Tryz.underlying66 hi24 hz0 hz1 hz2 rfl (by decide) _ _ _ rfl ((R2.out.own.alloc _).alloc _) ⟨w2.heap.size + 1, 0, none⟩ 1 1 [.int .i64 k, .string ⟨nm.toArray⟩] rfl rfl ?c1 ?c2 ?c3 ?c4 ?c5 ?_))
          case c1 => exact two_new2 w2 _ _ _ _
          case c2 => intro u hu; simp at hu; rcases hu with rfl | rfl <;> rfl
          case c3 => unfold maxLen; omega
          case c4 => omega
          case c5 => simp; omega
          · intro v' w3 hown' hgrow _
            have R3 : Hid (Ra W b s z v' (ts ++ [(k, nm)]) w3) := Ra.app _ _ R2.out (by omega) hown' hgrow
            clear hown' hgrow R2 R1 hR
            go_wp2
            go_roundg (s.size + 1 - z)
            case measure => omega
            case rel => exact ⟨z, ts ++ [(k, nm)], by omega, R3, HA⟩

end Go.Proofs.YtijlipllahfakaaGreatDoor
