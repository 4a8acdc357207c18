/- The walk of hier.gather: its closure take, and the closure of a class that is yet to get its place. -/
import Derived.Test.YthnoeibapiaceaaHrB
import Derived.Maps.AppendAt
namespace Go.Proofs.Ythnoeibapiaceaa
open Go.RowKit

def numV (n : Nat) : Value := .int .i64 (n : Int)
def takeL (cl : List Nat) : List Nat → List Nat
  | [] => cl
  | i :: r => takeL (if cl.contains i then cl else cl ++ [i]) r
theorem takeL_snoc (cl a : List Nat) (i : Nat) : takeL cl (a ++ [i]) = (if (takeL cl a).contains i then takeL cl a else takeL cl a ++ [i]) := by
  induction a generalizing cl with
  | nil => rfl
  | cons x a ih => exact ih _
theorem takeL_len (cl a : List Nat) : (takeL cl a).length ≤ cl.length + a.length := by
  induction a generalizing cl with
  | nil => exact Nat.le_refl _
  | cons x a ih =>
    refine Nat.le_trans (ih _) ?_
    split
    · rw [List.length_cons]; omega
    · rw [List.length_append, List.length_cons, List.length_cons, List.length_nil]; omega
def seenL (n : Nat) (cl : List Nat) : List Value := (List.range n).map fun i => .bool (cl.contains i)
theorem seen_at (n : Nat) (cl : List Nat) (i : Nat) (h : i < n) : (seenL n cl)[i]? = some (.bool (cl.contains i)) := by
  rw [seenL, List.getElem?_map, List.getElem?_range h]; rfl
theorem seen_set (n : Nat) (cl : List Nat) (i : Nat) (h : i < n) : (seenL n cl).set i (.bool true) = seenL n (cl ++ [i]) := by
  refine List.ext_getElem? fun j => ?_
  rw [List.getElem?_set]
  by_cases hj : j < n
  · rw [seen_at n _ j hj]
    split
    · rename_i e; subst e; rw [if_pos (by rw [seenL, List.length_map, List.length_range]; exact h), seen_at n _ i h, show (cl ++ [i]).contains i = true by rw [List.contains_iff_mem]; simp]
    · rename_i e; rw [seen_at n _ j hj]; have e2 : ¬ j = i := fun e3 => e e3.symm; simp [e2]
  · rw [List.getElem?_eq_none (by rw [seenL, List.length_map, List.length_range]; omega : (seenL n (cl ++ [i])).length ≤ j)]
    split
    · rename_i e; omega
    · exact List.getElem?_eq_none (by rw [seenL, List.length_map, List.length_range]; omega)

/-- what gather's closure holds: the row of what was seen, and the list so far -/
structure GSt (w : World) (N bs bc gs n : Nat) (vc : Value) (cl : List Nat) : Prop where
  hs : w.heap[bs]? = some (.cells #[.slice (some ⟨gs, 0, none⟩) n n] 90 (0, 0))
  hg : w.heap[gs]? = some (.cells (seenL n cl).toArray 4 (0, 0))
  hc : w.heap[bc]? = some (.cells #[vc] 60 (0, 0))
  own : w.ownsRow N 3 1 vc cl.length (cl.map numV)
  ls : N ≤ bs
  lc : N ≤ bc
  lg : N ≤ gs

/-- a number that was not seen is noted, and appended -/
theorem GSt.next {wr w5 : World} {N bs bc gs n id : Nat} {ve v' : Value} {ce : List Nat} {o : Obj} (h : GSt wr N bs bc gs n ve ce) (hid : id < n) (hg : ((wr.setCell ⟨gs, id, none⟩ (.bool true)).alloc o).grownBy w5 ve.ownBlock) (ho : w5.ownsRow N 3 1 v' (ce.length + 1) (ce.map numV ++ [.int .i64 (id : Int)])) :
    wr.heap.size ≤ w5.heap.size ∧ (∀ k < wr.heap.size, k ≠ gs → some k ≠ ve.ownBlock → w5.heap[k]? = wr.heap[k]?) ∧ w5.heap[bc]? = some (.cells #[ve] 60 (0, 0)) ∧ GSt (w5.setCell ⟨bc, 0, none⟩ v') N bs bc gs n v' (ce ++ [id]) ∧ ∀ W, Below N W wr → Below N W (w5.setCell ⟨bc, 0, none⟩ v') := by
  have hsz := hg.size
  simp at hsz
  have kinds : ∀ {b : Nat} {cs : Array Value} {t : TypeId}, wr.heap[b]? = some (.cells cs t (0, 0)) → 3 ≠ t → some b ≠ ve.ownBlock := fun {b cs t} hb ht => by
    rcases row_kind_ne h.own hb ht with e | e
    · rw [e]; simp
    · exact fun e2 => e e2.symm
  have lt : ∀ {b : Nat} {x : Obj}, wr.heap[b]? = some x → b < wr.heap.size := fun hb => (Array.getElem?_eq_some_iff.1 hb).1
  have keep : ∀ k < wr.heap.size, k ≠ gs → some k ≠ ve.ownBlock → w5.heap[k]? = wr.heap[k]? := fun k hk hne h2 => by
    rw [hg.block k (by simp; omega) h2, heap_alloc_old _ _ (by simp; exact hk), heap_setCell_other _ _ _ _ hne]
  have ngs1 : bs ≠ gs := fun e => by have := h.hs; rw [e, h.hg] at this; simp at this
  have ngs2 : bc ≠ gs := fun e => by have := h.hc; rw [e, h.hg] at this; simp at this
  have nbb : bs ≠ bc := fun e => by have := h.hs; rw [e, h.hc] at this; simp at this
  have hbc := (keep bc (lt h.hc) ngs2 (kinds h.hc (by decide))).trans h.hc
  have hbs := (keep bs (lt h.hs) ngs1 (kinds h.hs (by decide))).trans h.hs
  have hgs : w5.heap[gs]? = some (.cells (seenL n (ce ++ [id])).toArray 4 (0, 0)) := by
    rw [hg.block gs (by simp; have := lt h.hg; omega) (kinds h.hg (by decide)), heap_alloc_old _ _ (by simp; exact lt h.hg), heap_setCell_same wr gs id _ 4 _ h.hg, List.setIfInBounds_toArray, seen_set n ce id hid]
  refine ⟨by omega, keep, hbc, ?_, fun W hB => (((hB.setCell (p := ⟨gs, id, none⟩) h.lg _).alloc (by simp; have := lt h.hs; have := h.ls; omega) o).grown hg (by simp; have := lt h.hs; have := h.ls; omega) (fun k hk => (h.own.lt k hk).1)).setCell (p := ⟨bc, 0, none⟩) h.lc _⟩
  refine ⟨(heap_setCell_other _ _ _ _ nbb).trans hbs, (heap_setCell_other _ _ _ _ (fun e => ngs2 e.symm)).trans hgs, heap_setCell_same w5 bc 0 _ 60 _ hbc, ?_, h.ls, h.lc, h.lg⟩
  have e1 : (ce ++ [id]).map numV = ce.map numV ++ [.int .i64 (id : Int)] := by rw [List.map_append]; rfl
  rw [e1, List.length_append, List.length_singleton]
  exact ho.kept (grown_set w5 bc 0 v') (row_kind_ne ho hbc (by decide))

set_option maxRecDepth 100000 in
theorem take_any (bs bc gs n N : Nat) (vc : Value) (cl : List Nat) (v : Value) (ids : List Nat) (W : World) (hG : GSt W N bs bc gs n vc cl) (hv : Rds W v ids.length 1 (ids.map numV)) (hk : ∀ bk o cap, v = .slice (some ⟨bk, o, none⟩) ids.length cap → (∃ cs, W.heap[bk]? = some (.cells cs 3 (0, 0))) ∧ vc.ownBlock ≠ some bk)
    (hlt : ∀ i ∈ ids, i < n) (_hn : n ≤ 1000000) (hr : cl.length + ids.length ≤ 1000000) :
    Calls Try.prog 43 #[v, .pointer (some ⟨bs, 0, none⟩), .pointer (some ⟨bc, 0, none⟩)] W fun e w' => e = .returned (.tuple #[]) ∧ (∃ vc', GSt w' N bs bc gs n vc' (takeL cl ids)) ∧ Below N W w' := by
  obtain ⟨L, hL⟩ : ∃ L, ids.length = L := ⟨_, rfl⟩
  have HL : Hid (ids.length = L) := hL
  have hvs : ∃ a c, v = .slice a L c := by
    rcases hv.val with ⟨e, e2⟩ | ⟨_, _, c, e, _⟩
    · rw [← hL, e2]; exact ⟨_, _, e⟩
    · rw [← hL]; exact ⟨_, _, e⟩
  have HV : Hid (Rds W v ids.length 1 (ids.map numV)) := hv
  have HK : Hid (∀ bk o cap, v = .slice (some ⟨bk, o, none⟩) ids.length cap → (∃ cs, W.heap[bk]? = some (.cells cs 3 (0, 0))) ∧ vc.ownBlock ≠ some bk) := hk
  have HLT : Hid (∀ i ∈ ids, i < n) := hlt
  obtain ⟨av, cv, rfl⟩ := hvs
  have HG : Hid (GSt W N bs bc gs n vc cl) := hG
  obtain ⟨i0, hi, hz0, hz1, hz2⟩ := info_parts Try.hinfo3
  rw [hL] at hr
  clear hL hv hk hlt hG
  go_enter Try.func43, Try.ntmps43
  go_wp2
  have HS0 : Hid (∀ bk o cap, (Value.slice av L cv) = .slice (some ⟨bk, o, none⟩) L cap → vc.ownBlock ≠ some bk ∧ W.heap[bk]? = W.heap[bk]?) := fun bk o cap e => ⟨(HK.out bk o cap (by rw [HL.out]; exact e)).2, rfl⟩
  go_loopw [8] (fun kv wr => ∃ (k : Nat) (ve : Value), kv = .int .i64 k ∧ k ≤ L ∧ Hid (GSt wr N bs bc gs n ve (takeL cl (ids.take k))) ∧ Hid (∀ bk o cap, (Value.slice av L cv) = .slice (some ⟨bk, o, none⟩) L cap → ve.ownBlock ≠ some bk ∧ wr.heap[bk]? = W.heap[bk]?) ∧ Hid (Below N W wr)) (fun kv _ => L - (intOf kv).toNat)
  case atStart => exact ⟨0, vc, rfl, Nat.zero_le _, HG, HS0, Below.refl _ _⟩
  case round =>
    obtain ⟨k, ve, rfl, hk, hG, hS, hB⟩ := hrel
    clear HG HS0
    by_cases hlt : k < L
    · obtain ⟨id, hid⟩ : ∃ p, ids[k]? = some p := ⟨_, List.getElem?_eq_getElem (by rw [HL.out]; exact hlt)⟩
      have hidn := HLT.out id (List.mem_of_getElem? hid)
      have hcl := takeL_len cl (ids.take k)
      rw [List.length_take] at hcl
      have hnext : ids.take (k + 1) = ids.take k ++ [id] := by
        obtain ⟨h1, h2⟩ := List.getElem?_eq_some_iff.1 hid
        rw [List.take_add_one, hid]; rfl
      obtain ⟨bk, o, rfl, hbk, hcell⟩ : ∃ bk o, av = some ⟨bk, o, none⟩ ∧ bk < W.heap.size ∧ W.cell? ⟨bk, o + k, none⟩ = some (.int .i64 (id : Int)) := by
        rcases HV.out.val with ⟨_, e2⟩ | ⟨bk, o, c, e, _, _, h3, h4⟩
        · rw [HL.out] at e2; omega
        · simp only [Value.slice.injEq] at e
          exact ⟨bk, o, e.1, h3, h4 k _ (by rw [List.getElem?_map, hid]; rfl)⟩
      obtain ⟨hnb, hsame⟩ := hS.out bk o cv rfl
      obtain ⟨⟨cs3, hkind⟩, _⟩ := HK.out bk o cv (by rw [HL.out])
      have hrd : wr.cell? ⟨bk, o + k, none⟩ = some (.int .i64 (id : Int)) := (World.cell?_of_block hsame).trans hcell
      have NX : Hid (takeL cl (ids.take (k + 1)) = if (takeL cl (ids.take k)).contains id then takeL cl (ids.take k) else takeL cl (ids.take k) ++ [id]) := by rw [Hid, hnext, takeL_snoc]
      have HSM : Hid (wr.heap[bk]? = W.heap[bk]?) := hsame
      have HKD : Hid (W.heap[bk]? = some (.cells cs3 3 (0, 0))) := hkind
      generalize takeL cl (ids.take k) = ce at *
      have h1 := hG.out.hs
      have h2 := hG.out.hg
      have h3 := hG.out.hc
      have s0 := cell_of_row wr bs 0 _ _ _ h1
      have q0 := cell_of_row wr gs id _ _ _ h2
      have qf := frozen_of_row wr gs id _ _ h2
      have t0 := cell_of_row wr bc 0 _ _ _ h3
      have tf := frozen_of_row wr bc 0 _ _ h3
      rw [List.getElem?_toArray, seen_at n ce id hidn] at q0
      simp only [List.getElem?_toArray, List.getElem?_cons_zero] at s0 t0
      have bne1 : ¬ bs = gs := fun e => by rw [e, h2] at h1; simp at h1
      have bne2 : ¬ bc = gs := fun e => by rw [e, h2] at h3; simp at h3
      have bne3 : ¬ bs = bc := fun e => by rw [e, h3] at h1; simp at h1
      obtain ⟨ae, ce2, rfl⟩ := ownv hG.out.own
      have hWs : N ≤ wr.heap.size := Nat.le_trans hG.out.ls (Nat.le_of_lt (Array.getElem?_eq_some_iff.1 h1).1)
      have hidI : (id : Int) < (n : Int) := by omega
      clear hid hnext hcell hkind hsame h1 h2 h3
      cases hq : ce.contains id with
      | true =>
        rw [hq] at q0
        have E1 : Hid (takeL cl (ids.take (k + 1)) = ce) := by rw [Hid, NX.out, hq]; rfl
        clear NX hq
        go_wp2
        go_roundw
        case rel => exact ⟨k + 1, _, by go_num, by omega, by rw [E1.out]; exact hG, hS, hB⟩
        case measure => simp [intOf]; omega
      | false =>
        rw [hq] at q0
        have E1 : Hid (takeL cl (ids.take (k + 1)) = ce ++ [id]) := by rw [Hid, NX.out, hq]; rfl
        clear NX hq
        have O1 : Hid ((wr.setCell ⟨gs, id, none⟩ (.bool true)).ownsRow N 3 1 (.slice ae ce.length ce2) ce.length (ce.map numV)) := hG.out.own.kept (grown_set wr gs id _) (row_kind_ne hG.out.own hG.out.hg (by decide))
        go_wp2_with (at_builtin; refine wpList_append_own_at _ rfl _ _ 60 rfl N 3 i0 (.int .i64 0) 1 8 Try.underlying60 hi hz0 hz1 hz2 rfl (by decide) (.slice ae ce.length ce2) ce.length (ce.map numV) rfl (O1.out.alloc _) ⟨wr.heap.size, 0, none⟩ 1 1 [.int .i64 (id : Int)] rfl rfl ?c1 ?c2 ?c3 ?c4 ?c5 ?_)
        case c1 => intro j u hj; rw [addr_add]; cases j with
          | zero => simp at hj; subst hj; simp [go_sem]
          | succ j => simp at hj
        case c2 => intro u hu; simp at hu; subst hu; rfl
        case c3 => unfold maxLen; omega
        case c4 => omega
        case c5 => simp; omega
        · intro v' w5 hown' hgrow _ hloc
          obtain ⟨av', cv', rfl⟩ := ownv hown'
          obtain ⟨q1, q2, q3, q4, q5⟩ := hG.out.next hidn hgrow hown'
          have z0 := cell_of_row w5 bc 0 _ _ _ q3
          have zf := frozen_of_row w5 bc 0 _ _ q3
          simp only [List.getElem?_toArray, List.getElem?_cons_zero] at z0
          have Q3 : Hid _ := q3
          have QG : Hid (GSt (w5.setCell ⟨bc, 0, none⟩ (.slice av' (ce.length + 1) cv')) N bs bc gs n (.slice av' (ce.length + 1) cv') (ce ++ [id])) := q4
          have HGRX : Hid (wr.heap.size ≤ w5.heap.size ∧ ∀ k < wr.heap.size, k ≠ gs → some k ≠ (Value.slice ae ce.length ce2).ownBlock → w5.heap[k]? = wr.heap[k]?) := ⟨q1, q2⟩
          have hw5 := q5 W hB.out
          have hbk2 : bk < wr.heap.size := (Array.getElem?_eq_some_iff.1 (HSM.out.trans HKD.out)).1
          have hbc3 : bk ≠ bc := fun e => by have h9 := hG.out.hc; rw [← e, HSM.out, HKD.out] at h9; simp at h9
          have hgs3 : bk ≠ gs := fun e => by have h9 := hG.out.hg; rw [← e, HSM.out, HKD.out] at h9; simp at h9
          have HSX : Hid (∀ bk' o' cap, (Value.slice (some ⟨bk, o, none⟩) L cv) = .slice (some ⟨bk', o', none⟩) L cap → (Value.slice av' (ce.length + 1) cv').ownBlock ≠ some bk' ∧ (w5.setCell ⟨bc, 0, none⟩ (.slice av' (ce.length + 1) cv')).heap[bk']? = W.heap[bk']?) := by
            intro bk' o' cap e
            simp only [Value.slice.injEq, Option.some.injEq, Addr.mk.injEq] at e
            obtain ⟨⟨rfl, rfl, _⟩, _, _⟩ := e
            refine ⟨?_, ((heap_setCell_other _ _ _ _ hbc3).trans (q2 bk hbk2 hgs3 (fun e => hnb e.symm))).trans HSM.out⟩
            rcases hloc with e | e
            · rw [e]; exact hnb
            · rw [e]; simp; omega
          have HB5 : Hid (Below N W (w5.setCell ⟨bc, 0, none⟩ (.slice av' (ce.length + 1) cv'))) := hw5
          clear q1 q2 q3 q4 q5 hown' hgrow hloc O1 hw5
          go_wp2
          go_roundw
          case rel => exact ⟨k + 1, _, by go_num, by omega, by rw [E1.out]; exact QG, HSX, HB5⟩
          case measure => simp [intOf]; omega
    · have hkk : ¬ (k : Int) < (L : Int) := by omega
      have hkL : ids.take k = ids := List.take_of_length_le (by rw [HL.out]; omega)
      rw [hkL] at hG
      go_wp2
      exact bodyPost_end (results_none rfl _ _ _) rfl ⟨rfl, ⟨_, hG.out⟩, hB.out⟩
end Go.Proofs.Ythnoeibapiaceaa
