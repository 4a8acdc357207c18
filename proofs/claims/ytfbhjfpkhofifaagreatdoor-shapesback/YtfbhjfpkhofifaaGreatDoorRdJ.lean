/- The walk of package shapes' readLines. -/
import Derived.Test.YtfbhjfpkhofifaaGreatDoorRdI
namespace Go.Proofs.YtfbhjfpkhofifaaGreatDoor
open Go.RowKit

theorem step_le {st st' : Nat} {c c' : Cls} {l : List UInt8} (h : stepC st c l = some (st', c')) : st' ≤ 8 := by
  have hm : ∀ {c c' : Cls} {st' : Nat}, stepM c l = some (st', c') → st' ≤ 8 := fun {c c' st'} h => by
    unfold stepM at h
    split at h
    · cases h; omega
    · split at h
      · cases h; omega
      · cases h
  unfold stepC at h
  split at h
  · split at h <;> cases h; omega
  split at h
  · split at h <;> cases h; omega
  split at h
  · split at h
    · cases h; omega
    · split at h <;> cases h; omega
  split at h
  · split at h <;> cases h; omega
  split at h
  · exact hm h
  split at h
  · split at h <;> cases h; omega
  split at h
  · split at h <;> cases h; omega
  split at h
  · split at h
    · cases h; omega
    · exact hm h
  · cases h

def nilS : Value := .slice none 0 0
theorem row_zero (w : World) (N : Nat) (h : N ≤ w.heap.size) : RowC w N nilS nilS zeroC [] w.heap.size := ⟨h, Nat.le_refl _, World.ownsRow_nil _ _ _ _, rfl, World.ownsRow_nil _ _ _ _, fun p hp => (by cases hp), fun p hp => (by cases hp)⟩
theorem row_mono {w : World} {N N' e s : Nat} {v : Value} {n : Nat} {xs : List Value} (h : w.ownsRow N e s v n xs) (hn : N' ≤ N) : w.ownsRow N' e s v n xs := by
  refine ⟨h.1, ?_⟩
  rcases h.2 with h2 | ⟨g, cap, cur, e, hb, r⟩
  · exact .inl h2
  · exact .inr ⟨g, cap, cur, e, Nat.le_trans hn hb, r⟩
theorem RowC.mono {w : World} {N N' : Nat} {vi vm : Value} {c : Cls} {pm : List (Mth × Value)} {B : Nat} (h : RowC w N vi vm c pm B) (hn : N' ≤ N) : RowC w N' vi vm c pm B :=
  ⟨Nat.le_trans hn h.lo, h.hi, row_mono h.ifs hn, h.eq, row_mono h.ms hn, fun p hp => ⟨row_mono (h.old p hp).1 hn, (h.old p hp).2⟩, h.last⟩
/-- what readLines leaves -/
def Lines (W : World) (r : Option Cls × Nat) (e : Ending) (w' : World) : Prop := (match r with
  | (some c, _) => ∃ vi vm pm B, e = .returned (.tuple #[clsV c vi vm, .nilIface]) ∧ RowC w' W.heap.size vi vm c pm B ∧ Fit 8 c 50000
  | (none, n) => ∃ tp a, e = .returned (.tuple #[clsV zeroC nilS nilS, .iface 79 (.agg #[.int .i64 (n : Int), .iface tp (.pointer a)])])) ∧ Below W.heap.size W w'
theorem lines_mono {W : World} {r r' : Option Cls × Nat} {e : Ending} {w' : World} (h : Lines W r e w') (he : r = r') : Lines W r' e w' := he ▸ h
/-- the result's block of six cells is written -/
def set6 (w : World) (b : Nat) (a0 a1 a2 a3 a4 a5 : Value) : World := (((((w.setCell ⟨b, 0, none⟩ a0).setCell ⟨b, 1, none⟩ a1).setCell ⟨b, 2, none⟩ a2).setCell ⟨b, 3, none⟩ a3).setCell ⟨b, 4, none⟩ a4).setCell ⟨b, 5, none⟩ a5
theorem row_set6 {w : World} {N b : Nat} {cs : Array Value} {vi vm : Value} {c : Cls} {pm : List (Mth × Value)} {B : Nat} (h : w.heap[b]? = some (.cells cs 25 (0, 0))) (hr : RowC w N vi vm c pm B) (a0 a1 a2 a3 a4 a5 : Value) : RowC (set6 w b a0 a1 a2 a3 a4 a5) N vi vm c pm B := by
  have st : ∀ (w : World) (cs : Array Value) (k : Nat) (v : Value), w.heap[b]? = some (.cells cs 25 (0, 0)) → RowC w N vi vm c pm B → (w.setCell ⟨b, k, none⟩ v).heap[b]? = some (.cells (cs.setIfInBounds k v) 25 (0, 0)) ∧ RowC (w.setCell ⟨b, k, none⟩ v) N vi vm c pm B := fun w cs k v h hr => ⟨Go.Joins.block_setCell h v, hr.other h (by decide) (by decide) (by decide) (grown_set w b k v)⟩
  obtain ⟨h1, r1⟩ := st _ _ 0 a0 h hr
  obtain ⟨h2, r2⟩ := st _ _ 1 a1 h1 r1
  obtain ⟨h3, r3⟩ := st _ _ 2 a2 h2 r2
  obtain ⟨h4, r4⟩ := st _ _ 3 a3 h3 r3
  obtain ⟨h5, r5⟩ := st _ _ 4 a4 h4 r4
  exact (st _ _ 5 a5 h5 r5).2

set_option maxRecDepth 100000 in
set_option maxHeartbeats 4000000 in
theorem readLines_any (s : ByteArray) (hs : s.size ≤ 40000) (W : World) (hG : GP W) :
    Calls Tryz.prog 43 #[.string s] W fun e w' => Lines W (runL 0 zeroC (cutL 10 s.data.toList) 1) e w' := by
  obtain ⟨RR, hRR⟩ : ∃ r, runL 0 zeroC (cutL 10 s.data.toList) 1 = r := ⟨_, rfl⟩
  have HRR : Hid _ := hRR
  rw [hRR]
  clear hRR
  obtain ⟨Wc, hWc⟩ : ∃ x, x = W.alloc (.cells #[.string ⟨#[]⟩, .string ⟨#[]⟩, .slice none 0 0, .int .i64 0, .int .i64 0, .slice none 0 0] 25) := ⟨_, rfl⟩
  have HWc : Hid (Below W.heap.size W Wc) := by rw [hWc]; exact (Below.refl _ _).alloc (Nat.le_refl _) _
  have hWs : Wc.heap.size = W.heap.size + 1 := by rw [hWc]; simp
  have HRB : Hid (Wc.heap[W.heap.size]? = some (.cells #[.string ⟨#[]⟩, .string ⟨#[]⟩, .slice none 0 0, .int .i64 0, .int .i64 0, .slice none 0 0] 25 (0, 0))) := by rw [hWc]; exact heap_alloc_new W _
  have HG : Hid (GP Wc) := hG.keep HWc.out
  have HWE : Hid (Wc = W.alloc (.cells #[.string ⟨#[]⟩, .string ⟨#[]⟩, .slice none 0 0, .int .i64 0, .int .i64 0, .slice none 0 0] 25)) := hWc
  have RZ : Hid (Rdr (Wc.alloc (.cells #[.int .i64 0, .string ⟨#[]⟩, .string ⟨#[]⟩, .slice none 0 0, .int .i64 0, .int .i64 0, .slice none 0 0] 123)) Wc.heap.size (W.heap.size + 1) 0 zeroC) := ⟨nilS, nilS, [], _, by omega, by rw [← hWs]; exact heap_alloc_new Wc _, row_zero _ _ (by simp)⟩
  clear hG hWc
  go_enter Tryz.func43, Tryz.ntmps43
  go_wp2
  rw [← HWE.out]
  go_loopw [0, 5] (fun tv nv wr => ∃ (T : ByteArray) (n st : Nat) (c : Cls), tv = .string T ∧ nv = .int .i64 n ∧ T.size + n ≤ s.size + 1 ∧ st ≤ 8 ∧ Hid (Rdr wr Wc.heap.size (W.heap.size + 1) st c) ∧ Hid (Fit st c n) ∧ Hid (Below Wc.heap.size Wc wr) ∧ Hid (runL st c (cutL 10 T.data.toList) n = RR)) (fun tv _ _ => match tv with | .string T => T.size | _ => 0)
  case atStart =>
    exact ⟨s, 1, 0, zeroC, rfl, rfl, Nat.le_refl _, by omega, RZ, Fit.zero 1, (Below.refl _ _).alloc (Nat.le_refl _) _, HRR⟩
  case round =>
    obtain ⟨T, n, st, c, rfl, rfl, hTn, hst8, hr, hf, hb, hrun⟩ := hrel
    clear HRR
    have hr0 := hr.out
    obtain ⟨vi, vm, pm, B, hNb, hh, hR⟩ := hr0
    have hlt : W.heap.size + 1 < wr.heap.size := (Array.getElem?_eq_some_iff.1 hh).1
    have c0 := cell_of_row wr (W.heap.size + 1) 0 _ _ _ hh
    by_cases hend : st = 8 ∧ T.size = 0
    · obtain ⟨rfl, hT0⟩ := hend
      obtain rfl : T = ⟨#[]⟩ := bytes_ext (List.length_eq_zero_iff.1 (by rw [bsize]; exact hT0))
      have HE : Hid (RR = (some c, 0)) := by rw [Hid, ← hrun.out]; rfl
      obtain ⟨ia, icap, rfl⟩ := own_slc hR.ifs
      obtain ⟨ma, mcap, rfl⟩ := own_slc hR.ms
      have c1 := cell_of_row wr (W.heap.size + 1) 1 _ _ _ hh
      have c2 := cell_of_row wr (W.heap.size + 1) 2 _ _ _ hh
      have c3 := cell_of_row wr (W.heap.size + 1) 3 _ _ _ hh
      have c4 := cell_of_row wr (W.heap.size + 1) 4 _ _ _ hh
      have c5 := cell_of_row wr (W.heap.size + 1) 5 _ _ _ hh
      have c6 := cell_of_row wr (W.heap.size + 1) 6 _ _ _ hh
      simp only [List.getElem?_toArray, List.getElem?_cons_zero, List.getElem?_cons_succ] at c0 c1 c2 c3 c4 c5 c6
      have rk := (hb.out.block W.heap.size (by omega)).trans HRB.out
      have r0 := cell_of_row wr W.heap.size 0 _ _ _ rk
      have s0 := frozen_of_row wr W.heap.size 0 _ _ rk
      have r1 := cell_of_row wr W.heap.size 1 _ _ _ rk
      have s1 := frozen_of_row wr W.heap.size 1 _ _ rk
      have r2 := cell_of_row wr W.heap.size 2 _ _ _ rk
      have s2 := frozen_of_row wr W.heap.size 2 _ _ rk
      have r3 := cell_of_row wr W.heap.size 3 _ _ _ rk
      have s3 := frozen_of_row wr W.heap.size 3 _ _ rk
      have r4 := cell_of_row wr W.heap.size 4 _ _ _ rk
      have s4 := frozen_of_row wr W.heap.size 4 _ _ rk
      have r5 := cell_of_row wr W.heap.size 5 _ _ _ rk
      have s5 := frozen_of_row wr W.heap.size 5 _ _ rk
      simp only [List.getElem?_toArray, List.getElem?_cons_zero, List.getElem?_cons_succ] at r0 r1 r2 r3 r4 r5
      clear rk
      have HR : Hid _ := hR
      have HF : Hid (Fit 8 c 50000) := ⟨by have := hf.out.ifs; omega, by have := hf.out.ms; omega, fun m hm => (by have := hf.out.code m hm; omega), fun _ h => absurd h (by omega), hf.out.w⟩
      have HRK : Hid _ := (hb.out.block W.heap.size (by omega)).trans HRB.out
      clear hrun hh hR hr hf hTn hst8 hT0
      go_wp2
      refine bodyPost_ret (v := .tuple #[.agg #[.string c.nm, .string c.su, .slice ia c.ifs.length icap, .int .i64 c.fl, .int .i64 c.ld, .slice ma pm.length mcap], .nilIface]) (by simp [results, Tryz.results43, go_sem, *]) rfl ?_
      refine lines_mono ?_ HE.out.symm
      exact ⟨⟨_, _, pm, B, rfl, (row_set6 HRK.out HR.out _ _ _ _ _ _).mono (by omega), HF.out⟩, (below_set (below_set (below_set (below_set (below_set (below_set (Below.step HWc.out hb.out) (Nat.le_refl _) _ _) (Nat.le_refl _) _ _) (Nat.le_refl _) _ _) (Nat.le_refl _) _ _) (Nat.le_refl _) _ _) (Nat.le_refl _) _ _)⟩
    · have hne : ((st : Int) != 8 || !(T.toList.isEmpty)) = true := by
        rw [Lib.toList_data]
        by_cases h8 : st = 8
        · have : T.size ≠ 0 := fun h => hend ⟨h8, h⟩
          have h9 : T.data.toList ≠ [] := fun h => this (by rw [← bsize, h]; rfl)
          cases hq : T.data.toList with
          | nil => exact absurd hq h9
          | cons x r => simp
        · have : ((st : Int) != 8) = true := by rw [bne_iff_ne]; omega
          rw [this]; rfl
      simp only [List.getElem?_toArray, List.getElem?_cons_zero] at c0
      have HC : Hid (∀ w : World, _) := lcut_any T (by unfold maxLen; omega)
      have hct := cut_ten T.data.toList
      rw [bsize] at hct
      have hcond : ((st : Int) != 8) = true ∨ (((st : Int) != 8) = false ∧ T.toList.isEmpty = false) := by
        by_cases h8 : ((st : Int) != 8) = true
        · exact .inl h8
        · have h8' : ((st : Int) != 8) = false := by simpa using h8
          rw [h8'] at hne
          exact .inr ⟨h8', by simpa using hne⟩
      clear hne hend hh hR HC
      by_cases hk : lnN T.data.toList < T.size
      · rw [if_pos hk] at hct
        obtain ⟨A, hA⟩ : ∃ A : ByteArray, A = ⟨(T.data.toList.take (lnN T.data.toList)).toArray⟩ := ⟨_, rfl⟩
        obtain ⟨D, hD⟩ : ∃ D : ByteArray, D = ⟨(T.data.toList.drop (lnN T.data.toList + 1)).toArray⟩ := ⟨_, rfl⟩
        have hAd : A.data.toList = T.data.toList.take (lnN T.data.toList) := by rw [hA]
        have hDd : D.data.toList = T.data.toList.drop (lnN T.data.toList + 1) := by rw [hD]
        have hAs : A.size ≤ 40000 := by rw [hA, mk_size, List.length_take, bsize]; omega
        have hDs : D.size < T.size := by rw [hD, mk_size, List.length_drop, bsize]; omega
        rw [← hAd, ← hDd] at hct
        have hrun2 := hrun.out
        rw [hct, runL_cons (cutL_ne _ _)] at hrun2
        have HC2 : Hid (∀ w : World, Calls Tryz.prog 86 #[.string T, .string ⟨#[10]⟩] w fun e w' => e = .returned (.tuple #[.string A, .string D, .bool true]) ∧ Below w.heap.size w w') := fun w => by
          have := lcut_any T (by unfold maxLen; omega) w
          rw [if_pos hk, if_pos hk, decide_eq_true hk, ← hA, ← hD] at this
          exact this
        have HT : Hid (∀ w1 : World, Below wr.heap.size wr w1 → Calls Tryz.prog 87 #[.pointer (some ⟨W.heap.size + 1, 0, none⟩), .string A] w1 fun e w' => Took Wc (W.heap.size + 1) (stepC st c A.data.toList) e w') := fun w1 h => take_any Wc w1 _ st c A hAs HG.out (Below.step hb.out h) (hr.out.keep h) hst8 hf.out (by omega)
        clear hA hD hAd hDd hct hrun hk
        cases hsx : stepC st c A.data.toList with
        | none =>
          have HE : Hid (RR = (none, n)) := by rw [hsx] at hrun2; exact hrun2.symm
          rw [hsx] at HT
          clear hrun2 hr hf
          rcases hcond with k8 | ⟨k8, kT⟩
          all_goals
            go_wp2_with (first
              | (go_at_call 86; refine (HC2.out _).mono ?_; rintro e w1 ⟨rfl, hb1⟩; obtain ⟨o1, otp, oa, oc⟩ := (HG.out.keep (Below.step hb.out hb1)).2.2.2.2.2; have B1 : Hid (Below wr.heap.size wr w1) := hb1; clear hb1 HC2)
              | (go_at_call 87; refine (HT.out _ B1.out).mono ?_; rintro e w2 ⟨⟨er, rfl, tp, a, rfl⟩, hb2⟩; have rk := (hb2.block W.heap.size (by omega)).trans HRB.out; have r0 := cell_of_row w2 W.heap.size 0 _ _ _ rk; have s0 := frozen_of_row w2 W.heap.size 0 _ _ rk; have r1 := cell_of_row w2 W.heap.size 1 _ _ _ rk; have s1 := frozen_of_row w2 W.heap.size 1 _ _ rk; have r2 := cell_of_row w2 W.heap.size 2 _ _ _ rk; have s2 := frozen_of_row w2 W.heap.size 2 _ _ rk; have r3 := cell_of_row w2 W.heap.size 3 _ _ _ rk; have s3 := frozen_of_row w2 W.heap.size 3 _ _ rk; have r4 := cell_of_row w2 W.heap.size 4 _ _ _ rk; have s4 := frozen_of_row w2 W.heap.size 4 _ _ rk; have r5 := cell_of_row w2 W.heap.size 5 _ _ _ rk; have s5 := frozen_of_row w2 W.heap.size 5 _ _ rk; simp only [List.getElem?_toArray, List.getElem?_cons_zero, List.getElem?_cons_succ] at r0 r1 r2 r3 r4 r5; clear rk; have B2 : Hid (Below Wc.heap.size Wc w2) := hb2; clear hb2 HT))
            refine bodyPost_ret (v := .tuple #[.agg #[.string ⟨#[]⟩, .string ⟨#[]⟩, .slice none 0 0, .int .i64 0, .int .i64 0, .slice none 0 0], .iface 79 (.agg #[.int .i64 (n : Int), .iface tp (.pointer a)])]) (by simp [results, Tryz.results43, go_sem, *]) rfl ?_
            refine lines_mono ?_ HE.out.symm
            exact ⟨⟨tp, a, rfl⟩, (below_set (below_set (below_set (below_set (below_set (below_set (Below.step HWc.out B2.out) (Nat.le_refl _) _ _) (Nat.le_refl _) _ _) (Nat.le_refl _) _ _) (Nat.le_refl _) _ _) (Nat.le_refl _) _ _) (Nat.le_refl _) _ _)⟩
        | some p =>
          obtain ⟨st', c'⟩ := p
          have h8' := step_le hsx
          have HF2 : Hid (Fit st' c' (n + 1)) := step_fit hf.out (by rw [bsize]; exact hAs) hsx
          rw [hsx] at HT hrun2
          have HRUN : Hid (runL st' c' (cutL 10 D.data.toList) (n + 1) = RR) := hrun2
          clear hrun2 hr hf hsx
          rcases hcond with k8 | ⟨k8, kT⟩
          all_goals
            go_wp2_with (first
              | (go_at_call 86; refine (HC2.out _).mono ?_; rintro e w1 ⟨rfl, hb1⟩; obtain ⟨o1, otp, oa, oc⟩ := (HG.out.keep (Below.step hb.out hb1)).2.2.2.2.2; have B1 : Hid (Below wr.heap.size wr w1) := hb1; clear hb1 HC2)
              | (go_at_call 87; refine (HT.out _ B1.out).mono ?_; rintro e w2 ⟨⟨er, rfl, rfl, hrd⟩, hb2⟩; have B2 : Hid (Below Wc.heap.size Wc w2) := hb2; have RD : Hid (Rdr w2 Wc.heap.size (W.heap.size + 1) st' c') := hrd; clear hb2 hrd HT))
            go_roundw
            case rel => exact ⟨D, n + 1, st', c', rfl, by go_num, by omega, h8', RD, HF2, B2, HRUN⟩
            case measure => first | exact hDs | (simp; omega)
      · rw [if_neg hk] at hct
        have hrun2 := hrun.out
        rw [hct] at hrun2
        have HE : Hid (RR = (none, n)) := by
          rw [Hid, ← hrun2]
          show (if (st == 8) && (T.data.toList == []) then (some c, 0) else ((none : Option Cls), n)) = _
          rcases hcond with k8 | ⟨k8, kT⟩
          · have : (st == 8) = false := by rw [beq_eq_false_iff_ne]; intro e; rw [e] at k8; simp at k8
            rw [this]; rfl
          · have : (T.data.toList == []) = false := by rw [Lib.toList_data] at kT; cases hq : T.data.toList with | nil => rw [hq] at kT; cases kT | cons x r => rfl
            rw [this, Bool.and_false]; rfl
        have HC2 : Hid (∀ w : World, Calls Tryz.prog 86 #[.string T, .string ⟨#[10]⟩] w fun e w' => e = .returned (.tuple #[.string T, .string ⟨#[]⟩, .bool false]) ∧ Below w.heap.size w w') := fun w => by
          have := lcut_any T (by unfold maxLen; omega) w
          rw [if_neg hk, if_neg hk, decide_eq_false hk] at this
          exact this
        clear hrun2 hr hf hrun hct hk
        rcases hcond with k8 | ⟨k8, kT⟩
        all_goals
          go_wp2_with (go_at_call 86; refine (HC2.out _).mono ?_; rintro e w1 ⟨rfl, hb1⟩; obtain ⟨o1, otp, oa, oc⟩ := (HG.out.keep (Below.step hb.out hb1)).2.2.2.2.2; have rk := ((Below.step hb.out hb1).block W.heap.size (by omega)).trans HRB.out; have r0 := cell_of_row w1 W.heap.size 0 _ _ _ rk; have s0 := frozen_of_row w1 W.heap.size 0 _ _ rk; have r1 := cell_of_row w1 W.heap.size 1 _ _ _ rk; have s1 := frozen_of_row w1 W.heap.size 1 _ _ rk; have r2 := cell_of_row w1 W.heap.size 2 _ _ _ rk; have s2 := frozen_of_row w1 W.heap.size 2 _ _ rk; have r3 := cell_of_row w1 W.heap.size 3 _ _ _ rk; have s3 := frozen_of_row w1 W.heap.size 3 _ _ rk; have r4 := cell_of_row w1 W.heap.size 4 _ _ _ rk; have s4 := frozen_of_row w1 W.heap.size 4 _ _ rk; have r5 := cell_of_row w1 W.heap.size 5 _ _ _ rk; have s5 := frozen_of_row w1 W.heap.size 5 _ _ rk; simp only [List.getElem?_toArray, List.getElem?_cons_zero, List.getElem?_cons_succ] at r0 r1 r2 r3 r4 r5; clear rk; have B1 : Hid (Below Wc.heap.size Wc w1) := Below.step hb.out hb1; clear hb1 HC2)
          refine bodyPost_ret (v := .tuple #[.agg #[.string ⟨#[]⟩, .string ⟨#[]⟩, .slice none 0 0, .int .i64 0, .int .i64 0, .slice none 0 0], .iface 79 (.agg #[.int .i64 (n : Int), .iface otp (.pointer oa)])]) (by simp [results, Tryz.results43, go_sem, *]) rfl ?_
          refine lines_mono ?_ HE.out.symm
          exact ⟨⟨otp, oa, rfl⟩, (below_set (below_set (below_set (below_set (below_set (below_set (Below.step HWc.out B1.out) (Nat.le_refl _) _ _) (Nat.le_refl _) _ _) (Nat.le_refl _) _ _) (Nat.le_refl _) _ _) (Nat.le_refl _) _ _) (Nat.le_refl _) _ _)⟩
end Go.Proofs.YtfbhjfpkhofifaaGreatDoor
