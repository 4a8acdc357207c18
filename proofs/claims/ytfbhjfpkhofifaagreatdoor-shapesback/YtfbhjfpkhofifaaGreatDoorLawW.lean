/- The laws' awake: one text that the document fixes; and plain facts on sound classes. -/
import Derived.Test.YtfbhjfpkhofifaaGreatDoorRdI
import Derived.Test.YtfbhjfpkhofifaaGreatDoorPaA
import Derived.Test.YtfbhjfpkhofifaaGreatDoorRdF
import Derived.Test.YtfbhjfpkhofifaaGreatDoorShpG
namespace Go.Proofs.YtfbhjfpkhofifaaGreatDoor
open Go.RowKit

theorem step_le {st st' : Nat} {c c' : Cls} {l : List UInt8} (h : stepC st c l = some (st', c')) : st' ≤ 8 := by
  have hm : ∀ {c c' : Cls} {st' : Nat}, stepM c l = some (st', c') → st' ≤ 8 := fun {c c' st'} h => by
    unfold stepM at h
    split at h
    · cases h; omega
    · split at h
      · cases h; omega
      · cases h
  unfold stepC at h
  split at h
  · split at h <;> cases h; omega
  split at h
  · split at h <;> cases h; omega
  split at h
  · split at h
    · cases h; omega
    · split at h <;> cases h; omega
  split at h
  · split at h <;> cases h; omega
  split at h
  · exact hm h
  split at h
  · split at h <;> cases h; omega
  split at h
  · split at h <;> cases h; omega
  split at h
  · split at h
    · cases h; omega
    · exact hm h
  · cases h

def nilS : Value := .slice none 0 0
theorem row_zero (w : World) (N : Nat) (h : N ≤ w.heap.size) : RowC w N nilS nilS zeroC [] w.heap.size := ⟨h, Nat.le_refl _, World.ownsRow_nil _ _ _ _, rfl, World.ownsRow_nil _ _ _ _, fun p hp => (by cases hp), fun p hp => (by cases hp)⟩
theorem row_mono {w : World} {N N' e s : Nat} {v : Value} {n : Nat} {xs : List Value} (h : w.ownsRow N e s v n xs) (hn : N' ≤ N) : w.ownsRow N' e s v n xs := by
  refine ⟨h.1, ?_⟩
  rcases h.2 with h2 | ⟨g, cap, cur, e, hb, r⟩
  · exact .inl h2
  · exact .inr ⟨g, cap, cur, e, Nat.le_trans hn hb, r⟩
theorem RowC.mono {w : World} {N N' : Nat} {vi vm : Value} {c : Cls} {pm : List (Mth × Value)} {B : Nat} (h : RowC w N vi vm c pm B) (hn : N' ≤ N) : RowC w N' vi vm c pm B :=
  ⟨Nat.le_trans hn h.lo, h.hi, row_mono h.ifs hn, h.eq, row_mono h.ms hn, fun p hp => ⟨row_mono (h.old p hp).1 hn, (h.old p hp).2⟩, h.last⟩
/-- what readLines leaves -/
def Lines (W : World) (r : Option Cls × Nat) (e : Ending) (w' : World) : Prop := (match r with
  | (some c, _) => ∃ vi vm pm B, e = .returned (.tuple #[clsV c vi vm, .nilIface]) ∧ RowC w' W.heap.size vi vm c pm B ∧ Fit 8 c 50000
  | (none, n) => ∃ tp a, e = .returned (.tuple #[clsV zeroC nilS nilS, .iface 79 (.agg #[.int .i64 (n : Int), .iface tp (.pointer a)])])) ∧ Below W.heap.size W w'
theorem lines_mono {W : World} {r r' : Option Cls × Nat} {e : Ending} {w' : World} (h : Lines W r e w') (he : r = r') : Lines W r' e w' := he ▸ h
/-- the result's block of six cells is written -/
def set6 (w : World) (b : Nat) (a0 a1 a2 a3 a4 a5 : Value) : World := (((((w.setCell ⟨b, 0, none⟩ a0).setCell ⟨b, 1, none⟩ a1).setCell ⟨b, 2, none⟩ a2).setCell ⟨b, 3, none⟩ a3).setCell ⟨b, 4, none⟩ a4).setCell ⟨b, 5, none⟩ a5
theorem row_set6 {w : World} {N b : Nat} {cs : Array Value} {vi vm : Value} {c : Cls} {pm : List (Mth × Value)} {B : Nat} (h : w.heap[b]? = some (.cells cs 25 (0, 0))) (hr : RowC w N vi vm c pm B) (a0 a1 a2 a3 a4 a5 : Value) : RowC (set6 w b a0 a1 a2 a3 a4 a5) N vi vm c pm B := by
  have st : ∀ (w : World) (cs : Array Value) (k : Nat) (v : Value), w.heap[b]? = some (.cells cs 25 (0, 0)) → RowC w N vi vm c pm B → (w.setCell ⟨b, k, none⟩ v).heap[b]? = some (.cells (cs.setIfInBounds k v) 25 (0, 0)) ∧ RowC (w.setCell ⟨b, k, none⟩ v) N vi vm c pm B := fun w cs k v h hr => ⟨Go.Joins.block_setCell h v, hr.other h (by decide) (by decide) (by decide) (grown_set w b k v)⟩
  obtain ⟨h1, r1⟩ := st _ _ 0 a0 h hr
  obtain ⟨h2, r2⟩ := st _ _ 1 a1 h1 r1
  obtain ⟨h3, r3⟩ := st _ _ 2 a2 h2 r2
  obtain ⟨h4, r4⟩ := st _ _ 3 a3 h3 r3
  obtain ⟨h5, r5⟩ := st _ _ 4 a4 h4 r4
  exact (st _ _ 5 a5 h5 r5).2

set_option maxRecDepth 100000 in
set_option maxHeartbeats 4000000 in
theorem readLines_any (s : ByteArray) (hs : s.size ≤ 40000) (W : World) (hG : GP W) :
    Calls Tryz.prog 43 #[.string s] W fun e w' => Lines W (runL 0 zeroC (cutL 10 s.data.toList) 1) e w' := by
  obtain ⟨RR, hRR⟩ : ∃ r, runL 0 zeroC (cutL 10 s.data.toList) 1 = r := ⟨_, rfl⟩
  have HRR : Hid _ := hRR
  rw [hRR]
  clear hRR
  obtain ⟨Wc, hWc⟩ : ∃ x, x = W.alloc (.cells #[.string ⟨#[]⟩, .string ⟨#[]⟩, .slice none 0 0, .int .i64 0, .int .i64 0, .slice none 0 0] 25) := ⟨_, rfl⟩
  have HWc : Hid (Below W.heap.size W Wc) := by rw [hWc]; exact (Below.refl _ _).alloc (Nat.le_refl _) _
  have hWs : Wc.heap.size = W.heap.size + 1 := by rw [hWc]; simp
  have HRB : Hid (Wc.heap[W.heap.size]? = some (.cells #[.string ⟨#[]⟩, .string ⟨#[]⟩, .slice none 0 0, .int .i64 0, .int .i64 0, .slice none 0 0] 25 (0, 0))) := by rw [hWc]; exact heap_alloc_new W _
  have HG : Hid (GP Wc) := hG.keep HWc.out
  have HWE : Hid (Wc = W.alloc (.cells #[.string ⟨#[]⟩, .string ⟨#[]⟩, .slice none 0 0, .int .i64 0, .int .i64 0, .slice none 0 0] 25)) := hWc
  have RZ : Hid (Rdr (Wc.alloc (.cells #[.int .i64 0, .string ⟨#[]⟩, .string ⟨#[]⟩, .slice none 0 0, .int .i64 0, .int .i64 0, .slice none 0 0] 123)) Wc.heap.size (W.heap.size + 1) 0 zeroC) := ⟨nilS, nilS, [], _, by omega, by rw [← hWs]; exact heap_alloc_new Wc _, row_zero _ _ (by simp)⟩
  clear hG hWc
  go_enter Tryz.func43, Tryz.ntmps43
  go_wp2
  rw [← HWE.out]
  go_loopw [0, 5] (fun tv nv wr => ∃ (T : ByteArray) (n st : Nat) (c : Cls), tv = .string T ∧ nv = .int .i64 n ∧ T.size + n ≤ s.size + 1 ∧ st ≤ 8 ∧ Hid (Rdr wr Wc.heap.size (W.heap.size + 1) st c) ∧ Hid (Fit st c n) ∧ Hid (Below Wc.heap.size Wc wr) ∧ Hid (runL st c (cutL 10 T.data.toList) n = RR)) (fun tv _ _ => match tv with | .string T => T.size | _ => 0)
  case atStart =>
    exact ⟨s, 1, 0, zeroC, rfl, rfl, Nat.le_refl _, by omega, RZ, Fit.zero 1, (Below.refl _ _).alloc (Nat.le_refl _) _, HRR⟩
  case round =>
    obtain ⟨T, n, st, c, rfl, rfl, hTn, hst8, hr, hf, hb, hrun⟩ := hrel
    clear HRR
    have hr0 := hr.out
    obtain ⟨vi, vm, pm, B, hNb, hh, hR⟩ := hr0
    have hlt : W.heap.size + 1 < wr.heap.size := (Array.getElem?_eq_some_iff.1 hh).1
    have c0 := cell_of_row wr (W.heap.size + 1) 0 _ _ _ hh
    by_cases hend : st = 8 ∧ T.size = 0
    · obtain ⟨rfl, hT0⟩ := hend
      obtain rfl : T = ⟨#[]⟩ := bytes_ext (List.length_eq_zero_iff.1 (by rw [bsize]; exact hT0))
      have HE : Hid (RR = (some c, 0)) := by rw [Hid, ← hrun.out]; rfl
      obtain ⟨ia, icap, rfl⟩ := own_slc hR.ifs
      obtain ⟨ma, mcap, rfl⟩ := own_slc hR.ms
      have c1 := cell_of_row wr (W.heap.size + 1) 1 _ _ _ hh
      have c2 := cell_of_row wr (W.heap.size + 1) 2 _ _ _ hh
      have c3 := cell_of_row wr (W.heap.size + 1) 3 _ _ _ hh
      have c4 := cell_of_row wr (W.heap.size + 1) 4 _ _ _ hh
      have c5 := cell_of_row wr (W.heap.size + 1) 5 _ _ _ hh
      have c6 := cell_of_row wr (W.heap.size + 1) 6 _ _ _ hh
      simp only [List.getElem?_toArray, List.getElem?_cons_zero, List.getElem?_cons_succ] at c0 c1 c2 c3 c4 c5 c6
      have rk := (hb.out.block W.heap.size (by omega)).trans HRB.out
      have r0 := cell_of_row wr W.heap.size 0 _ _ _ rk
      have s0 := frozen_of_row wr W.heap.size 0 _ _ rk
      have r1 := cell_of_row wr W.heap.size 1 _ _ _ rk
      have s1 := frozen_of_row wr W.heap.size 1 _ _ rk
      have r2 := cell_of_row wr W.heap.size 2 _ _ _ rk
      have s2 := frozen_of_row wr W.heap.size 2 _ _ rk
      have r3 := cell_of_row wr W.heap.size 3 _ _ _ rk
      have s3 := frozen_of_row wr W.heap.size 3 _ _ rk
      have r4 := cell_of_row wr W.heap.size 4 _ _ _ rk
      have s4 := frozen_of_row wr W.heap.size 4 _ _ rk
      have r5 := cell_of_row wr W.heap.size 5 _ _ _ rk
      have s5 := frozen_of_row wr W.heap.size 5 _ _ rk
      simp only [List.getElem?_toArray, List.getElem?_cons_zero, List.getElem?_cons_succ] at r0 r1 r2 r3 r4 r5
      clear rk
      have HR : Hid _ := hR
      have HF : Hid (Fit 8 c 50000) := ⟨by have := hf.out.ifs; omega, by have := hf.out.ms; omega, fun m hm => (by have := hf.out.code m hm; omega), fun _ h => absurd h (by omega), hf.out.w⟩
      have HRK : Hid _ := (hb.out.block W.heap.size (by omega)).trans HRB.out
      clear hrun hh hR hr hf hTn hst8 hT0
      go_wp2
      refine bodyPost_ret (v := .tuple #[.agg #[.string c.nm, .string c.su, .slice ia c.ifs.length icap, .int .i64 c.fl, .int .i64 c.ld, .slice ma pm.length mcap], .nilIface]) (by simp [results, Tryz.results43, go_sem, *]) rfl ?_
      refine lines_mono ?_ HE.out.symm
      exact ⟨⟨_, _, pm, B, rfl, (row_set6 HRK.out HR.out _ _ _ _ _ _).mono (by omega), HF.out⟩, (below_set (below_set (below_set (below_set (below_set (below_set (Below.step HWc.out hb.out) (Nat.le_refl _) _ _) (Nat.le_refl _) _ _) (Nat.le_refl _) _ _) (Nat.le_refl _) _ _) (Nat.le_refl _) _ _) (Nat.le_refl _) _ _)⟩
    · have hne : ((st : Int) != 8 || !(T.toList.isEmpty)) = true := by
        rw [Lib.toList_data]
        by_cases h8 : st = 8
        · have : T.size ≠ 0 := fun h => hend ⟨h8, h⟩
          have h9 : T.data.toList ≠ [] := fun h => this (by rw [← bsize, h]; rfl)
          cases hq : T.data.toList with
          | nil => exact absurd hq h9
          | cons x r => simp
        · have : ((st : Int) != 8) = true := by rw [bne_iff_ne]; omega
          rw [this]; rfl
      simp only [List.getElem?_toArray, List.getElem?_cons_zero] at c0
      have HC : Hid (∀ w : World, _) := lcut_any T (by unfold maxLen; omega)
      have hct := cut_ten T.data.toList
      rw [bsize] at hct
      have hcond : ((st : Int) != 8) = true ∨ (((st : Int) != 8) = false ∧ T.toList.isEmpty = false) := by
        by_cases h8 : ((st : Int) != 8) = true
        · exact .inl h8
        · have h8' : ((st : Int) != 8) = false := by simpa using h8
          rw [h8'] at hne
          exact .inr ⟨h8', by simpa using hne⟩
      clear hne hend hh hR HC
      by_cases hk : lnN T.data.toList < T.size
      · rw [if_pos hk] at hct
        obtain ⟨A, hA⟩ : ∃ A : ByteArray, A = ⟨(T.data.toList.take (lnN T.data.toList)).toArray⟩ := ⟨_, rfl⟩
        obtain ⟨D, hD⟩ : ∃ D : ByteArray, D = ⟨(T.data.toList.drop (lnN T.data.toList + 1)).toArray⟩ := ⟨_, rfl⟩
        have hAd : A.data.toList = T.data.toList.take (lnN T.data.toList) := by rw [hA]
        have hDd : D.data.toList = T.data.toList.drop (lnN T.data.toList + 1) := by rw [hD]
        have hAs : A.size ≤ 40000 := by rw [hA, mk_size, List.length_take, bsize]; omega
        have hDs : D.size < T.size := by rw [hD, mk_size, List.length_drop, bsize]; omega
        rw [← hAd, ← hDd] at hct
        have hrun2 := hrun.out
        rw [hct, runL_cons (cutL_ne _ _)] at hrun2
        have HC2 : Hid (∀ w : World, Calls Tryz.prog 86 #[.string T, .string ⟨#[10]⟩] w fun e w' => e = .returned (.tuple #[.string A, .string D, .bool true]) ∧ Below w.heap.size w w') := fun w => by
          have := lcut_any T (by unfold maxLen; omega) w
          rw [if_pos hk, if_pos hk, decide_eq_true hk, ← hA, ← hD] at this
          exact this
        have HT : Hid (∀ w1 : World, Below wr.heap.size wr w1 → Calls Tryz.prog 87 #[.pointer (some ⟨W.heap.size + 1, 0, none⟩), .string A] w1 fun e w' => Took Wc (W.heap.size + 1) (stepC st c A.data.toList) e w') := fun w1 h => take_any Wc w1 _ st c A hAs HG.out (Below.step hb.out h) (hr.out.keep h) hst8 hf.out (by omega)
        clear hA hD hAd hDd hct hrun hk
        cases hsx : stepC st c A.data.toList with
        | none =>
          have HE : Hid (RR = (none, n)) := by rw [hsx] at hrun2; exact hrun2.symm
          rw [hsx] at HT
          clear hrun2 hr hf
          rcases hcond with k8 | ⟨k8, kT⟩
          all_goals
            go_wp2_with (first
              | (go_at_call 86; refine (HC2.out _).mono ?_; rintro e w1 ⟨rfl, hb1⟩; obtain ⟨o1, otp, oa, oc⟩ := (HG.out.keep (Below.step hb.out hb1)).2.2.2.2.2; have B1 : Hid (Below wr.heap.size wr w1) := hb1; clear hb1 HC2)
              | (go_at_call 87; refine (HT.out _ B1.out).mono ?_; rintro e w2 ⟨⟨er, rfl, tp, a, rfl⟩, hb2⟩; have rk := (hb2.block W.heap.size (by omega)).trans HRB.out; have r0 := cell_of_row w2 W.heap.size 0 _ _ _ rk; have s0 := frozen_of_row w2 W.heap.size 0 _ _ rk; have r1 := cell_of_row w2 W.heap.size 1 _ _ _ rk; have s1 := frozen_of_row w2 W.heap.size 1 _ _ rk; have r2 := cell_of_row w2 W.heap.size 2 _ _ _ rk; have s2 := frozen_of_row w2 W.heap.size 2 _ _ rk; have r3 := cell_of_row w2 W.heap.size 3 _ _ _ rk; have s3 := frozen_of_row w2 W.heap.size 3 _ _ rk; have r4 := cell_of_row w2 W.heap.size 4 _ _ _ rk; have s4 := frozen_of_row w2 W.heap.size 4 _ _ rk; have r5 := cell_of_row w2 W.heap.size 5 _ _ _ rk; have s5 := frozen_of_row w2 W.heap.size 5 _ _ rk; simp only [List.getElem?_toArray, List.getElem?_cons_zero, List.getElem?_cons_succ] at r0 r1 r2 r3 r4 r5; clear rk; have B2 : Hid (Below Wc.heap.size Wc w2) := hb2; clear hb2 HT))
            refine bodyPost_ret (v := .tuple #[.agg #[.string ⟨#[]⟩, .string ⟨#[]⟩, .slice none 0 0, .int .i64 0, .int .i64 0, .slice none 0 0], .iface 79 (.agg #[.int .i64 (n : Int), .iface tp (.pointer a)])]) (by simp [results, Tryz.results43, go_sem, *]) rfl ?_
            refine lines_mono ?_ HE.out.symm
            exact ⟨⟨tp, a, rfl⟩, (below_set (below_set (below_set (below_set (below_set (below_set (Below.step HWc.out B2.out) (Nat.le_refl _) _ _) (Nat.le_refl _) _ _) (Nat.le_refl _) _ _) (Nat.le_refl _) _ _) (Nat.le_refl _) _ _) (Nat.le_refl _) _ _)⟩
        | some p =>
          obtain ⟨st', c'⟩ := p
          have h8' := step_le hsx
          have HF2 : Hid (Fit st' c' (n + 1)) := step_fit hf.out (by rw [bsize]; exact hAs) hsx
          rw [hsx] at HT hrun2
          have HRUN : Hid (runL st' c' (cutL 10 D.data.toList) (n + 1) = RR) := hrun2
          clear hrun2 hr hf hsx
          rcases hcond with k8 | ⟨k8, kT⟩
          all_goals
            go_wp2_with (first
              | (go_at_call 86; refine (HC2.out _).mono ?_; rintro e w1 ⟨rfl, hb1⟩; obtain ⟨o1, otp, oa, oc⟩ := (HG.out.keep (Below.step hb.out hb1)).2.2.2.2.2; have B1 : Hid (Below wr.heap.size wr w1) := hb1; clear hb1 HC2)
              | (go_at_call 87; refine (HT.out _ B1.out).mono ?_; rintro e w2 ⟨⟨er, rfl, rfl, hrd⟩, hb2⟩; have B2 : Hid (Below Wc.heap.size Wc w2) := hb2; have RD : Hid (Rdr w2 Wc.heap.size (W.heap.size + 1) st' c') := hrd; clear hb2 hrd HT))
            go_roundw
            case rel => exact ⟨D, n + 1, st', c', rfl, by go_num, by omega, h8', RD, HF2, B2, HRUN⟩
            case measure => first | exact hDs | (simp; omega)
      · rw [if_neg hk] at hct
        have hrun2 := hrun.out
        rw [hct] at hrun2
        have HE : Hid (RR = (none, n)) := by
          rw [Hid, ← hrun2]
          show (if (st == 8) && (T.data.toList == []) then (some c, 0) else ((none : Option Cls), n)) = _
          rcases hcond with k8 | ⟨k8, kT⟩
          · have : (st == 8) = false := by rw [beq_eq_false_iff_ne]; intro e; rw [e] at k8; simp at k8
            rw [this]; rfl
          · have : (T.data.toList == []) = false := by rw [Lib.toList_data] at kT; cases hq : T.data.toList with | nil => rw [hq] at kT; cases kT | cons x r => rfl
            rw [this, Bool.and_false]; rfl
        have HC2 : Hid (∀ w : World, Calls Tryz.prog 86 #[.string T, .string ⟨#[10]⟩] w fun e w' => e = .returned (.tuple #[.string T, .string ⟨#[]⟩, .bool false]) ∧ Below w.heap.size w w') := fun w => by
          have := lcut_any T (by unfold maxLen; omega) w
          rw [if_neg hk, if_neg hk, decide_eq_false hk] at this
          exact this
        clear hrun2 hr hf hrun hct hk
        rcases hcond with k8 | ⟨k8, kT⟩
        all_goals
          go_wp2_with (go_at_call 86; refine (HC2.out _).mono ?_; rintro e w1 ⟨rfl, hb1⟩; obtain ⟨o1, otp, oa, oc⟩ := (HG.out.keep (Below.step hb.out hb1)).2.2.2.2.2; have rk := ((Below.step hb.out hb1).block W.heap.size (by omega)).trans HRB.out; have r0 := cell_of_row w1 W.heap.size 0 _ _ _ rk; have s0 := frozen_of_row w1 W.heap.size 0 _ _ rk; have r1 := cell_of_row w1 W.heap.size 1 _ _ _ rk; have s1 := frozen_of_row w1 W.heap.size 1 _ _ rk; have r2 := cell_of_row w1 W.heap.size 2 _ _ _ rk; have s2 := frozen_of_row w1 W.heap.size 2 _ _ rk; have r3 := cell_of_row w1 W.heap.size 3 _ _ _ rk; have s3 := frozen_of_row w1 W.heap.size 3 _ _ rk; have r4 := cell_of_row w1 W.heap.size 4 _ _ _ rk; have s4 := frozen_of_row w1 W.heap.size 4 _ _ rk; have r5 := cell_of_row w1 W.heap.size 5 _ _ _ rk; have s5 := frozen_of_row w1 W.heap.size 5 _ _ rk; simp only [List.getElem?_toArray, List.getElem?_cons_zero, List.getElem?_cons_succ] at r0 r1 r2 r3 r4 r5; clear rk; have B1 : Hid (Below Wc.heap.size Wc w1) := Below.step hb.out hb1; clear hb1 HC2)
          refine bodyPost_ret (v := .tuple #[.agg #[.string ⟨#[]⟩, .string ⟨#[]⟩, .slice none 0 0, .int .i64 0, .int .i64 0, .slice none 0 0], .iface 79 (.agg #[.int .i64 (n : Int), .iface otp (.pointer oa)])]) (by simp [results, Tryz.results43, go_sem, *]) rfl ?_
          refine lines_mono ?_ HE.out.symm
          exact ⟨⟨otp, oa, rfl⟩, (below_set (below_set (below_set (below_set (below_set (below_set (Below.step HWc.out B1.out) (Nat.le_refl _) _ _) (Nat.le_refl _) _ _) (Nat.le_refl _) _ _) (Nat.le_refl _) _ _) (Nat.le_refl _) _ _) (Nat.le_refl _) _ _)⟩


/-- the type that package errors looks for -/
def Hnd (w : World) : Prop := 1 < w.heap.size ∧ w.cell? ⟨1, 0, none⟩ = some (.iface 172 (.agg #[.pointer (some ⟨14, 75, none⟩)]))
theorem Hnd.keep {w w' : World} (h : Hnd w) (hb : Below w.heap.size w w') : Hnd w' := ⟨Nat.lt_of_lt_of_le h.1 hb.size, (hb.cell h.1).trans h.2⟩
theorem as_hit_w (t : Nat) (x y u0 u1 : Value) (hx : x.oneCell' = true) (hy : y.oneCell' = true) (w : World) (hg : Hnd w) (h0 : w.cell? ⟨t, 0, none⟩ = some u0) (h1 : w.cell? ⟨t, 1, none⟩ = some u1) (f0 : w.frozen? ⟨t, 0, none⟩ = false) (f1 : w.frozen? ⟨t, 1, none⟩ = false) :
    Calls Tryz.prog 44 #[.iface 79 (.agg #[x, y]), .iface 81 (.pointer (some ⟨t, 0, none⟩))] w fun ev w' => ev = .returned (.bool true) ∧ w'.cell? ⟨t, 0, none⟩ = some x ∧ Below t w w' := by
  have htl : t < w.heap.size := by
    rcases Nat.lt_or_ge t w.heap.size with h | h
    · exact h
    · simp [World.cell?, Array.getElem?_eq_none h] at h0
  refine (as_hit t x y u0 u1 hx hy w hg.2 h0 h1 f0 f1).mono fun ev w' ⟨he, hw⟩ => ⟨he, ?_, ?_⟩
  · rw [hw]
    rw [World.cell?_setCell_other _ _ _ _ (by simp)]
    generalize hU : (((w.alloc (.cells #[.pointer (some ⟨t, 0, none⟩)] 81)).alloc (.cells #[.pointer (some ⟨14, 81, none⟩), .pointer (some ⟨w.heap.size, 0, none⟩), .int .u64 150] 130)).alloc (.cells #[.pointer (some ⟨14, 81, none⟩), .pointer (some ⟨w.heap.size, 0, none⟩), .int .u64 150] 130)).alloc (.cells #[x, y] 79) = U
    have hc : U.cell? ⟨t, 0, none⟩ = some u0 := by
      rw [← hU, World.cell?_alloc_lt _ _ ⟨t, 0, none⟩ (by simp; omega), World.cell?_alloc_lt _ _ ⟨t, 0, none⟩ (by simp; omega), World.cell?_alloc_lt _ _ ⟨t, 0, none⟩ (by simp; omega), World.cell?_alloc_lt _ _ ⟨t, 0, none⟩ htl]; exact h0
    exact World.cell?_setCell_same U ⟨t, 0, none⟩ x hc
  · rw [hw]
    have hz := Nat.le_of_lt htl
    exact (((((Below.refl _ _).alloc hz _).alloc (by simp; omega) _).alloc (by simp; omega) _).alloc (by simp; omega) _).setCell (Nat.le_refl _) _ |>.setCell (Nat.le_refl _) _

theorem set6_heap {w : World} {b : Nat} {x0 x1 x2 x3 x4 x5 : Value} (h : w.heap[b]? = some (.cells #[x0, x1, x2, x3, x4, x5] 25 (0, 0))) (a0 a1 a2 a3 a4 a5 : Value) : (set6 w b a0 a1 a2 a3 a4 a5).heap[b]? = some (.cells #[a0, a1, a2, a3, a4, a5] 25 (0, 0)) := by
  have h0 := Go.Joins.block_setCell (i := 0) h a0
  have h1 := Go.Joins.block_setCell (i := 1) h0 a1
  have h2 := Go.Joins.block_setCell (i := 2) h1 a2
  have h3 := Go.Joins.block_setCell (i := 3) h2 a3
  have h4 := Go.Joins.block_setCell (i := 4) h3 a4
  exact Go.Joins.block_setCell (i := 5) h4 a5
theorem set6_below {W w : World} (h : Below W.heap.size W w) (a0 a1 a2 a3 a4 a5 : Value) : Below W.heap.size W (set6 w W.heap.size a0 a1 a2 a3 a4 a5) := (below_set (below_set (below_set (below_set (below_set (below_set h (Nat.le_refl _) _ _) (Nat.le_refl _) _ _) (Nat.le_refl _) _ _) (Nat.le_refl _) _ _) (Nat.le_refl _) _ _) (Nat.le_refl _) _ _)
theorem set6_size (w : World) (b : Nat) (a0 a1 a2 a3 a4 a5 : Value) : (set6 w b a0 a1 a2 a3 a4 a5).heap.size = w.heap.size := by simp [set6]
/-- what Parse leaves -/
def PRes (W : World) (P : Cls × Nat × Int) (e : Ending) (w' : World) : Prop := ∃ vi vm pm B, e = .returned (.tuple #[clsV P.1 vi vm, .int .i64 (P.2.1 : Int), .int .i64 P.2.2]) ∧ RowC w' W.heap.size vi vm P.1 pm B ∧ ClsW P.1 ∧ Below W.heap.size W w'
theorem pres_zero {W w' : World} {n : Nat} {x : Int} (hb : Below W.heap.size W w') : PRes W (zeroC, n, x) (.returned (.tuple #[.agg #[.string ⟨#[]⟩, .string ⟨#[]⟩, .slice none 0 0, .int .i64 0, .int .i64 0, .slice none 0 0], .int .i64 (n : Int), .int .i64 x])) w' := ⟨nilS, nilS, [], _, rfl, row_zero w' _ hb.size, (Fit.zero 0).w, hb⟩
set_option maxRecDepth 100000 in
set_option maxHeartbeats 1000000 in
theorem parse_large (s : ByteArray) (hs : 40000 < s.size) (W : World) : Calls Tryz.prog 16 #[.string s] W fun e w' => PRes W (zeroC, 0, 5) e w' := by
  have h1 : (40000 : Int) < (s.size : Int) := by omega
  obtain ⟨Wc, hWc⟩ : ∃ x, x = W.alloc (.cells #[.string ⟨#[]⟩, .string ⟨#[]⟩, .slice none 0 0, .int .i64 0, .int .i64 0, .slice none 0 0] 25) := ⟨_, rfl⟩
  have HWc : Hid (Below W.heap.size W Wc) := by rw [hWc]; exact (Below.refl _ _).alloc (Nat.le_refl _) _
  have hWs : Wc.heap.size = W.heap.size + 1 := by rw [hWc]; simp
  have HRB : Hid (Wc.heap[W.heap.size]? = some (.cells #[.string ⟨#[]⟩, .string ⟨#[]⟩, .slice none 0 0, .int .i64 0, .int .i64 0, .slice none 0 0] 25 (0, 0))) := by rw [hWc]; exact heap_alloc_new W _
  have HWE : Hid (Wc = W.alloc (.cells #[.string ⟨#[]⟩, .string ⟨#[]⟩, .slice none 0 0, .int .i64 0, .int .i64 0, .slice none 0 0] 25)) := hWc
  clear hWc
  have rk := HRB.out
  have r0 := cell_of_row Wc W.heap.size 0 _ _ _ rk
  have s0 := frozen_of_row Wc W.heap.size 0 _ _ rk
  have r1 := cell_of_row Wc W.heap.size 1 _ _ _ rk
  have s1 := frozen_of_row Wc W.heap.size 1 _ _ rk
  have r2 := cell_of_row Wc W.heap.size 2 _ _ _ rk
  have s2 := frozen_of_row Wc W.heap.size 2 _ _ rk
  have r3 := cell_of_row Wc W.heap.size 3 _ _ _ rk
  have s3 := frozen_of_row Wc W.heap.size 3 _ _ rk
  have r4 := cell_of_row Wc W.heap.size 4 _ _ _ rk
  have s4 := frozen_of_row Wc W.heap.size 4 _ _ rk
  have r5 := cell_of_row Wc W.heap.size 5 _ _ _ rk
  have s5 := frozen_of_row Wc W.heap.size 5 _ _ rk
  simp only [List.getElem?_toArray, List.getElem?_cons_zero, List.getElem?_cons_succ] at r0 r1 r2 r3 r4 r5
  go_enter Tryz.func16, Tryz.ntmps16
  go_wp2
  exact bodyPost_ret (v := .tuple #[.agg #[.string ⟨#[]⟩, .string ⟨#[]⟩, .slice none 0 0, .int .i64 0, .int .i64 0, .slice none 0 0], .int .i64 ((0 : Nat) : Int), .int .i64 5]) (by simp [results, Tryz.results16, go_sem, *]) rfl (pres_zero ((Below.refl _ _).alloc (Nat.le_refl _) _))

set_option maxRecDepth 100000 in
set_option maxHeartbeats 2000000 in
theorem parse_fault (s : ByteArray) (hs : s.size ≤ 40000) (W : World) (hH : Hnd W) (n : Nat) (HL : ∀ w, Below W.heap.size W w → Calls Tryz.prog 43 #[.string s] w fun e w' => (∃ tp a, e = .returned (.tuple #[.agg #[.string ⟨#[]⟩, .string ⟨#[]⟩, .slice none 0 0, .int .i64 0, .int .i64 0, .slice none 0 0], .iface 79 (.agg #[.int .i64 (n : Int), .iface tp (.pointer a)])])) ∧ Below w.heap.size w w') :
    Calls Tryz.prog 16 #[.string s] W fun e w' => PRes W (zeroC, n, 4) e w' := by
  have h1 : ¬ (40000 : Int) < (s.size : Int) := by omega
  have HL : Hid (∀ w : World, _ → _) := HL
  have HH : Hid (Hnd W) := hH
  obtain ⟨Wc, hWc⟩ : ∃ x, x = W.alloc (.cells #[.string ⟨#[]⟩, .string ⟨#[]⟩, .slice none 0 0, .int .i64 0, .int .i64 0, .slice none 0 0] 25) := ⟨_, rfl⟩
  have HWc : Hid (Below W.heap.size W Wc) := by rw [hWc]; exact (Below.refl _ _).alloc (Nat.le_refl _) _
  have hWs : Wc.heap.size = W.heap.size + 1 := by rw [hWc]; simp
  have HRB : Hid (Wc.heap[W.heap.size]? = some (.cells #[.string ⟨#[]⟩, .string ⟨#[]⟩, .slice none 0 0, .int .i64 0, .int .i64 0, .slice none 0 0] 25 (0, 0))) := by rw [hWc]; exact heap_alloc_new W _
  have HWE : Hid (Wc = W.alloc (.cells #[.string ⟨#[]⟩, .string ⟨#[]⟩, .slice none 0 0, .int .i64 0, .int .i64 0, .slice none 0 0] 25)) := hWc
  clear hWc
  clear hH
  go_enter Tryz.func16, Tryz.ntmps16
  go_wp2_with (first
    | (go_at_call 43; rw [← HWE.out]; refine (HL.out _ HWc.out).mono ?_; rintro e w1 ⟨⟨tp, a, rfl⟩, hb1⟩; have rk := (hb1.block W.heap.size (by omega)).trans HRB.out; have r0 := cell_of_row w1 W.heap.size 0 _ _ _ rk; have s0 := frozen_of_row w1 W.heap.size 0 _ _ rk; have r1 := cell_of_row w1 W.heap.size 1 _ _ _ rk; have s1 := frozen_of_row w1 W.heap.size 1 _ _ rk; have r2 := cell_of_row w1 W.heap.size 2 _ _ _ rk; have s2 := frozen_of_row w1 W.heap.size 2 _ _ rk; have r3 := cell_of_row w1 W.heap.size 3 _ _ _ rk; have s3 := frozen_of_row w1 W.heap.size 3 _ _ rk; have r4 := cell_of_row w1 W.heap.size 4 _ _ _ rk; have s4 := frozen_of_row w1 W.heap.size 4 _ _ rk; have r5 := cell_of_row w1 W.heap.size 5 _ _ _ rk; have s5 := frozen_of_row w1 W.heap.size 5 _ _ rk; simp only [List.getElem?_toArray, List.getElem?_cons_zero, List.getElem?_cons_succ] at r0 r1 r2 r3 r4 r5; have RK : Hid _ := rk; have hs1 := hb1.size; have B1 : Hid (Below Wc.heap.size Wc w1) := hb1; clear rk hb1 HL)
    | (go_at_call 44; have hvb := set6_below (Below.step HWc.out B1.out) (.string ⟨#[]⟩) (.string ⟨#[]⟩) (.slice none 0 0) (.int .i64 0) (.int .i64 0) (.slice none 0 0); have hvh := set6_heap RK.out (.string ⟨#[]⟩) (.string ⟨#[]⟩) (.slice none 0 0) (.int .i64 0) (.int .i64 0) (.slice none 0 0); have hvs := set6_size w1 W.heap.size (.string ⟨#[]⟩) (.string ⟨#[]⟩) (.slice none 0 0) (.int .i64 0) (.int .i64 0) (.slice none 0 0); have hnew : ((set6 w1 W.heap.size (.string ⟨#[]⟩) (.string ⟨#[]⟩) (.slice none 0 0) (.int .i64 0) (.int .i64 0) (.slice none 0 0)).alloc (.cells #[.int .i64 0, .nilIface] 79)).heap[w1.heap.size]? = some (.cells #[.int .i64 0, .nilIface] 79 (0, 0)) := (by rw [← hvs]; exact heap_alloc_new _ _); refine (as_hit_w w1.heap.size (.int .i64 (n : Int)) (.iface tp (.pointer a)) (.int .i64 0) .nilIface rfl rfl ((set6 w1 W.heap.size (.string ⟨#[]⟩) (.string ⟨#[]⟩) (.slice none 0 0) (.int .i64 0) (.int .i64 0) (.slice none 0 0)).alloc (.cells #[.int .i64 0, .nilIface] 79)) (HH.out.keep (hvb.alloc hvb.size _)) (cell_of_row _ _ 0 _ _ _ hnew) (cell_of_row _ _ 1 _ _ _ hnew) (frozen_of_row _ _ 0 _ _ hnew) (frozen_of_row _ _ 1 _ _ hnew)).mono ?_; rintro e w3 ⟨rfl, hc3, hb3⟩; have rk := (hb3.block W.heap.size (by omega)).trans (((World.grownBy_alloc (set6 w1 W.heap.size (.string ⟨#[]⟩) (.string ⟨#[]⟩) (.slice none 0 0) (.int .i64 0) (.int .i64 0) (.slice none 0 0)) (.cells #[.int .i64 0, .nilIface] 79) none).block W.heap.size (by omega) (by simp)).trans hvh); have B3 : Hid (Below W.heap.size W w3) := (hvb.alloc hvb.size _).trans (hb3.mono (by omega)); clear r0 r1 r2 r3 r4 r5 s0 s1 s2 s3 s4 s5 hvb hvh hvs hb3 hnew; have r0 := cell_of_row w3 W.heap.size 0 _ _ _ rk; have s0 := frozen_of_row w3 W.heap.size 0 _ _ rk; have r1 := cell_of_row w3 W.heap.size 1 _ _ _ rk; have s1 := frozen_of_row w3 W.heap.size 1 _ _ rk; have r2 := cell_of_row w3 W.heap.size 2 _ _ _ rk; have s2 := frozen_of_row w3 W.heap.size 2 _ _ rk; have r3 := cell_of_row w3 W.heap.size 3 _ _ _ rk; have s3 := frozen_of_row w3 W.heap.size 3 _ _ rk; have r4 := cell_of_row w3 W.heap.size 4 _ _ _ rk; have s4 := frozen_of_row w3 W.heap.size 4 _ _ rk; have r5 := cell_of_row w3 W.heap.size 5 _ _ _ rk; have s5 := frozen_of_row w3 W.heap.size 5 _ _ rk; simp only [List.getElem?_toArray, List.getElem?_cons_zero, List.getElem?_cons_succ] at r0 r1 r2 r3 r4 r5; clear rk))
  have hn1 : ¬ w1.heap.size = W.heap.size := by omega
  have hn2 : ¬ W.heap.size = w1.heap.size := by omega
  go_region
  go_wp2
  exact bodyPost_ret (v := .tuple #[.agg #[.string ⟨#[]⟩, .string ⟨#[]⟩, .slice none 0 0, .int .i64 0, .int .i64 0, .slice none 0 0], .int .i64 (n : Int), .int .i64 4]) (by simp [results, Tryz.results16, go_sem, *]) rfl (pres_zero ((below_set (below_set (below_set (below_set (below_set (below_set B3.out (Nat.le_refl _) _ _) (Nat.le_refl _) _ _) (Nat.le_refl _) _ _) (Nat.le_refl _) _ _) (Nat.le_refl _) _ _) (Nat.le_refl _) _ _)).drew)

set_option maxRecDepth 100000 in
set_option maxHeartbeats 2000000 in
theorem parse_form (s : ByteArray) (hs : s.size ≤ 40000) (W : World) (c : Cls) (hw : ClsW c) (hx : clsE c = 1) (HL : ∀ w, Below W.heap.size W w → Calls Tryz.prog 43 #[.string s] w fun e w' => (∃ vi vm pm B, e = .returned (.tuple #[clsV c vi vm, .nilIface]) ∧ RowC w' w.heap.size vi vm c pm B) ∧ Below w.heap.size w w') :
    Calls Tryz.prog 16 #[.string s] W fun e w' => PRes W (zeroC, 0, 1) e w' := by
  have h1 : ¬ (40000 : Int) < (s.size : Int) := by omega
  have HL : Hid (∀ w : World, _ → _) := HL
  have HK : Hid (∀ (vi vm : Value) (w : World), IsStrs w vi c.ifs → IsMths w vm c.ms → Calls Tryz.prog 8 #[clsV c vi vm] w fun e w' => e = .returned (.int .i64 1) ∧ Below w.heap.size w w') := fun vi vm w h2 h3 => by rw [← hx]; exact checkW_any c vi vm w h2 h3 hw
  have HWW : Hid (ClsW c) := hw
  clear hw hx
  obtain ⟨Wc, hWc⟩ : ∃ x, x = W.alloc (.cells #[.string ⟨#[]⟩, .string ⟨#[]⟩, .slice none 0 0, .int .i64 0, .int .i64 0, .slice none 0 0] 25) := ⟨_, rfl⟩
  have HWc : Hid (Below W.heap.size W Wc) := by rw [hWc]; exact (Below.refl _ _).alloc (Nat.le_refl _) _
  have hWs : Wc.heap.size = W.heap.size + 1 := by rw [hWc]; simp
  have HRB : Hid (Wc.heap[W.heap.size]? = some (.cells #[.string ⟨#[]⟩, .string ⟨#[]⟩, .slice none 0 0, .int .i64 0, .int .i64 0, .slice none 0 0] 25 (0, 0))) := by rw [hWc]; exact heap_alloc_new W _
  have HWE : Hid (Wc = W.alloc (.cells #[.string ⟨#[]⟩, .string ⟨#[]⟩, .slice none 0 0, .int .i64 0, .int .i64 0, .slice none 0 0] 25)) := hWc
  clear hWc
  go_enter Tryz.func16, Tryz.ntmps16
  go_wp2_with (first
    | (go_at_call 43; rw [← HWE.out]; refine (HL.out _ HWc.out).mono ?_; rintro e w1 ⟨⟨vi, vm, pm, B, rfl, hR⟩, hb1⟩; obtain ⟨ia, icap, rfl⟩ := own_slc hR.ifs; obtain ⟨ma, mcap, rfl⟩ := own_slc hR.ms; simp only [clsV]; have rk := (hb1.block W.heap.size (by omega)).trans HRB.out; have r0 := cell_of_row w1 W.heap.size 0 _ _ _ rk; have s0 := frozen_of_row w1 W.heap.size 0 _ _ rk; have r1 := cell_of_row w1 W.heap.size 1 _ _ _ rk; have s1 := frozen_of_row w1 W.heap.size 1 _ _ rk; have r2 := cell_of_row w1 W.heap.size 2 _ _ _ rk; have s2 := frozen_of_row w1 W.heap.size 2 _ _ rk; have r3 := cell_of_row w1 W.heap.size 3 _ _ _ rk; have s3 := frozen_of_row w1 W.heap.size 3 _ _ rk; have r4 := cell_of_row w1 W.heap.size 4 _ _ _ rk; have s4 := frozen_of_row w1 W.heap.size 4 _ _ rk; have r5 := cell_of_row w1 W.heap.size 5 _ _ _ rk; have s5 := frozen_of_row w1 W.heap.size 5 _ _ rk; simp only [List.getElem?_toArray, List.getElem?_cons_zero, List.getElem?_cons_succ] at r0 r1 r2 r3 r4 r5; have RK : Hid _ := rk; have HR1 : Hid _ := hR; have hs1 := hb1.size; have B1 : Hid (Below Wc.heap.size Wc w1) := hb1; clear rk hb1 HL hR)
    | (go_at_call 44; refine (as_nil _ _).mono ?_; rintro e w9 ⟨rfl, hw9⟩; have hvb := set6_below (Below.step HWc.out B1.out) (.string c.nm) (.string c.su) (.slice ia c.ifs.length icap) (.int .i64 c.fl) (.int .i64 c.ld) (.slice ma pm.length mcap); have hvh := set6_heap RK.out (.string c.nm) (.string c.su) (.slice ia c.ifs.length icap) (.int .i64 c.fl) (.int .i64 c.ld) (.slice ma pm.length mcap); have hvs := set6_size w1 W.heap.size (.string c.nm) (.string c.su) (.slice ia c.ifs.length icap) (.int .i64 c.fl) (.int .i64 c.ld) (.slice ma pm.length mcap); have hRU : RowC ((set6 w1 W.heap.size (.string c.nm) (.string c.su) (.slice ia c.ifs.length icap) (.int .i64 c.fl) (.int .i64 c.ld) (.slice ma pm.length mcap)).alloc (.cells #[.int .i64 0, .nilIface] 79)) Wc.heap.size (.slice ia c.ifs.length icap) (.slice ma pm.length mcap) c pm B := (row_set6 RK.out HR1.out (.string c.nm) (.string c.su) (.slice ia c.ifs.length icap) (.int .i64 c.fl) (.int .i64 c.ld) (.slice ma pm.length mcap)).below ((Below.refl _ _).alloc (Nat.le_refl _) _); have rk : w9.heap[W.heap.size]? = some (.cells #[.string c.nm, .string c.su, .slice ia c.ifs.length icap, .int .i64 c.fl, .int .i64 c.ld, .slice ma pm.length mcap] 25 (0, 0)) := (by rw [hw9]; exact ((World.grownBy_alloc (set6 w1 W.heap.size (.string c.nm) (.string c.su) (.slice ia c.ifs.length icap) (.int .i64 c.fl) (.int .i64 c.ld) (.slice ma pm.length mcap)) (.cells #[.int .i64 0, .nilIface] 79) none).block W.heap.size (by omega) (by simp)).trans hvh); have B9 : Hid (Below W.heap.size W w9) := (by rw [hw9]; exact hvb.alloc hvb.size _); have HR9 : Hid (RowC w9 Wc.heap.size (.slice ia c.ifs.length icap) (.slice ma pm.length mcap) c pm B) := (by rw [hw9]; exact hRU); have hs9 : w9.heap.size = w1.heap.size + 1 := (by rw [hw9]; simp); clear hw9 r0 r1 r2 r3 r4 r5 s0 s1 s2 s3 s4 s5 hvb hvh hvs hRU; have r0 := cell_of_row w9 W.heap.size 0 _ _ _ rk; have s0 := frozen_of_row w9 W.heap.size 0 _ _ rk; have r1 := cell_of_row w9 W.heap.size 1 _ _ _ rk; have s1 := frozen_of_row w9 W.heap.size 1 _ _ rk; have r2 := cell_of_row w9 W.heap.size 2 _ _ _ rk; have s2 := frozen_of_row w9 W.heap.size 2 _ _ rk; have r3 := cell_of_row w9 W.heap.size 3 _ _ _ rk; have s3 := frozen_of_row w9 W.heap.size 3 _ _ rk; have r4 := cell_of_row w9 W.heap.size 4 _ _ _ rk; have s4 := frozen_of_row w9 W.heap.size 4 _ _ rk; have r5 := cell_of_row w9 W.heap.size 5 _ _ _ rk; have s5 := frozen_of_row w9 W.heap.size 5 _ _ rk; simp only [List.getElem?_toArray, List.getElem?_cons_zero, List.getElem?_cons_succ] at r0 r1 r2 r3 r4 r5; have RK9 : Hid _ := rk; clear rk)
    | (go_at_call 8; refine (HK.out _ _ w9 (own_strs HR9.out.ifs) HR9.out.mths).mono ?_; rintro e w3 ⟨rfl, hb3⟩; have rk := (hb3.block W.heap.size (by omega)).trans RK9.out; have B3 : Hid (Below W.heap.size W w3) := Below.step B9.out hb3; have HR3 : Hid (RowC w3 Wc.heap.size (.slice ia c.ifs.length icap) (.slice ma pm.length mcap) c pm B) := HR9.out.below hb3; clear r0 r1 r2 r3 r4 r5 s0 s1 s2 s3 s4 s5 hb3 HK; have r0 := cell_of_row w3 W.heap.size 0 _ _ _ rk; have s0 := frozen_of_row w3 W.heap.size 0 _ _ rk; have r1 := cell_of_row w3 W.heap.size 1 _ _ _ rk; have s1 := frozen_of_row w3 W.heap.size 1 _ _ rk; have r2 := cell_of_row w3 W.heap.size 2 _ _ _ rk; have s2 := frozen_of_row w3 W.heap.size 2 _ _ rk; have r3 := cell_of_row w3 W.heap.size 3 _ _ _ rk; have s3 := frozen_of_row w3 W.heap.size 3 _ _ rk; have r4 := cell_of_row w3 W.heap.size 4 _ _ _ rk; have s4 := frozen_of_row w3 W.heap.size 4 _ _ rk; have r5 := cell_of_row w3 W.heap.size 5 _ _ _ rk; have s5 := frozen_of_row w3 W.heap.size 5 _ _ rk; simp only [List.getElem?_toArray, List.getElem?_cons_zero, List.getElem?_cons_succ] at r0 r1 r2 r3 r4 r5; have RK3 : Hid _ := rk; clear rk))
  exact bodyPost_ret (v := .tuple #[.agg #[.string ⟨#[]⟩, .string ⟨#[]⟩, .slice none 0 0, .int .i64 0, .int .i64 0, .slice none 0 0], .int .i64 ((0 : Nat) : Int), .int .i64 1]) (by simp [results, Tryz.results16, go_sem, *]) rfl (pres_zero (below_set (below_set (below_set (below_set (below_set (below_set B3.out (Nat.le_refl _) _ _) (Nat.le_refl _) _ _) (Nat.le_refl _) _ _) (Nat.le_refl _) _ _) (Nat.le_refl _) _ _) (Nat.le_refl _) _ _))

set_option maxRecDepth 100000 in
set_option maxHeartbeats 2000000 in
theorem parse_ok (s : ByteArray) (hs : s.size ≤ 40000) (W : World) (c : Cls) (hw : ClsW c) (hx : clsE c = 0) (HL : ∀ w, Below W.heap.size W w → Calls Tryz.prog 43 #[.string s] w fun e w' => (∃ vi vm pm B, e = .returned (.tuple #[clsV c vi vm, .nilIface]) ∧ RowC w' w.heap.size vi vm c pm B) ∧ Below w.heap.size w w') :
    Calls Tryz.prog 16 #[.string s] W fun e w' => PRes W (c, 0, 0) e w' := by
  have h1 : ¬ (40000 : Int) < (s.size : Int) := by omega
  have HL : Hid (∀ w : World, _ → _) := HL
  have HK : Hid (∀ (vi vm : Value) (w : World), IsStrs w vi c.ifs → IsMths w vm c.ms → Calls Tryz.prog 8 #[clsV c vi vm] w fun e w' => e = .returned (.int .i64 0) ∧ Below w.heap.size w w') := fun vi vm w h2 h3 => by rw [← hx]; exact checkW_any c vi vm w h2 h3 hw
  have HWW : Hid (ClsW c) := hw
  clear hw hx
  obtain ⟨Wc, hWc⟩ : ∃ x, x = W.alloc (.cells #[.string ⟨#[]⟩, .string ⟨#[]⟩, .slice none 0 0, .int .i64 0, .int .i64 0, .slice none 0 0] 25) := ⟨_, rfl⟩
  have HWc : Hid (Below W.heap.size W Wc) := by rw [hWc]; exact (Below.refl _ _).alloc (Nat.le_refl _) _
  have hWs : Wc.heap.size = W.heap.size + 1 := by rw [hWc]; simp
  have HRB : Hid (Wc.heap[W.heap.size]? = some (.cells #[.string ⟨#[]⟩, .string ⟨#[]⟩, .slice none 0 0, .int .i64 0, .int .i64 0, .slice none 0 0] 25 (0, 0))) := by rw [hWc]; exact heap_alloc_new W _
  have HWE : Hid (Wc = W.alloc (.cells #[.string ⟨#[]⟩, .string ⟨#[]⟩, .slice none 0 0, .int .i64 0, .int .i64 0, .slice none 0 0] 25)) := hWc
  clear hWc
  go_enter Tryz.func16, Tryz.ntmps16
  go_wp2_with (first
    | (go_at_call 43; rw [← HWE.out]; refine (HL.out _ HWc.out).mono ?_; rintro e w1 ⟨⟨vi, vm, pm, B, rfl, hR⟩, hb1⟩; obtain ⟨ia, icap, rfl⟩ := own_slc hR.ifs; obtain ⟨ma, mcap, rfl⟩ := own_slc hR.ms; simp only [clsV]; have rk := (hb1.block W.heap.size (by omega)).trans HRB.out; have r0 := cell_of_row w1 W.heap.size 0 _ _ _ rk; have s0 := frozen_of_row w1 W.heap.size 0 _ _ rk; have r1 := cell_of_row w1 W.heap.size 1 _ _ _ rk; have s1 := frozen_of_row w1 W.heap.size 1 _ _ rk; have r2 := cell_of_row w1 W.heap.size 2 _ _ _ rk; have s2 := frozen_of_row w1 W.heap.size 2 _ _ rk; have r3 := cell_of_row w1 W.heap.size 3 _ _ _ rk; have s3 := frozen_of_row w1 W.heap.size 3 _ _ rk; have r4 := cell_of_row w1 W.heap.size 4 _ _ _ rk; have s4 := frozen_of_row w1 W.heap.size 4 _ _ rk; have r5 := cell_of_row w1 W.heap.size 5 _ _ _ rk; have s5 := frozen_of_row w1 W.heap.size 5 _ _ rk; simp only [List.getElem?_toArray, List.getElem?_cons_zero, List.getElem?_cons_succ] at r0 r1 r2 r3 r4 r5; have RK : Hid _ := rk; have HR1 : Hid _ := hR; have hs1 := hb1.size; have B1 : Hid (Below Wc.heap.size Wc w1) := hb1; clear rk hb1 HL hR)
    | (go_at_call 44; refine (as_nil _ _).mono ?_; rintro e w9 ⟨rfl, hw9⟩; have hvb := set6_below (Below.step HWc.out B1.out) (.string c.nm) (.string c.su) (.slice ia c.ifs.length icap) (.int .i64 c.fl) (.int .i64 c.ld) (.slice ma pm.length mcap); have hvh := set6_heap RK.out (.string c.nm) (.string c.su) (.slice ia c.ifs.length icap) (.int .i64 c.fl) (.int .i64 c.ld) (.slice ma pm.length mcap); have hvs := set6_size w1 W.heap.size (.string c.nm) (.string c.su) (.slice ia c.ifs.length icap) (.int .i64 c.fl) (.int .i64 c.ld) (.slice ma pm.length mcap); have hRU : RowC ((set6 w1 W.heap.size (.string c.nm) (.string c.su) (.slice ia c.ifs.length icap) (.int .i64 c.fl) (.int .i64 c.ld) (.slice ma pm.length mcap)).alloc (.cells #[.int .i64 0, .nilIface] 79)) Wc.heap.size (.slice ia c.ifs.length icap) (.slice ma pm.length mcap) c pm B := (row_set6 RK.out HR1.out (.string c.nm) (.string c.su) (.slice ia c.ifs.length icap) (.int .i64 c.fl) (.int .i64 c.ld) (.slice ma pm.length mcap)).below ((Below.refl _ _).alloc (Nat.le_refl _) _); have rk : w9.heap[W.heap.size]? = some (.cells #[.string c.nm, .string c.su, .slice ia c.ifs.length icap, .int .i64 c.fl, .int .i64 c.ld, .slice ma pm.length mcap] 25 (0, 0)) := (by rw [hw9]; exact ((World.grownBy_alloc (set6 w1 W.heap.size (.string c.nm) (.string c.su) (.slice ia c.ifs.length icap) (.int .i64 c.fl) (.int .i64 c.ld) (.slice ma pm.length mcap)) (.cells #[.int .i64 0, .nilIface] 79) none).block W.heap.size (by omega) (by simp)).trans hvh); have B9 : Hid (Below W.heap.size W w9) := (by rw [hw9]; exact hvb.alloc hvb.size _); have HR9 : Hid (RowC w9 Wc.heap.size (.slice ia c.ifs.length icap) (.slice ma pm.length mcap) c pm B) := (by rw [hw9]; exact hRU); have hs9 : w9.heap.size = w1.heap.size + 1 := (by rw [hw9]; simp); clear hw9 r0 r1 r2 r3 r4 r5 s0 s1 s2 s3 s4 s5 hvb hvh hvs hRU; have r0 := cell_of_row w9 W.heap.size 0 _ _ _ rk; have s0 := frozen_of_row w9 W.heap.size 0 _ _ rk; have r1 := cell_of_row w9 W.heap.size 1 _ _ _ rk; have s1 := frozen_of_row w9 W.heap.size 1 _ _ rk; have r2 := cell_of_row w9 W.heap.size 2 _ _ _ rk; have s2 := frozen_of_row w9 W.heap.size 2 _ _ rk; have r3 := cell_of_row w9 W.heap.size 3 _ _ _ rk; have s3 := frozen_of_row w9 W.heap.size 3 _ _ rk; have r4 := cell_of_row w9 W.heap.size 4 _ _ _ rk; have s4 := frozen_of_row w9 W.heap.size 4 _ _ rk; have r5 := cell_of_row w9 W.heap.size 5 _ _ _ rk; have s5 := frozen_of_row w9 W.heap.size 5 _ _ rk; simp only [List.getElem?_toArray, List.getElem?_cons_zero, List.getElem?_cons_succ] at r0 r1 r2 r3 r4 r5; have RK9 : Hid _ := rk; clear rk)
    | (go_at_call 8; refine (HK.out _ _ w9 (own_strs HR9.out.ifs) HR9.out.mths).mono ?_; rintro e w3 ⟨rfl, hb3⟩; have rk := (hb3.block W.heap.size (by omega)).trans RK9.out; have B3 : Hid (Below W.heap.size W w3) := Below.step B9.out hb3; have HR3 : Hid (RowC w3 Wc.heap.size (.slice ia c.ifs.length icap) (.slice ma pm.length mcap) c pm B) := HR9.out.below hb3; clear r0 r1 r2 r3 r4 r5 s0 s1 s2 s3 s4 s5 hb3 HK; have r0 := cell_of_row w3 W.heap.size 0 _ _ _ rk; have s0 := frozen_of_row w3 W.heap.size 0 _ _ rk; have r1 := cell_of_row w3 W.heap.size 1 _ _ _ rk; have s1 := frozen_of_row w3 W.heap.size 1 _ _ rk; have r2 := cell_of_row w3 W.heap.size 2 _ _ _ rk; have s2 := frozen_of_row w3 W.heap.size 2 _ _ rk; have r3 := cell_of_row w3 W.heap.size 3 _ _ _ rk; have s3 := frozen_of_row w3 W.heap.size 3 _ _ rk; have r4 := cell_of_row w3 W.heap.size 4 _ _ _ rk; have s4 := frozen_of_row w3 W.heap.size 4 _ _ rk; have r5 := cell_of_row w3 W.heap.size 5 _ _ _ rk; have s5 := frozen_of_row w3 W.heap.size 5 _ _ rk; simp only [List.getElem?_toArray, List.getElem?_cons_zero, List.getElem?_cons_succ] at r0 r1 r2 r3 r4 r5; have RK3 : Hid _ := rk; clear rk))
  exact bodyPost_ret (v := .tuple #[.agg #[.string c.nm, .string c.su, .slice ia c.ifs.length icap, .int .i64 c.fl, .int .i64 c.ld, .slice ma pm.length mcap], .int .i64 ((0 : Nat) : Int), .int .i64 0]) (by simp [results, Tryz.results16, go_sem, *]) rfl ⟨_, _, pm, B, rfl, (row_set6 RK3.out HR3.out _ _ _ _ _ _).mono (by omega), HWW.out, (below_set (below_set (below_set (below_set (below_set (below_set B3.out (Nat.le_refl _) _ _) (Nat.le_refl _) _ _) (Nat.le_refl _) _ _) (Nat.le_refl _) _ _) (Nat.le_refl _) _ _) (Nat.le_refl _) _ _)⟩
theorem cut_mem_len (c : UInt8) (l : List UInt8) : ∀ p ∈ cutL c l, p.length ≤ l.length := by
  induction l with
  | nil => intro p hp; simp [cutL] at hp; subst hp; simp
  | cons x l ih =>
    intro p hp
    rw [cutL] at hp
    split at hp
    · rcases List.mem_cons.1 hp with rfl | hp
      · simp
      · have := ih p hp; simp; omega
    · split at hp
      · rename_i h; exact absurd h (cutL_ne c l)
      · rename_i q r h
        rcases List.mem_cons.1 hp with rfl | hp
        · have := ih q (by rw [h]; simp); simp; omega
        · have := ih p (by rw [h]; exact List.mem_cons_of_mem _ hp); simp; omega
theorem run_fit {L : List (List UInt8)} : ∀ {st n k K : Nat} {c c' : Cls}, Fit st c K → (∀ l ∈ L, l.length ≤ 40000) → runL st c L n = (some c', k) → ClsW c' := by
  induction L with
  | nil => intro st n k K c c' _ _ h; cases h
  | cons l r ih =>
    intro st n k K c c' hf hl h
    cases r with
    | nil =>
      have h' : (if (st == 8) && (l == []) then (some c, 0) else ((none : Option Cls), n)) = (some c', k) := h
      split at h'
      · cases h'; exact hf.w
      · cases h'
    | cons x r =>
      rw [runL_cons (by simp)] at h
      cases hs : stepC st c l with
      | none => rw [hs] at h; cases h
      | some p =>
        obtain ⟨st', c1⟩ := p
        rw [hs] at h
        exact ih (step_fit hf (hl l (by simp)) hs) (fun y hy => hl y (List.mem_cons_of_mem _ hy)) h

/-- Parse of package shapes -/
theorem oParse5_any (s : ByteArray) (W : World) (hG : GP W) (hH : Hnd W) : Calls Tryz.prog 16 #[.string s] W fun e w' => PRes W (parC s.data.toList) e w' := by
  by_cases hs : s.size ≤ 40000
  · have e0 : parC s.data.toList = match runL 0 zeroC (cutL 10 s.data.toList) 1 with
      | (none, n) => (zeroC, n, 4)
      | (some c, _) => if clsB c then (c, 0, 0) else (zeroC, 0, 1) := by rw [parC, if_neg (by rw [bsize]; omega)]; try rfl
    rw [e0]
    have HL := fun (w : World) (h : Below W.heap.size W w) => readLines_any s hs w (hG.keep h)
    cases hr : runL 0 zeroC (cutL 10 s.data.toList) 1 with
    | mk o n =>
      rw [hr] at HL
      cases o with
      | none => exact parse_fault s hs W hH n (fun w h => (HL w h).mono fun e w' ⟨⟨tp, a, h1⟩, h2⟩ => ⟨⟨tp, a, h1⟩, h2⟩)
      | some c =>
        have hw := run_fit (Fit.zero 0) (fun l hl => Nat.le_trans (cut_mem_len 10 _ l hl) (by rw [bsize]; exact hs)) hr
        have HL2 : ∀ w, Below W.heap.size W w → Calls Tryz.prog 43 #[.string s] w fun e w' => (∃ vi vm pm B, e = .returned (.tuple #[clsV c vi vm, .nilIface]) ∧ RowC w' w.heap.size vi vm c pm B) ∧ Below w.heap.size w w' := fun w h => (HL w h).mono fun e w' ⟨⟨vi, vm, pm, B, h1, h2, _⟩, h3⟩ => ⟨⟨vi, vm, pm, B, h1, h2⟩, h3⟩
        cases hb : clsB c with
        | false =>
          simp only [hb]
          exact parse_form s hs W c hw (by rw [clsE, hb]; rfl) HL2
        | true =>
          simp only [hb]
          exact parse_ok s hs W c hw (by rw [clsE, hb]; rfl) HL2
  · have e0 : parC s.data.toList = (zeroC, 0, 5) := by rw [parC, if_pos (by rw [bsize]; omega)]
    rw [e0]
    exact parse_large s (by omega) W


theorem sameI_refl (i : Ins) : sameI i i = true := by simp [sameI, sameRefB]
theorem sameL_refl (l : List Ins) : sameL l l = true := by
  induction l with
  | nil => rfl
  | cons x l ih => rw [sameL, sameI_refl, ih]; rfl
theorem sameM_refl (m : Mth) : sameM m m = true := by simp [sameM, sameL_refl]

set_option maxRecDepth 100000 in
set_option maxHeartbeats 4000000 in
theorem rSame_eq (c : Cls) (vi vm ui um : Value) (W : World) (hi : IsStrs W vi c.ifs) (hm : IsMths W vm c.ms) (ki : IsStrs W ui c.ifs) (km : IsMths W um c.ms) :
    Calls Tryz.prog 18 #[clsV c vi vm, clsV c ui um] W fun e w' => e = .returned (.bool true) ∧ Below W.heap.size W w' := by
  have HS : Hid (∀ w', Below W.heap.size W w' → Calls Tryz.prog 50 #[vi, ui] w' fun e w'' => e = .returned (.bool true) ∧ Below w'.heap.size w' w'') := fun w' h => by
    have := same_all vi ui c.ifs c.ifs w' (hi.keep h) (ki.keep h)
    rw [decide_eq_true rfl] at this
    exact this
  have HM : Hid (∀ (m : Mth) (va vb : Value) (w' : World), Below W.heap.size W w' → IsInss W va m.code → IsInss W vb m.code → Calls Tryz.prog 51 #[.agg #[.string m.nm, .string m.ds, .int .i64 m.fl, .int .i64 m.lo, .int .i64 m.st, va], .agg #[.string m.nm, .string m.ds, .int .i64 m.fl, .int .i64 m.lo, .int .i64 m.st, vb]] w' fun e w'' => e = .returned (.bool true) ∧ Below w'.heap.size w' w'') := fun m va vb w' h h1 h2 => by
    have := rSameMethod_any m m va vb w' (h1.keep h) (h2.keep h)
    rw [sameM_refl] at this
    exact this
  obtain ⟨ai, capi, rfl, _, _, _⟩ := hi
  obtain ⟨am, capm, rfl, m1, m2, m3⟩ := hm
  obtain ⟨bi, copi, rfl, _, _, _⟩ := ki
  obtain ⟨bm, copm, rfl, n1, n2, n3⟩ := km
  have HMA : Hid _ := m3
  have HNA : Hid _ := n3
  unfold maxLen at m2 n2
  clear m3 n3
  obtain ⟨nm, su, ifs, fl, ld, ms⟩ := c
  simp only [clsV] at *
  obtain ⟨M, hM⟩ : ∃ M, ms.length = M := ⟨_, rfl⟩
  rw [hM] at m1 n1 ⊢
  have HL : Hid (ms.length = M) := hM
  clear hM
  generalize ifs.length = K at *
  have k1 : (fl != fl) = false := by simp
  have k2 : (ld != ld) = false := by simp
  have k3 : (nm.toList == nm.toList) = true := by simp
  have k4 : (su.toList == su.toList) = true := by simp
  have k5 : ((M : Int) != (M : Int)) = false := by simp
  obtain ⟨Wc, hWc⟩ : ∃ x, x = (W.alloc (.cells #[.string nm, .string su, .slice ai K capi, .int .i64 fl, .int .i64 ld, .slice am M capm] 25)).alloc (.cells #[.string nm, .string su, .slice bi K copi, .int .i64 fl, .int .i64 ld, .slice bm M copm] 25) := ⟨_, rfl⟩
  have HWc : Hid (Below W.heap.size W Wc) := by rw [hWc]; exact ((Below.refl _ _).alloc (Nat.le_refl _) _).alloc (by simp) _
  have HCc : Hid (CB Wc W.heap.size nm su (.slice ai K capi) fl ld (.slice am M capm)) := by rw [hWc]; exact ⟨by simp; omega, by simp [go_sem], by simp [go_sem], by simp [go_sem], by simp [go_sem], by simp [go_sem], by simp [go_sem]⟩
  have HCd : Hid (CB Wc (W.heap.size + 1) nm su (.slice bi K copi) fl ld (.slice bm M copm)) := by rw [hWc]; exact ⟨by simp, by simp [go_sem], by simp [go_sem], by simp [go_sem], by simp [go_sem], by simp [go_sem], by simp [go_sem]⟩
  have HWE : Hid (Wc = (W.alloc (.cells #[.string nm, .string su, .slice ai K capi, .int .i64 fl, .int .i64 ld, .slice am M capm] 25)).alloc (.cells #[.string nm, .string su, .slice bi K copi, .int .i64 fl, .int .i64 ld, .slice bm M copm] 25)) := hWc
  clear hWc
  go_enter Tryz.func18, Tryz.ntmps18
  go_wp2_with (go_at_call 50; rw [← HWE.out]; refine (HS.out _ HWc.out).mono ?_; rintro e w1 ⟨rfl, hb1⟩; have B1 : Hid (Below Wc.heap.size Wc w1) := hb1; obtain ⟨g9, g0, g1, g2, g3, g4, g5⟩ := HCc.out.keep hb1; obtain ⟨f9, f0, f1, f2, f3, f4, f5⟩ := HCd.out.keep hb1; clear hb1 HWE HS)
  clear g0 g1 g2 g3 g4 g5 g9 f0 f1 f2 f3 f4 f5 f9
  go_loopw [5] (fun iv wr => ∃ k : Nat, iv = .int .i64 k ∧ k ≤ M ∧ Hid (Below Wc.heap.size Wc wr)) (fun iv _ => M - (intOf iv).toNat)
  case atStart => exact ⟨0, rfl, Nat.zero_le _, B1⟩
  case round =>
    obtain ⟨k, rfl, hk, hb⟩ := hrel
    clear B1
    obtain ⟨g9, g0, g1, g2, g3, g4, g5⟩ := HCc.out.keep hb.out
    obtain ⟨f9, f0, f1, f2, f3, f4, f5⟩ := HCd.out.keep hb.out
    by_cases hlt : k < M
    · obtain ⟨bk, o, hao, hbk, hc⟩ := HMA.out (by intro e; have := HL.out; rw [e] at this; simp at this; omega)
      obtain ⟨dk, q, hdo, hdk, hd⟩ := HNA.out (by intro e; have := HL.out; rw [e] at this; simp at this; omega)
      obtain ⟨x, hx⟩ : ∃ x, ms[k]? = some x := ⟨_, List.getElem?_eq_getElem (by rw [HL.out]; exact hlt)⟩
      subst hao hdo
      have hcx := hc k x hx
      have hdx := hd k x hx
      have HM2 := HM.out x
      obtain ⟨xn, xd, xf, xl, xs, xc⟩ := x
      obtain ⟨p0, p1, p2, p3, p4, vc, p5, hI⟩ := hcx
      obtain ⟨r0, r1, r2, r3, r4, uc, r5, hJ⟩ := hdx
      simp only at p0 p1 p2 p3 p4 p5 hI r0 r1 r2 r3 r4 r5 hJ HM2
      have HM3 : Hid (∀ w', Below W.heap.size W w' → _) := fun w' h => HM2 vc uc w' h hI hJ
      obtain ⟨va, vcap, rfl, v1, v2, _⟩ := hI
      obtain ⟨ua, ucap, rfl, u1, u2, _⟩ := hJ
      have keepc : ∀ (bk j : Nat) (v : Value), bk < W.heap.size → W.cell? ⟨bk, j, none⟩ = some v → wr.cell? ⟨bk, j, none⟩ = some v := fun bk j v hbk h => (hb.out.cell (p := ⟨bk, j, none⟩) (Nat.lt_of_lt_of_le hbk HWc.out.size)).trans ((HWc.out.cell (p := ⟨bk, j, none⟩) hbk).trans h)
      replace p0 := keepc bk _ _ hbk p0
      replace p1 := keepc bk _ _ hbk p1
      replace p2 := keepc bk _ _ hbk p2
      replace p3 := keepc bk _ _ hbk p3
      replace p4 := keepc bk _ _ hbk p4
      replace p5 := keepc bk _ _ hbk p5
      replace r0 := keepc dk _ _ hdk r0
      replace r1 := keepc dk _ _ hdk r1
      replace r2 := keepc dk _ _ hdk r2
      replace r3 := keepc dk _ _ hdk r3
      replace r4 := keepc dk _ _ hdk r4
      replace r5 := keepc dk _ _ hdk r5
      generalize xc.length = XL at *
      have hbk2 : bk < wr.heap.size := Nat.lt_of_lt_of_le hbk (Nat.le_trans HWc.out.size hb.out.size)
      have hdk2 : dk < wr.heap.size := Nat.lt_of_lt_of_le hdk (Nat.le_trans HWc.out.size hb.out.size)
      clear keepc hc hd hx HMA HNA HM HM2
      go_wp2
      go_region_held3 (fun w' => w'.cell? ⟨W.heap.size, 5, none⟩ = some (.slice (some ⟨bk, o, none⟩) M capm) ∧ w'.cell? ⟨W.heap.size + 1, 5, none⟩ = some (.slice (some ⟨dk, q, none⟩) M copm) ∧ w'.cell? ⟨bk, o + k * 6, none⟩ = some (.string xn) ∧ w'.cell? ⟨bk, o + k * 6 + 1, none⟩ = some (.string xd) ∧ w'.cell? ⟨bk, o + k * 6 + 2, none⟩ = some (.int .i64 xf) ∧ w'.cell? ⟨bk, o + k * 6 + 3, none⟩ = some (.int .i64 xl) ∧ w'.cell? ⟨bk, o + k * 6 + 4, none⟩ = some (.int .i64 xs) ∧ w'.cell? ⟨bk, o + k * 6 + 5, none⟩ = some (.slice va XL vcap) ∧ w'.cell? ⟨dk, q + k * 6, none⟩ = some (.string xn) ∧ w'.cell? ⟨dk, q + k * 6 + 1, none⟩ = some (.string xd) ∧ w'.cell? ⟨dk, q + k * 6 + 2, none⟩ = some (.int .i64 xf) ∧ w'.cell? ⟨dk, q + k * 6 + 3, none⟩ = some (.int .i64 xl) ∧ w'.cell? ⟨dk, q + k * 6 + 4, none⟩ = some (.int .i64 xs) ∧ w'.cell? ⟨dk, q + k * 6 + 5, none⟩ = some (.slice ua XL ucap)) (go_keep)
        (first | (go_at_call 51; refine (HM3.out _ (Below.step HWc.out hb.out.drew)).mono ?_; rintro e w3 ⟨rfl, hb3⟩; have B3 : Hid (Below Wc.heap.size Wc w3) := Below.step hb.out.drew hb3; have kp : ∀ (bb j : Nat) (v : Value), bb < wr.heap.size → wr.cell? ⟨bb, j, none⟩ = some v → w3.cell? ⟨bb, j, none⟩ = some v := fun bb j v hl h => (hb3.cell (p := ⟨bb, j, none⟩) hl).trans h; replace g5 := kp _ _ _ g9 g5; replace f5 := kp _ _ _ f9 f5; replace p0 := kp _ _ _ hbk2 p0; replace p1 := kp _ _ _ hbk2 p1; replace p2 := kp _ _ _ hbk2 p2; replace p3 := kp _ _ _ hbk2 p3; replace p4 := kp _ _ _ hbk2 p4; replace p5 := kp _ _ _ hbk2 p5; replace r0 := kp _ _ _ hdk2 r0; replace r1 := kp _ _ _ hdk2 r1; replace r2 := kp _ _ _ hdk2 r2; replace r3 := kp _ _ _ hdk2 r3; replace r4 := kp _ _ _ hdk2 r4; replace r5 := kp _ _ _ hdk2 r5; clear kp hb3 HM3))
      go_wp2
      go_roundw
      case rel => exact ⟨k + 1, by go_num, by omega, B3⟩
      case measure => simp [intOf]; omega
    · have e : k = M := by omega
      subst e
      clear HMA HNA HM
      go_wp2
      go_ret
      exact ⟨rfl, Below.step HWc.out hb.out⟩


def c0 : Cls := ⟨⟨#[65]⟩, ⟨#[79, 98, 106, 101, 99, 116]⟩, [], 0, 0, []⟩
theorem c0_sound : clsB c0 = true := by decide +kernel
theorem c0_text : clsT c0 = [99, 108, 97, 115, 115, 32, 65, 10, 115, 117, 112, 101, 114, 32, 79, 98, 106, 101, 99, 116, 10, 102, 108, 97, 103, 115, 10, 108, 111, 97, 100, 101, 114, 32, 48, 10, 101, 110, 100, 10] := by decide +kernel
theorem c0_w : ClsW c0 := ⟨by decide +kernel, by decide +kernel, fun p hp => by simp [c0] at hp, by decide, by decide, fun m hm => by simp [c0] at hm⟩

set_option maxRecDepth 100000 in
set_option maxHeartbeats 1000000 in
theorem awake_any (w : World) (hG : GAll w) : Calls Tryz.prog 7 #[] w fun e w' => e = .returned (.bool true) ∧ Below w.heap.size w w' := by
  have HP : Hid (∀ w, GAll w → Calls Tryz.prog 14 #[.agg #[.string ⟨#[65]⟩, .string ⟨#[79, 98, 106, 101, 99, 116]⟩, .slice none 0 0, .int .i64 0, .int .i64 0, .slice none 0 0]] w fun e w' => e = .returned (.tuple #[.string ⟨#[99, 108, 97, 115, 115, 32, 65, 10, 115, 117, 112, 101, 114, 32, 79, 98, 106, 101, 99, 116, 10, 102, 108, 97, 103, 115, 10, 108, 111, 97, 100, 101, 114, 32, 48, 10, 101, 110, 100, 10]⟩, .int .i64 0]) ∧ Below w.heap.size w w') := fun w h => by
    have := print_good c0 (.slice none 0 0) (.slice none 0 0) w ⟨none, 0, rfl, Nat.le_refl _, by unfold maxLen; omega, fun h => absurd rfl h⟩ ⟨none, 0, rfl, Nat.le_refl _, by unfold maxLen; omega, fun h => absurd rfl h⟩ c0_w c0_sound h
    rw [c0_text] at this
    exact this
  have HG : Hid (GAll w) := hG
  clear hG
  go_enter Tryz.func7, Tryz.ntmps7
  go_wp2_with (go_at_call 14; refine (HP.out _ HG.out).mono ?_; rintro e w1 ⟨rfl, hb1⟩)
  go_ret
  exact ⟨rfl, hb1⟩

/-- what the law asks of a sound method -/
structure MthL (m : Mth) (iface : Bool) (ms : List Mth) (k : Nat) : Prop where
  mem : memberL m.nm.data.toList = true
  desc : pdE m.ds.data.toList = 0
  chk : chkM m.fl iface (m.nm.toList == [60, 105, 110, 105, 116, 62]) = 0
  fnd : findM m.nm m.ds ms 0 = (k : Int)
  abs : hasI m.fl 1024 = true → m.code.length = 0
  body : hasI m.fl 1024 = false → allE m.code m.lo = 0 ∧ wdsN m.ds.data.toList m.fl ≤ m.lo

end Go.Proofs.YtfbhjfpkhofifaaGreatDoor
