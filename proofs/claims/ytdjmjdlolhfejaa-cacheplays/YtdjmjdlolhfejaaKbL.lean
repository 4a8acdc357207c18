/- The law's agrees: one thing done to a cache and to the document's. (Written by genkbl.py.) -/
import Derived.Test.YtdjmjdlolhfejaaKbH
import Derived.Test.YtdjmjdlolhfejaaKcS
import Derived.Test.YtdjmjdlolhfejaaKcD
import Derived.Test.YtdjmjdlolhfejaaKaS
namespace Go.Proofs.Ytdjmjdlolhfejaa
open Go.RowKit Go.Maps

set_option linter.unusedVariables false in
set_option maxRecDepth 100000 in
set_option maxHeartbeats 4000000 in
theorem agr_get {W : World} {N p r cap : Nat} {K : Sk} (HB : Both W N p r cap K) (h64 : cap ≤ 64) (hr : N ≤ r) (hN : N ≤ W.heap.size) (ky vl : Int) :
    Calls Try.prog 10 #[.agg #[.int .i64 1, .int .i64 ky, .int .i64 vl], .pointer (some ⟨p, 0, none⟩), .pointer (some ⟨r, 0, none⟩)] W fun e w' => e = .returned (.bool true) ∧ Both w' N p r cap K ∧ Below N W w' := by
  obtain ⟨ss, kv, vv, L, h, m, C, D, R⟩ := HB
  have hL := R.len h64
  obtain ⟨g1, g2, g3⟩ := get_rel R ky
  obtain ⟨x, hx⟩ : ∃ x, (fdS ky L).1 = x := ⟨_, rfl⟩
  obtain ⟨b, hb⟩ : ∃ b, (fdS ky L).2.1 = b := ⟨_, rfl⟩
  obtain ⟨MG, hMG⟩ : ∃ MG : World → Prop, MG = fun w => CaK w N p K cap (fdSS ky ss).2.2 (if b then wrap64 (h + 1) else h) (if b then m else wrap64 (m + 1)) 0 0 ∧ RcAt w r cap kv vv L h m := ⟨_, rfl⟩
  have HG : Hid (∀ w, Tch (fun _ => False) W w → Calls Try.prog 14 #[.pointer (some ⟨p, 0, none⟩), .int .i64 ky] w fun e w' => e = .returned (.tuple #[.int .i64 x, .bool b]) ∧ MG w' ∧ TC N w w') := fun w ht => by
    have q := cget_c (C.tch ht) ky
    rw [g1, g2, hx, hb] at q
    refine q.mono ?_
    rintro e w' ⟨e1, e2, e3⟩
    exact ⟨e1, by rw [hMG]; exact ⟨e2, (D.tch ht).tc e3⟩, e3⟩
  have HD : Hid (∀ w, MG w → Calls Try.prog 18 #[.pointer (some ⟨r, 0, none⟩), .int .i64 ky] w fun e w' => e = .returned (.tuple #[.int .i64 x, .bool b]) ∧ Both w' N p r cap K ∧ Tch (fun k => k = r) w w') := fun w hm => by
    rw [hMG] at hm
    have q := rget_c hm.2 (by omega) ky
    rw [hx, hb] at q
    refine q.mono ?_
    rintro e w' ⟨e1, ⟨kv', vv', e2⟩, e3⟩
    exact ⟨e1, ⟨_, _, _, _, _, _, hm.1.doc hm.2 e3, e2, g3⟩, e3⟩
  clear hMG C D R g1 g2 g3 hx hb hL
  have BN : Hid (∀ w w', Below N W w → Tch (fun k => k = r) w w' → Below N W w') := fun w w' h1 h2 => h1.trans (h2.bN hr (Nat.le_trans hN h1.size))
  clear hr h64
  go_enter Try.func10, Try.ntmps10
  go_wp2_with (first
    | (go_at_call 14; refine (HG.out _ ((Tch.refl _ W).alloc _)).mono ?_; rintro e w1 ⟨rfl, m1, t1⟩
       have M1 : Hid (MG w1) := m1
       have B1 : Hid (Below N W w1) := (show Below N W (W.alloc (.cells #[.int .i64 1, .int .i64 ky, .int .i64 vl] 33)) from (Below.refl _ W).alloc hN _).trans (t1.below (by simp; omega))
       have d1 : w1.heap[W.heap.size]? = some (.cells #[.int .i64 1, .int .i64 ky, .int .i64 vl] 33 (0, 0)) := (t1.kind (halloc1 _ _) (by rfl)).trans (halloc1 _ _)
       have x1 : w1.cell? ⟨W.heap.size, 1, none⟩ = some (.int .i64 ky) := (cell_of_row w1 _ 1 _ _ _ d1).trans rfl
       have x2 : w1.cell? ⟨W.heap.size, 2, none⟩ = some (.int .i64 vl) := (cell_of_row w1 _ 2 _ _ _ d1).trans rfl
       clear m1 t1 d1 HG)
    | (go_at_call 18; refine (HD.out _ M1.out).mono ?_; rintro e w2 ⟨rfl, m2, t2⟩
       have M2 : Hid (Both w2 N p r cap K ∧ Below N W w2) := ⟨m2, BN.out _ _ B1.out t2⟩
       clear m2 t2 HD M1))
  go_ret
  exact ⟨rfl, M2.out⟩
set_option linter.unusedVariables false in
set_option maxRecDepth 100000 in
set_option maxHeartbeats 4000000 in
theorem agr_put {W : World} {N p r cap : Nat} {K : Sk} (HB : Both W N p r cap K) (h64 : cap ≤ 64) (hr : N ≤ r) (hN : N ≤ W.heap.size) (ky vl : Int) :
    Calls Try.prog 10 #[.agg #[.int .i64 2, .int .i64 ky, .int .i64 vl], .pointer (some ⟨p, 0, none⟩), .pointer (some ⟨r, 0, none⟩)] W fun e w' => e = .returned (.bool true) ∧ Both w' N p r cap K ∧ Below N W w' := by
  obtain ⟨ss, kv, vv, L, h, m, C, D, R⟩ := HB
  have hL := R.len h64
  obtain ⟨z1, z2, b, s2, L2, P1, P2, R2⟩ : ∃ (z1 z2 : Int) (b : Bool) (s2 : List (List (Int × Int))) (L2 : List (Int × Int)), ptSS cap (ky, vl) ss = ((z1, z2), b, s2) ∧ (∀ w, RcAt w r cap kv vv L h m → Calls Try.prog 19 #[.pointer (some ⟨r, 0, none⟩), .int .i64 ky, .int .i64 vl] w fun e w' => e = .returned (.tuple #[.int .i64 z1, .int .i64 z2, .bool b]) ∧ (∃ kv' vv', RcAt w' r cap kv' vv' L2 h m) ∧ Tch (fun k => k = r) w w') ∧ RelC cap s2 L2 := by
    by_cases hc : 1 ≤ cap
    · obtain ⟨g1, g2, g3⟩ := put_rel R hc (ky, vl)
      rw [R.inv.len] at g1 g2 g3
      refine ⟨_, _, _, _, _, ?_, fun w hw => rput_c hw hc h64 (by omega) ky vl, g3⟩
      rw [← g1, ← g2]
    · obtain rfl : cap = 0 := by omega
      obtain ⟨rfl, rfl⟩ := R.zero
      exact ⟨0, 0, false, [], [], ptSS_0 _, fun w hw => (rput_0 hw ky vl).mono fun e w' ⟨a, b⟩ => by subst b; exact ⟨a, ⟨_, _, hw⟩, Tch.refl _ _⟩, R⟩
  obtain ⟨MG, hMG⟩ : ∃ MG : World → Prop, MG = fun w => CaK w N p K cap s2 h m 0 0 ∧ RcAt w r cap kv vv L h m := ⟨_, rfl⟩
  have HG : Hid (∀ w, Tch (fun _ => False) W w → Calls Try.prog 11 #[.pointer (some ⟨p, 0, none⟩), .int .i64 ky, .int .i64 vl] w fun e w' => e = .returned (.tuple #[.int .i64 z1, .int .i64 z2, .bool b]) ∧ MG w' ∧ TC N w w') := fun w ht => by
    have q := cput_c (C.tch ht) ky vl
    rw [P1] at q
    refine q.mono ?_
    rintro e w' ⟨e1, e2, e3⟩
    exact ⟨e1, by rw [hMG]; exact ⟨e2, (D.tch ht).tc e3⟩, e3⟩
  have HD : Hid (∀ w, MG w → Calls Try.prog 19 #[.pointer (some ⟨r, 0, none⟩), .int .i64 ky, .int .i64 vl] w fun e w' => e = .returned (.tuple #[.int .i64 z1, .int .i64 z2, .bool b]) ∧ Both w' N p r cap K ∧ Tch (fun k => k = r) w w') := fun w hm => by
    rw [hMG] at hm
    refine (P2 w hm.2).mono ?_
    rintro e w' ⟨e1, ⟨kv', vv', e2⟩, e3⟩
    exact ⟨e1, ⟨_, _, _, _, _, _, hm.1.doc hm.2 e3, e2, R2⟩, e3⟩
  clear hMG C D R P1 P2 R2 hL
  have BN : Hid (∀ w w', Below N W w → Tch (fun k => k = r) w w' → Below N W w') := fun w w' h1 h2 => h1.trans (h2.bN hr (Nat.le_trans hN h1.size))
  clear hr h64
  go_enter Try.func10, Try.ntmps10
  go_wp2_with (first
    | (go_at_call 11; refine (HG.out _ ((Tch.refl _ W).alloc _)).mono ?_; rintro e w1 ⟨rfl, m1, t1⟩
       have M1 : Hid (MG w1) := m1
       have B1 : Hid (Below N W w1) := (show Below N W (W.alloc (.cells #[.int .i64 2, .int .i64 ky, .int .i64 vl] 33)) from (Below.refl _ W).alloc hN _).trans (t1.below (by simp; omega))
       have d1 : w1.heap[W.heap.size]? = some (.cells #[.int .i64 2, .int .i64 ky, .int .i64 vl] 33 (0, 0)) := (t1.kind (halloc1 _ _) (by rfl)).trans (halloc1 _ _)
       have x1 : w1.cell? ⟨W.heap.size, 1, none⟩ = some (.int .i64 ky) := (cell_of_row w1 _ 1 _ _ _ d1).trans rfl
       have x2 : w1.cell? ⟨W.heap.size, 2, none⟩ = some (.int .i64 vl) := (cell_of_row w1 _ 2 _ _ _ d1).trans rfl
       clear m1 t1 d1 HG)
    | (go_at_call 19; refine (HD.out _ M1.out).mono ?_; rintro e w2 ⟨rfl, m2, t2⟩
       have M2 : Hid (Both w2 N p r cap K ∧ Below N W w2) := ⟨m2, BN.out _ _ B1.out t2⟩
       clear m2 t2 HD M1))
  go_ret
  exact ⟨rfl, M2.out⟩
set_option linter.unusedVariables false in
set_option maxRecDepth 100000 in
set_option maxHeartbeats 4000000 in
theorem agr_clear {W : World} {N p r cap : Nat} {K : Sk} (HB : Both W N p r cap K) (h64 : cap ≤ 64) (hr : N ≤ r) (hN : N ≤ W.heap.size) (ky vl : Int) :
    Calls Try.prog 10 #[.agg #[.int .i64 4, .int .i64 ky, .int .i64 vl], .pointer (some ⟨p, 0, none⟩), .pointer (some ⟨r, 0, none⟩)] W fun e w' => e = .returned (.bool true) ∧ Both w' N p r cap K ∧ Below N W w' := by
  obtain ⟨ss, kv, vv, L, h, m, C, D, R⟩ := HB
  obtain ⟨MG, hMG⟩ : ∃ MG : World → Prop, MG = fun w => CaK w N p K cap (List.replicate ss.length []) h m 0 0 ∧ RcAt w r cap kv vv L h m := ⟨_, rfl⟩
  have HG : Hid (∀ w, Tch (fun _ => False) W w → Calls Try.prog 16 #[.pointer (some ⟨p, 0, none⟩)] w fun e w' => e = .returned (.tuple #[]) ∧ MG w' ∧ TC N w w') := fun w ht => by
    refine (cclear_c (C.tch ht)).mono ?_
    rintro e w' ⟨e1, e2, e3⟩
    exact ⟨e1, by rw [hMG]; exact ⟨e2, (D.tch ht).tc e3⟩, e3⟩
  have HD : Hid (∀ w, MG w → Calls Try.prog 23 #[.pointer (some ⟨r, 0, none⟩)] w fun e w' => e = .returned (.tuple #[]) ∧ Both w' N p r cap K ∧ Tch (fun k => k = r) w w') := fun w hm => by
    rw [hMG] at hm
    refine (rclear_c hm.2).mono ?_
    rintro e w' ⟨e1, e2, e3⟩
    exact ⟨e1, ⟨_, _, _, _, _, _, hm.1.doc hm.2 e3, e2, R.clear⟩, e3⟩
  clear hMG C D R
  have BN : Hid (∀ w w', Below N W w → Tch (fun k => k = r) w w' → Below N W w') := fun w w' h1 h2 => h1.trans (h2.bN hr (Nat.le_trans hN h1.size))
  clear hr h64
  go_enter Try.func10, Try.ntmps10
  go_wp2_with (first
    | (go_at_call 16; refine (HG.out _ ((Tch.refl _ W).alloc _)).mono ?_; rintro e w1 ⟨rfl, m1, t1⟩
       have M1 : Hid (MG w1) := m1
       have B1 : Hid (Below N W w1) := (show Below N W (W.alloc (.cells #[.int .i64 4, .int .i64 ky, .int .i64 vl] 33)) from (Below.refl _ W).alloc hN _).trans (t1.below (by simp; omega))
       have d1 : w1.heap[W.heap.size]? = some (.cells #[.int .i64 4, .int .i64 ky, .int .i64 vl] 33 (0, 0)) := (t1.kind (halloc1 _ _) (by rfl)).trans (halloc1 _ _)
       have x1 : w1.cell? ⟨W.heap.size, 1, none⟩ = some (.int .i64 ky) := (cell_of_row w1 _ 1 _ _ _ d1).trans rfl
       have x2 : w1.cell? ⟨W.heap.size, 2, none⟩ = some (.int .i64 vl) := (cell_of_row w1 _ 2 _ _ _ d1).trans rfl
       clear m1 t1 d1 HG)
    | (go_at_call 23; refine (HD.out _ M1.out).mono ?_; rintro e w2 ⟨rfl, m2, t2⟩
       have M2 : Hid (Both w2 N p r cap K ∧ Below N W w2) := ⟨m2, BN.out _ _ B1.out t2⟩
       clear m2 t2 HD M1))
  go_ret
  exact ⟨rfl, M2.out⟩
set_option linter.unusedVariables false in
set_option maxRecDepth 100000 in
set_option maxHeartbeats 4000000 in
theorem agr_none {W : World} {N p r cap : Nat} {K : Sk} (HB : Both W N p r cap K) (h64 : cap ≤ 64) (hr : N ≤ r) (hN : N ≤ W.heap.size) (ky vl : Int) (kd : Int) (k1 : ¬ kd = 1) (k2 : ¬ kd = 2) (k3 : ¬ kd = 3) (k4 : ¬ kd = 4) :
    Calls Try.prog 10 #[.agg #[.int .i64 kd, .int .i64 ky, .int .i64 vl], .pointer (some ⟨p, 0, none⟩), .pointer (some ⟨r, 0, none⟩)] W fun e w' => e = .returned (.bool true) ∧ Both w' N p r cap K ∧ Below N W w' := by
  have HH : Hid (Both (W.alloc (.cells #[.int .i64 kd, .int .i64 ky, .int .i64 vl] 33)) N p r cap K ∧ Below N W (W.alloc (.cells #[.int .i64 kd, .int .i64 ky, .int .i64 vl] 33))) := by
    obtain ⟨ss, kv, vv, L, h, m, C, D, R⟩ := HB
    exact ⟨⟨_, _, _, _, _, _, C.tch ((Tch.refl _ W).alloc _), D.tch ((Tch.refl _ W).alloc _), R⟩, (Below.refl _ W).alloc hN _⟩
  clear HB
  go_enter Try.func10, Try.ntmps10
  go_wp2
  go_ret
  exact ⟨rfl, HH.out⟩
theorem nas_two {w : World} {M M2 n : Nat} {a2 a3 : Option Addr} {c2 c3 : Nat} {xs ys : List Value} (h1 : w.ownsRow M 3 1 (.slice a2 n c2) n xs) (h2 : w.ownsRow M2 3 1 (.slice a3 n c3) n ys) (hl : ∀ g, (Value.slice a2 n c2).ownBlock = some g → g < M2) (hM : M ≤ M2) (hb : M ≤ w.heap.size) : NaS M [(a2, n, c2), (a3, n, c3)] w := by
  refine ⟨fun j q hj => ?_, fun j j' q q' k hj hj' h h' => ?_, ?_⟩
  · match j with
    | 0 => simp at hj; subst hj; exact ⟨xs, h1⟩
    | 1 => simp at hj; subst hj; exact ⟨ys, own_mono h2 hM⟩
    | j + 2 => simp at hj
  · match j, j' with
    | 0, 0 => rfl
    | 1, 1 => rfl
    | 0, 1 => simp at hj hj'; subst hj hj'; have := hl k h; have := (h2.lt k h').1; omega
    | 1, 0 => simp at hj hj'; subst hj hj'; have := hl k h'; have := (h2.lt k h).1; omega
    | j + 2, _ => simp at hj
    | _, j + 2 => simp at hj'
  · exact hb
theorem NaS.alloc2 {M : Nat} {R : List SlT} {w : World} (h : NaS M R w) (o : Obj) : NaS M R (w.alloc o) :=
  ⟨fun j q hj => by obtain ⟨xs, hx⟩ := h.own j q hj; exact ⟨xs, hx.alloc _⟩, h.apart, Nat.le_trans h.base (by simp)⟩
/-- blocks of other kinds stay where lists of numbers are written over -/
theorem CaK.kpr {W w : World} {N p cap M : Nat} {K : Sk} {ss : List (List (Int × Int))} {h m s r : Int} {R : List SlT} (H : CaK W N p K cap ss h m s r) (S : NaS M R W) (hk : KpR M R W w) : CaK w N p K cap ss h m s r :=
  H.kinds fun k c e hb he => hk.2 k (Array.getElem?_eq_some_iff.1 hb).1 fun j r' hj hg => by
    obtain ⟨xs, ho⟩ := S.own j r' hj
    obtain ⟨c', hc'⟩ := own_int ho hg
    rw [hb] at hc'; cases hc'; exact absurd he (by decide)
theorem RcAt.bel {W w w' : World} {M r cap : Nat} {kv vv : Value} {L : List (Int × Int)} {h m : Int} (H : RcAt w r cap kv vv L h m) (H0 : RcAt W r cap kv vv L h m) (hM : W.heap.size ≤ M) (hb : Below M w w') : RcAt w' r cap kv vv L h m :=
  ⟨(hb.block r (Nat.lt_of_lt_of_le H0.cells.2.2.2.2.2.2 hM)).trans H.hr, own_keep H.ks (fun g hg => hb.block g (Nat.lt_of_lt_of_le (H0.ks.lt g hg).2 hM)), own_keep H.vs (fun g hg => hb.block g (Nat.lt_of_lt_of_le (H0.vs.lt g hg).2 hM))⟩
set_option linter.unusedVariables false in
set_option maxRecDepth 100000 in
set_option maxHeartbeats 8000000 in
theorem agr_keys {W : World} {N p r cap : Nat} {K : Sk} (HB : Both W N p r cap K) (h64 : cap ≤ 64) (hr : N ≤ r) (hN : N ≤ W.heap.size) (ky vl : Int) :
    Calls Try.prog 10 #[.agg #[.int .i64 3, .int .i64 ky, .int .i64 vl], .pointer (some ⟨p, 0, none⟩), .pointer (some ⟨r, 0, none⟩)] W fun e w' => e = .returned (.bool true) ∧ Both w' N p r cap K ∧ Below N W w' := by
  obtain ⟨ss, kv, vv, L, h, m, C, D, R⟩ := HB
  have hL := R.len h64
  have hks := keys_rel R
  have hkl : (ksL ss).length ≤ 1000000 := by
    have e := ksL_len (cap := 0) ss (fun l hl => by
      obtain ⟨j, hj⟩ := List.getElem?_of_mem hl
      have := (R.inv.once j l hj).2.1
      unfold rmN at this; omega)
    have := R.inv.len
    omega
  rw [R.inv.len] at hks
  have HR : Hid (RelC cap ss L) := R
  have D0 : Hid (RcAt W r cap kv vv L h m) := D
  have DA := D.tch ((Tch.refl _ W).alloc (.cells #[.int .i64 3, .int .i64 ky, .int .i64 vl] 33))
  have CA := C.tch ((Tch.refl _ W).alloc (.cells #[.int .i64 3, .int .i64 ky, .int .i64 vl] 33))
  have BA : Hid (Below N W (W.alloc (.cells #[.int .i64 3, .int .i64 ky, .int .i64 vl] 33))) := (Below.refl _ W).alloc hN _
  obtain ⟨W1, hW1⟩ : ∃ W1, W1 = W.alloc (.cells #[.int .i64 3, .int .i64 ky, .int .i64 vl] 33) := ⟨_, rfl⟩
  have hs1 : W.heap.size + 1 = W1.heap.size := by rw [hW1]; simp
  rw [← hW1] at DA CA BA
  have CW : Hid (CaK W1 N p K cap ss h m 0 0) := CA
  have DW : Hid (RcAt W1 r cap kv vv L h m) := DA
  obtain ⟨l, hl⟩ : ∃ l, ksL ss = l := ⟨_, rfl⟩
  obtain ⟨n, hn⟩ : ∃ n, l.length = n := ⟨_, rfl⟩
  rw [hl, hn] at hkl
  have HLN : Hid (l.length = n) := hn
  have HKy : Hid (∀ w, CaK w N p K cap ss h m 0 0 → Calls Try.prog 13 #[.pointer (some ⟨p, 0, none⟩)] w fun e w' => ∃ a c, e = .returned (.slice a n c) ∧ w'.ownsRow w.heap.size 3 1 (.slice a n c) n (intC l) ∧ CaK w' N p K cap ss h m 0 0 ∧ TC N w w') := fun w hw => by
    have q := ckeys_c hw
    rw [hl, hn] at q
    refine q.mono ?_
    rintro e w' ⟨v', e1, e2, e3⟩
    obtain ⟨a, c, rfl⟩ := ownv e2
    exact ⟨a, c, e1, e2, e3⟩
  have HAl : Hid (∀ w, RcAt w r cap kv vv L h m → Calls Try.prog 20 #[.pointer (some ⟨r, 0, none⟩)] w fun e w' => ∃ a c, e = .returned (.slice a n c) ∧ w'.ownsRow w.heap.size 3 1 (.slice a n c) n (intC l) ∧ Tch (fun _ => False) w w') := fun w hw => by
    have q := rall_c hw h64 (by omega)
    rw [← hks, hl, hn] at q
    refine q.mono ?_
    rintro e w' ⟨v', e1, e2, e3⟩
    obtain ⟨a, c, rfl⟩ := ownv e2
    exact ⟨a, c, e1, e2, e3⟩
  have HHi : Hid (∀ w, CaK w N p K cap ss h m 0 0 → Calls Try.prog 15 #[.pointer (some ⟨p, 0, none⟩)] w fun e w' => e = .returned (.tuple #[.int .i64 h, .int .i64 m]) ∧ CaK w' N p K cap ss h m 0 0 ∧ TC N w w') := fun w hw => chits_c hw
  have HLe : Hid (∀ w, CaK w N p K cap ss h m 0 0 → Calls Try.prog 12 #[.pointer (some ⟨p, 0, none⟩)] w fun e w' => e = .returned (.int .i64 n) ∧ CaK w' N p K cap ss h m 0 0 ∧ TC N w w') := fun w hw => by
    have q := clen_c hw
    rw [hl, hn] at q
    exact q
  have HSa : Hid (∀ w a1 c1 a2 c2 M1 M2, w.ownsRow M1 3 1 (.slice a1 n c1) n (intC l) → w.ownsRow M2 3 1 (.slice a2 n c2) n (intC l) → Calls Try.prog 21 #[.slice a1 n c1, .slice a2 n c2] w fun e w' => e = .returned (.bool true) ∧ Below w.heap.size w w') := fun w a1 c1 a2 c2 M1 M2 h1 h2 => sameNums_own l n M1 M2 _ _ w HLN h1 h2 (by omega)
  have hs1' : W1.heap.size = W.heap.size + 1 := hs1.symm
  have HsW : Hid (W.heap.size ≤ W1.heap.size) := by rw [Hid]; omega
  have HN1 : Hid (N ≤ W1.heap.size) := by rw [Hid]; omega
  have e0 : W1.cell? ⟨W.heap.size, 0, none⟩ = some (.int .i64 3) := by rw [hW1]; exact (cell_of_row _ _ 0 _ _ _ (halloc1 _ _)).trans rfl
  clear C D R hks hl hn DA CA hL hr h64 hs1 hs1'
  go_enter Try.func10, Try.ntmps10
  go_upto_region 11 with fail
  rw [← hW1]
  clear hW1 e0
  go_wp2_with (first
    | (go_at_call 13; refine (HKy.out _ CW.out).mono ?_; rintro e w2 ⟨a2, c2, rfl, o2, cc2, t2⟩
       have O2 : Hid (w2.ownsRow W1.heap.size 3 1 (.slice a2 n c2) n (intC l)) := o2
       have C2 : Hid (CaK w2 N p K cap ss h m 0 0) := cc2
       have D2 : Hid (RcAt w2 r cap kv vv L h m) := DW.out.tc t2
       have B2 : Hid (Below N W w2) := BA.out.trans (t2.below HN1.out)
       have Z2 : Hid (W1.heap.size ≤ w2.heap.size) := t2.size
       clear o2 cc2 t2 CW DW BA)
    | (go_at_call 13; refine (HKy.out _ C2.out).mono ?_; rintro e w3 ⟨a3, c3, rfl, o3, cc3, t3⟩
       have O3 : Hid (w3.ownsRow w2.heap.size 3 1 (.slice a3 n c3) n (intC l)) := o3
       have P3 : Hid (w3.ownsRow W1.heap.size 3 1 (.slice a2 n c2) n (intC l)) := own_kind O2.out t3
       have L2 : Hid (∀ g, (Value.slice a2 n c2).ownBlock = some g → g < w2.heap.size) := fun g hg => (O2.out.lt g hg).2
       have Y3 : Hid (W1.heap.size ≤ w3.heap.size) := Nat.le_trans Z2.out t3.size
       have C3 : Hid (CaK w3 N p K cap ss h m 0 0) := cc3
       have D3 : Hid (RcAt w3 r cap kv vv L h m) := D2.out.tc t3
       have B3 : Hid (Below N W w3) := B2.out.trans (t3.below (Nat.le_trans HN1.out Z2.out))
       clear o3 cc3 t3 C2 D2 B2 O2)
    | (go_at_call 20; refine (HAl.out _ D3.out).mono ?_; rintro e w4 ⟨a4, c4, rfl, o4, t4⟩
       have O4 : Hid (w4.ownsRow w3.heap.size 3 1 (.slice a4 n c4) n (intC l)) := o4
       have P4 : Hid (w4.ownsRow W1.heap.size 3 1 (.slice a2 n c2) n (intC l)) := own_tch P3.out t4
       have Q4 : Hid (w4.ownsRow w2.heap.size 3 1 (.slice a3 n c3) n (intC l)) := own_tch O3.out t4
       have Y4 : Hid (W1.heap.size ≤ w4.heap.size) := Nat.le_trans Y3.out t4.size
       have C4 : Hid (CaK w4 N p K cap ss h m 0 0) := C3.out.tch t4
       have D4 : Hid (RcAt w4 r cap kv vv L h m) := D3.out.tch t4
       have B4 : Hid (Below N W w4) := B3.out.trans (Tch.below t4 (Nat.le_trans hN B3.out.size) (fun _ x => x.elim))
       clear o4 t4 C3 D3 B3 O3 P3 HAl)
    | (go_at_call 15; refine (HHi.out _ C4.out).mono ?_; rintro e w5 ⟨rfl, cc5, t5⟩
       have O5 : Hid (w5.ownsRow w3.heap.size 3 1 (.slice a4 n c4) n (intC l)) := own_kind O4.out t5
       have P5 : Hid (w5.ownsRow W1.heap.size 3 1 (.slice a2 n c2) n (intC l)) := own_kind P4.out t5
       have Q5 : Hid (w5.ownsRow w2.heap.size 3 1 (.slice a3 n c3) n (intC l)) := own_kind Q4.out t5
       have Y5 : Hid (W1.heap.size ≤ w5.heap.size) := Nat.le_trans Y4.out t5.size
       have C5 : Hid (CaK w5 N p K cap ss h m 0 0) := cc5
       have D5 : Hid (RcAt w5 r cap kv vv L h m) := D4.out.tc t5
       have B5 : Hid (Below N W w5) := B4.out.trans (t5.below (Nat.le_trans hN B4.out.size))
       clear cc5 t5 C4 D4 B4 O4 P4 Q4 HHi)
    | (go_at_call 21; refine (HSa.out _ _ _ _ _ _ _ P5.out O5.out).mono ?_; rintro e w6 ⟨rfl, t6⟩
       have T6 : Tch (fun _ => False) w5 w6 := (Tch.refl _ _).bel t6
       have O6 : Hid (w6.ownsRow w3.heap.size 3 1 (.slice a4 n c4) n (intC l)) := own_tch O5.out T6
       have P6 : Hid (w6.ownsRow W1.heap.size 3 1 (.slice a2 n c2) n (intC l)) := own_tch P5.out T6
       have Q6 : Hid (w6.ownsRow w2.heap.size 3 1 (.slice a3 n c3) n (intC l)) := own_tch Q5.out T6
       have Y6 : Hid (W1.heap.size ≤ w6.heap.size) := Nat.le_trans Y5.out t6.size
       have C6 : Hid (CaK w6 N p K cap ss h m 0 0) := C5.out.tch T6
       have D6 : Hid (RcAt w6 r cap kv vv L h m) := D5.out.tch T6
       have B6 : Hid (Below N W w6) := B5.out.trans (t6.mono (Nat.le_trans hN B5.out.size))
       clear t6 T6 C5 D5 B5 O5 P5 Q5)
    | (go_at_call 21; refine (HSa.out _ _ _ _ _ _ _ Q6.out O6.out).mono ?_; rintro e w7 ⟨rfl, t7⟩
       have T7 : Tch (fun _ => False) w6 w7 := (Tch.refl _ _).bel t7
       have P7 : Hid (w7.ownsRow W1.heap.size 3 1 (.slice a2 n c2) n (intC l)) := own_tch P6.out T7
       have Q7 : Hid (w7.ownsRow w2.heap.size 3 1 (.slice a3 n c3) n (intC l)) := own_tch Q6.out T7
       have Y7 : Hid (W1.heap.size ≤ w7.heap.size) := Nat.le_trans Y6.out t7.size
       have C7 : Hid (CaK w7 N p K cap ss h m 0 0) := C6.out.tch T7
       have D7 : Hid (RcAt w7 r cap kv vv L h m) := D6.out.tch T7
       have B7 : Hid (Below N W w7) := B6.out.trans (t7.mono (Nat.le_trans hN B6.out.size))
       clear t7 T7 C6 D6 B6 O6 P6 Q6 HSa)
    | (go_at_call 12; refine (HLe.out _ C7.out).mono ?_; rintro e w8 ⟨rfl, cc8, t8⟩
       have P8 : Hid (w8.ownsRow W1.heap.size 3 1 (.slice a2 n c2) n (intC l)) := own_kind P7.out t8
       have Q8 : Hid (w8.ownsRow w2.heap.size 3 1 (.slice a3 n c3) n (intC l)) := own_kind Q7.out t8
       have C8 : Hid (CaK w8 N p K cap ss h m 0 0) := cc8
       have d8 := D7.out.tc t8
       have D8 : Hid (RcAt w8 r cap kv vv L h m) := d8
       have r3 := d8.cells.2.2.2.1
       have r4 := d8.cells.2.2.2.2.1
       have B8 : Hid (Below N W w8) := B7.out.trans (t8.below (Nat.le_trans hN B7.out.size))
       have Z8 : Hid (W1.heap.size ≤ w8.heap.size) := (by have := (Nat.le_trans Y7.out t8.size); exact this)
       have HNA : Hid (∀ cl, Calls Try.prog 22 #[.slice (some ⟨w8.heap.size, 0, none⟩) 2 cl] (w8.alloc (.cells #[.slice a2 n c2, .slice a3 n c3] 35)) fun e w' => e = .returned (.bool true) ∧ Both w' N p r cap K ∧ Below N W w') := fun cl => (by
         have SS : NaS W1.heap.size [(a2, n, c2), (a3, n, c3)] (w8.alloc (.cells #[.slice a2 n c2, .slice a3 n c3] 35)) := (nas_two P8.out Q8.out L2.out Z2.out Z8.out).alloc2 _
         refine (apart_c W1.heap.size [(a2, n, c2), (a3, n, c3)] _ w8.heap.size cl SS (halloc1 _ _) (by simp) (by intro j q hj; match j with | 0 => (simp at hj; subst hj; exact hkl) | 1 => (simp at hj; subst hj; exact hkl) | j + 2 => simp at hj)).mono ?_
         rintro e w' ⟨e1, e2⟩
         exact ⟨e1, ⟨_, _, _, _, _, _, (C8.out.tch ((Tch.refl _ w8).alloc _)).kpr SS e2, (D8.out.tch ((Tch.refl _ w8).alloc _)).bel D0.out HsW.out e2.1, HR.out⟩, (B8.out.alloc (Nat.le_trans hN B8.out.size) _).trans (e2.1.mono HN1.out)⟩)
       clear cc8 t8 C7 D7 B7 P7 Q7 d8 HLe L2)
    | (go_at_call 22; refine (HNA.out _).mono ?_; rintro e w9 ⟨rfl, f9⟩
       have F9 : Hid (Both w9 N p r cap K ∧ Below N W w9) := f9
       clear f9 HNA))
  go_ret
  exact ⟨rfl, F9.out⟩
end Go.Proofs.Ytdjmjdlolhfejaa
