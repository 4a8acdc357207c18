/- The law ArraysOrder: the walk. -/
import Derived.Test.YtpbnjmncjecobaaGreatLwA
namespace Go.Proofs.YtpbnjmncjecobaaGreat
open Go.RowKit Go.Maps

set_option maxRecDepth 100000 in
theorem awake7_c (W : World) : Calls Tryz.prog 45 #[] W fun e w' => e = .returned (.bool true) ∧ Below W.heap.size W w' := by
  have HN : Hid (∀ w : World, Calls Tryz.prog 43 #[] w fun e w' => e = .returned (.pointer (some ⟨w.heap.size + 1, 0, none⟩)) ∧ (∃ vp pv, HW w' w.heap.size (w.heap.size + 1) w.heap.size P3 vp pv) ∧ Below w.heap.size w w') := new_any
  have HO : Hid (∀ (w : World) (b : Nat), WAt b P3 w → Calls Tryz.prog 48 #[.pointer (some ⟨b, 0, none⟩), .agg #[.int .i64 1, .string ⟨#[]⟩], .agg #[.int .i64 0, .string tClo]] w fun e w' => e = .returned (.tuple #[.bool true, .int .i64 0]) ∧ Below w.heap.size w w') := fun w b h => by
    have l1 : ldI P3 1 ⟨#[]⟩ = 0 := by unfold ldI; rw [Lib.toList_data]; rfl
    have l2 : ldI P3 0 tClo = 0 := by unfold ldI; rw [Lib.toList_data]; rfl
    have e : suI P3 1 ⟨#[]⟩ 0 tClo = .tuple #[.bool true, .int .i64 0] := by
      rw [suI, if_pos l1, if_pos l2, (sub_iff l1 l2).2 (.inr (.inl ⟨by rw [Lib.toList_data]; rfl, by decide, by decide⟩))]
    rw [← e]
    exact sub_c h wi3 1 ⟨#[]⟩ 0 tClo (by decide) (by decide)
  have ht : tClo = ⟨#[67, 108, 111, 110, 101, 97, 98, 108, 101]⟩ := rfl
  rw [ht] at HO
  clear ht
  go_enter Tryz.func45, Tryz.ntmps45
  go_wp2_with (first
    | (go_at_call 43; refine (HN.out _).mono ?_; rintro e w1 ⟨rfl, ⟨vp, pv, hw⟩, hb⟩; have H1 : Hid (WAt (W.heap.size + 1) P3 w1) := hw.wat; have B1 : Hid (Below W.heap.size W w1) := hb; clear hw hb HN)
    | (go_at_call 48; refine (HO.out _ _ H1.out).mono ?_; rintro e w2 ⟨rfl, hb⟩; have B2 : Hid (Below W.heap.size W w2) := bstep B1.out hb; clear hb HO))
  exact bodyPost_ret (results_tmp rfl _ _ _) rfl ⟨rfl, B2.out⟩
/-- three types, each in a block -/
def Ty3 (w : World) (n : Nat) (x y z : Int) (s t u : ByteArray) : Prop := n + 1 + 1 < w.heap.size ∧ w.cell? ⟨n, 0, none⟩ = some (.int .i64 x) ∧ w.cell? ⟨n, 1, none⟩ = some (.string s) ∧ w.cell? ⟨n + 1, 0, none⟩ = some (.int .i64 y) ∧ w.cell? ⟨n + 1, 1, none⟩ = some (.string t) ∧ w.cell? ⟨n + 1 + 1, 0, none⟩ = some (.int .i64 z) ∧ w.cell? ⟨n + 1 + 1, 1, none⟩ = some (.string u)
theorem Ty3.keep {w w' : World} {n : Nat} {x y z : Int} {s t u : ByteArray} (h : Ty3 w n x y z s t u) (hb : Below w.heap.size w w') : Ty3 w' n x y z s t u := by
  obtain ⟨h0, h1, h2, h3, h4, h5, h6⟩ := h
  have k : ∀ (m j : Nat) (v : Value), m ≤ n + 1 + 1 → w.cell? ⟨m, j, none⟩ = some v → w'.cell? ⟨m, j, none⟩ = some v := fun m j v hm hv => (hb.cell (p := ⟨m, j, none⟩) (show m < w.heap.size by omega)).trans hv
  exact ⟨Nat.lt_of_lt_of_le h0 hb.size, k _ _ _ (by omega) h1, k _ _ _ (by omega) h2, k _ _ _ (by omega) h3, k _ _ _ (by omega) h4, k _ _ _ (by omega) h5, k _ _ _ (by omega) h6⟩
theorem Ty3.new (W : World) (x y z : Int) (s t u : ByteArray) : Ty3 (((W.alloc (.cells #[.int .i64 x, .string s] 71)).alloc (.cells #[.int .i64 y, .string t] 71)).alloc (.cells #[.int .i64 z, .string u] 71)) W.heap.size x y z s t u := by
  refine ⟨by simp, ?_, ?_, ?_, ?_, ?_, ?_⟩ <;> simp [go_sem]
set_option maxRecDepth 100000 in
set_option maxHeartbeats 4000000 in
theorem order_walk (v : Value) (l : List Cls) (ps : List Plc) (hps : ps = wld l) (x y z : Int) (s t u : ByteArray) (hs : s.size ≤ maxLen) (ht : t.size ≤ maxLen) (hu : u.size ≤ maxLen) (W : World) (h : IsClss W v l) (e1 e2 e3 : Int) (hl1 : ldI ps x s = e1) (hl2 : ldI ps y t = e2) (hl3 : ldI ps z u = e3) (st tu su ts sm : Bool)
    (g1 : e1 = 0 → e2 = 0 → e3 = 0 → suI ps x s x s = .tuple #[.bool true, .int .i64 0]) (g2 : e1 = 0 → e2 = 0 → e3 = 0 → suI ps x s y t = .tuple #[.bool st, .int .i64 0]) (g3 : e1 = 0 → e2 = 0 → e3 = 0 → suI ps y t z u = .tuple #[.bool tu, .int .i64 0]) (g4 : e1 = 0 → e2 = 0 → e3 = 0 → suI ps x s z u = .tuple #[.bool su, .int .i64 0]) (g5 : e1 = 0 → e2 = 0 → e3 = 0 → suI ps y t x s = .tuple #[.bool ts, .int .i64 0])
    (g6 : e1 = 0 → e2 = 0 → e3 = 0 → x < 255 → y < 255 → suI ps (x + 1) s (y + 1) t = .tuple #[.bool st, .int .i64 0]) (hsm : (decide (x = y) && decide (s = t)) = sm) (f1 : e1 = 0 → e2 = 0 → e3 = 0 → st = true → tu = true → su = true) (f2 : e1 = 0 → e2 = 0 → e3 = 0 → st = true → ts = true → sm = true) (hxy : e1 = 0 → e2 = 0 → e3 = 0 → 0 ≤ x ∧ 0 ≤ y) :
    Calls Tryz.prog 7 #[v, .agg #[.int .i64 x, .string s], .agg #[.int .i64 y, .string t], .agg #[.int .i64 z, .string u]] W fun e w' => e = .returned (.bool true) ∧ Below W.heap.size W w' := by
  have hCW := clss_w h
  have hWI : WI ps := by rw [hps]; exact wld_wi l hCW
  have HA : Hid (∀ w : World, Calls Tryz.prog 45 #[] w fun e w' => e = .returned (.bool true) ∧ Below w.heap.size w w') := awake7_c
  have HB : Hid (∀ w : World, Below W.heap.size W w → Calls Tryz.prog 46 #[v] w fun e w' => (∃ b, e = .returned (.pointer (some ⟨b, 0, none⟩)) ∧ WAt b ps w') ∧ Below w.heap.size w w') := fun w hb => by rw [hps]; exact built7_c v l w (clss_keep h hb)
  have SZ : ∀ q : ByteArray, q = s ∨ q = t ∨ q = u → q.size ≤ maxLen := fun q hq => by rcases hq with rfl | rfl | rfl <;> assumption
  have LD : Hid (∀ b w k q r, WAt b ps w → (ldI ps k q = r ∧ q.size ≤ maxLen) → Calls Tryz.prog 50 #[.pointer (some ⟨b, 0, none⟩), .agg #[.int .i64 k, .string q]] w fun e w' => e = .returned (.int .i64 r) ∧ Below w.heap.size w w') := fun b w k q r hw hr => by rw [← hr.1]; exact loaded_c hw k q hr.2
  have SU : Hid (∀ b w k q k' q' r, WAt b ps w → (suI ps k q k' q' = .tuple #[.bool r, .int .i64 0] ∧ q.size ≤ maxLen ∧ q'.size ≤ maxLen) → Calls Tryz.prog 48 #[.pointer (some ⟨b, 0, none⟩), .agg #[.int .i64 k, .string q], .agg #[.int .i64 k', .string q']] w fun e w' => e = .returned (.tuple #[.bool r, .int .i64 0]) ∧ Below w.heap.size w w') := fun b w k q k' q' r hw hr => by rw [← hr.1]; exact sub_c hw hWI k q k' q' hr.2.1 hr.2.2
  have SM : Hid (∀ w : World, Calls Tryz.prog 52 #[.agg #[.int .i64 x, .string s], .agg #[.int .i64 y, .string t]] w fun e w' => e = .returned (.bool sm) ∧ Below w.heap.size w w') := fun w => by rw [← hsm]; exact tySame_any x y s t w
  have L1 : Hid (ldI ps x s = e1 ∧ s.size ≤ maxLen) := ⟨hl1, hs⟩
  have L2 : Hid (ldI ps y t = e2 ∧ t.size ≤ maxLen) := ⟨hl2, ht⟩
  have L3 : Hid (ldI ps z u = e3 ∧ u.size ≤ maxLen) := ⟨hl3, hu⟩
  clear h hCW hWI hps hl1 hl2 hl3 SZ hsm
  by_cases h1 : e1 = 0
  · by_cases h2 : e2 = 0
    · by_cases h3 : e3 = 0
      · subst h1 h2 h3
        have S1 : Hid (suI ps x s x s = .tuple #[.bool true, .int .i64 0] ∧ s.size ≤ maxLen ∧ s.size ≤ maxLen) := ⟨g1 rfl rfl rfl, hs, hs⟩
        have S2 : Hid (suI ps x s y t = .tuple #[.bool st, .int .i64 0] ∧ s.size ≤ maxLen ∧ t.size ≤ maxLen) := ⟨g2 rfl rfl rfl, hs, ht⟩
        have S3 : Hid (suI ps y t z u = .tuple #[.bool tu, .int .i64 0] ∧ t.size ≤ maxLen ∧ u.size ≤ maxLen) := ⟨g3 rfl rfl rfl, ht, hu⟩
        have S4 : Hid (suI ps x s z u = .tuple #[.bool su, .int .i64 0] ∧ s.size ≤ maxLen ∧ u.size ≤ maxLen) := ⟨g4 rfl rfl rfl, hs, hu⟩
        have S5 : Hid (suI ps y t x s = .tuple #[.bool ts, .int .i64 0] ∧ t.size ≤ maxLen ∧ s.size ≤ maxLen) := ⟨g5 rfl rfl rfl, ht, hs⟩
        have G6 : Hid _ := g6 rfl rfl rfl
        have F1 : Hid _ := f1 rfl rfl rfl
        have F2 : Hid _ := f2 rfl rfl rfl
        obtain ⟨hx0, hy0⟩ := hxy rfl rfl rfl
        clear g1 g2 g3 g4 g5 g6 f1 f2 hxy
        by_cases h4 : x < 255 ∧ y < 255
        · obtain ⟨h4, h5⟩ := h4
          have S6 : Hid (suI ps (x + 1) s (y + 1) t = .tuple #[.bool st, .int .i64 0] ∧ s.size ≤ maxLen ∧ t.size ≤ maxLen) := ⟨G6.out h4 h5, hs, ht⟩
          clear G6 hs ht hu
          go_enter Tryz.func7, Tryz.ntmps7
          go_wp2_with (first
          | (go_at_call 45; refine (HA.out _).mono ?_; rintro e w1 ⟨rfl, hb⟩; have BB : Hid (Below W.heap.size W w1) := bstep (by repeat (first | exact Below.refl _ _ | refine Below.setCell ?_ (by simp; try omega) _ | refine Below.alloc ?_ (by simp; try omega) _ | refine Below.drew ?_)) hb; have T2 : Ty3 w1 W.heap.size x y z s t u := (Ty3.new W x y z s t u).keep hb; have T : Hid (Ty3 w1 W.heap.size x y z s t u) := T2; obtain ⟨hl3, c0, c1, c2, c3, c4, c5⟩ := T2; clear hb HA)
          | (go_at_call 46; refine (HB.out _ BB.out).mono ?_; rintro e w2 ⟨⟨b, rfl, hw⟩, hb⟩; have HH : Hid (WAt b ps w2) := hw; have BB2 : Below W.heap.size W w2 := bstep BB.out hb; clear BB; have BB : Hid (Below W.heap.size W w2) := BB2; have T2 := T.out.keep hb; clear T hl3 c0 c1 c2 c3 c4 c5; have T : Hid (Ty3 w2 W.heap.size x y z s t u) := T2; obtain ⟨hl3, c0, c1, c2, c3, c4, c5⟩ := T2; clear hb HB hw BB2)
          | (go_at_call 50; refine (LD.out _ _ _ _ _ HH.out (by first | exact L1.out | exact L2.out | exact L3.out)).mono ?_; rintro e w3 ⟨rfl, hb⟩; have HH2 := HH.out.below hb; clear HH; have HH : Hid (WAt b ps w3) := HH2; have BB2 : Below W.heap.size W w3 := bstep BB.out hb; clear BB; have BB : Hid (Below W.heap.size W w3) := BB2; have T2 := T.out.keep hb; clear T hl3 c0 c1 c2 c3 c4 c5; have T : Hid (Ty3 w3 W.heap.size x y z s t u) := T2; obtain ⟨hl3, c0, c1, c2, c3, c4, c5⟩ := T2; clear hb HH2 BB2)
          | (go_at_call 48; refine (SU.out _ _ _ _ _ _ _ HH.out (by first | exact S1.out | exact S2.out | exact S3.out | exact S4.out | exact S5.out | exact S6.out)).mono ?_; rintro e w4 ⟨rfl, hb⟩; have HH2 := HH.out.below hb; clear HH; have HH : Hid (WAt b ps w4) := HH2; have BB2 : Below W.heap.size W w4 := bstep BB.out hb; clear BB; have BB : Hid (Below W.heap.size W w4) := BB2; have T2 := T.out.keep hb; clear T hl3 c0 c1 c2 c3 c4 c5; have T : Hid (Ty3 w4 W.heap.size x y z s t u) := T2; obtain ⟨hl3, c0, c1, c2, c3, c4, c5⟩ := T2; clear hb HH2 BB2)
          | (go_at_call 52; refine (SM.out _).mono ?_; rintro e w5 ⟨rfl, hb⟩; have HH2 := HH.out.below hb; clear HH; have HH : Hid (WAt b ps w5) := HH2; have BB2 : Below W.heap.size W w5 := bstep BB.out hb; clear BB; have BB : Hid (Below W.heap.size W w5) := BB2; have T2 := T.out.keep hb; clear T hl3 c0 c1 c2 c3 c4 c5; have T : Hid (Ty3 w5 W.heap.size x y z s t u) := T2; obtain ⟨hl3, c0, c1, c2, c3, c4, c5⟩ := T2; clear hb HH2 BB2))
          all_goals go_ret
          all_goals refine ⟨retB ?_, BB.out⟩
          all_goals have ff1 := F1.out
          all_goals have ff2 := F2.out
          all_goals clear F1 F2 BB HH T c0 c1 c2 c3 c4 c5 hl3
          all_goals simp_all
        · have S6 : Hid True := trivial
          have h5 : x < 255 → 255 ≤ y := by omega
          clear G6 hs ht hu h4
          go_enter Tryz.func7, Tryz.ntmps7
          go_wp2_with (first
          | (go_at_call 45; refine (HA.out _).mono ?_; rintro e w1 ⟨rfl, hb⟩; have BB : Hid (Below W.heap.size W w1) := bstep (by repeat (first | exact Below.refl _ _ | refine Below.setCell ?_ (by simp; try omega) _ | refine Below.alloc ?_ (by simp; try omega) _ | refine Below.drew ?_)) hb; have T2 : Ty3 w1 W.heap.size x y z s t u := (Ty3.new W x y z s t u).keep hb; have T : Hid (Ty3 w1 W.heap.size x y z s t u) := T2; obtain ⟨hl3, c0, c1, c2, c3, c4, c5⟩ := T2; clear hb HA)
          | (go_at_call 46; refine (HB.out _ BB.out).mono ?_; rintro e w2 ⟨⟨b, rfl, hw⟩, hb⟩; have HH : Hid (WAt b ps w2) := hw; have BB2 : Below W.heap.size W w2 := bstep BB.out hb; clear BB; have BB : Hid (Below W.heap.size W w2) := BB2; have T2 := T.out.keep hb; clear T hl3 c0 c1 c2 c3 c4 c5; have T : Hid (Ty3 w2 W.heap.size x y z s t u) := T2; obtain ⟨hl3, c0, c1, c2, c3, c4, c5⟩ := T2; clear hb HB hw BB2)
          | (go_at_call 50; refine (LD.out _ _ _ _ _ HH.out (by first | exact L1.out | exact L2.out | exact L3.out)).mono ?_; rintro e w3 ⟨rfl, hb⟩; have HH2 := HH.out.below hb; clear HH; have HH : Hid (WAt b ps w3) := HH2; have BB2 : Below W.heap.size W w3 := bstep BB.out hb; clear BB; have BB : Hid (Below W.heap.size W w3) := BB2; have T2 := T.out.keep hb; clear T hl3 c0 c1 c2 c3 c4 c5; have T : Hid (Ty3 w3 W.heap.size x y z s t u) := T2; obtain ⟨hl3, c0, c1, c2, c3, c4, c5⟩ := T2; clear hb HH2 BB2)
          | (go_at_call 48; refine (SU.out _ _ _ _ _ _ _ HH.out (by first | exact S1.out | exact S2.out | exact S3.out | exact S4.out | exact S5.out | exact S6.out)).mono ?_; rintro e w4 ⟨rfl, hb⟩; have HH2 := HH.out.below hb; clear HH; have HH : Hid (WAt b ps w4) := HH2; have BB2 : Below W.heap.size W w4 := bstep BB.out hb; clear BB; have BB : Hid (Below W.heap.size W w4) := BB2; have T2 := T.out.keep hb; clear T hl3 c0 c1 c2 c3 c4 c5; have T : Hid (Ty3 w4 W.heap.size x y z s t u) := T2; obtain ⟨hl3, c0, c1, c2, c3, c4, c5⟩ := T2; clear hb HH2 BB2)
          | (go_at_call 52; refine (SM.out _).mono ?_; rintro e w5 ⟨rfl, hb⟩; have HH2 := HH.out.below hb; clear HH; have HH : Hid (WAt b ps w5) := HH2; have BB2 : Below W.heap.size W w5 := bstep BB.out hb; clear BB; have BB : Hid (Below W.heap.size W w5) := BB2; have T2 := T.out.keep hb; clear T hl3 c0 c1 c2 c3 c4 c5; have T : Hid (Ty3 w5 W.heap.size x y z s t u) := T2; obtain ⟨hl3, c0, c1, c2, c3, c4, c5⟩ := T2; clear hb HH2 BB2))
          all_goals go_ret
          all_goals refine ⟨retB ?_, BB.out⟩
          all_goals have ff1 := F1.out
          all_goals have ff2 := F2.out
          all_goals clear F1 F2 BB HH T c0 c1 c2 c3 c4 c5 hl3
          all_goals first | (simp_all; done) | (exfalso; omega) | (simp_all; omega)
      · subst h1 h2
        clear g1 g2 g3 g4 g5 g6 f1 f2 hxy hs ht hu SU SM
        go_enter Tryz.func7, Tryz.ntmps7
        go_wp2_with (first
          | (go_at_call 45; refine (HA.out _).mono ?_; rintro e w1 ⟨rfl, hb⟩; have BB : Hid (Below W.heap.size W w1) := bstep (by repeat (first | exact Below.refl _ _ | refine Below.setCell ?_ (by simp; try omega) _ | refine Below.alloc ?_ (by simp; try omega) _ | refine Below.drew ?_)) hb; have T2 : Ty3 w1 W.heap.size x y z s t u := (Ty3.new W x y z s t u).keep hb; have T : Hid (Ty3 w1 W.heap.size x y z s t u) := T2; obtain ⟨hl3, c0, c1, c2, c3, c4, c5⟩ := T2; clear hb HA)
          | (go_at_call 46; refine (HB.out _ BB.out).mono ?_; rintro e w2 ⟨⟨b, rfl, hw⟩, hb⟩; have HH : Hid (WAt b ps w2) := hw; have BB2 : Below W.heap.size W w2 := bstep BB.out hb; clear BB; have BB : Hid (Below W.heap.size W w2) := BB2; have T2 := T.out.keep hb; clear T hl3 c0 c1 c2 c3 c4 c5; have T : Hid (Ty3 w2 W.heap.size x y z s t u) := T2; obtain ⟨hl3, c0, c1, c2, c3, c4, c5⟩ := T2; clear hb HB hw BB2)
          | (go_at_call 50; refine (LD.out _ _ _ _ _ HH.out (by first | exact L1.out | exact L2.out | exact L3.out)).mono ?_; rintro e w3 ⟨rfl, hb⟩; have HH2 := HH.out.below hb; clear HH; have HH : Hid (WAt b ps w3) := HH2; have BB2 : Below W.heap.size W w3 := bstep BB.out hb; clear BB; have BB : Hid (Below W.heap.size W w3) := BB2; have T2 := T.out.keep hb; clear T hl3 c0 c1 c2 c3 c4 c5; have T : Hid (Ty3 w3 W.heap.size x y z s t u) := T2; obtain ⟨hl3, c0, c1, c2, c3, c4, c5⟩ := T2; clear hb HH2 BB2))
        exact bodyPost_ret (results_tmp rfl _ _ _) rfl ⟨rfl, BB.out⟩
    · subst h1
      clear g1 g2 g3 g4 g5 g6 f1 f2 hxy hs ht hu SU SM
      go_enter Tryz.func7, Tryz.ntmps7
      go_wp2_with (first
          | (go_at_call 45; refine (HA.out _).mono ?_; rintro e w1 ⟨rfl, hb⟩; have BB : Hid (Below W.heap.size W w1) := bstep (by repeat (first | exact Below.refl _ _ | refine Below.setCell ?_ (by simp; try omega) _ | refine Below.alloc ?_ (by simp; try omega) _ | refine Below.drew ?_)) hb; have T2 : Ty3 w1 W.heap.size x y z s t u := (Ty3.new W x y z s t u).keep hb; have T : Hid (Ty3 w1 W.heap.size x y z s t u) := T2; obtain ⟨hl3, c0, c1, c2, c3, c4, c5⟩ := T2; clear hb HA)
          | (go_at_call 46; refine (HB.out _ BB.out).mono ?_; rintro e w2 ⟨⟨b, rfl, hw⟩, hb⟩; have HH : Hid (WAt b ps w2) := hw; have BB2 : Below W.heap.size W w2 := bstep BB.out hb; clear BB; have BB : Hid (Below W.heap.size W w2) := BB2; have T2 := T.out.keep hb; clear T hl3 c0 c1 c2 c3 c4 c5; have T : Hid (Ty3 w2 W.heap.size x y z s t u) := T2; obtain ⟨hl3, c0, c1, c2, c3, c4, c5⟩ := T2; clear hb HB hw BB2)
          | (go_at_call 50; refine (LD.out _ _ _ _ _ HH.out (by first | exact L1.out | exact L2.out | exact L3.out)).mono ?_; rintro e w3 ⟨rfl, hb⟩; have HH2 := HH.out.below hb; clear HH; have HH : Hid (WAt b ps w3) := HH2; have BB2 : Below W.heap.size W w3 := bstep BB.out hb; clear BB; have BB : Hid (Below W.heap.size W w3) := BB2; have T2 := T.out.keep hb; clear T hl3 c0 c1 c2 c3 c4 c5; have T : Hid (Ty3 w3 W.heap.size x y z s t u) := T2; obtain ⟨hl3, c0, c1, c2, c3, c4, c5⟩ := T2; clear hb HH2 BB2))
      exact bodyPost_ret (results_tmp rfl _ _ _) rfl ⟨rfl, BB.out⟩
  · clear g1 g2 g3 g4 g5 g6 f1 f2 hxy hs ht hu SU SM
    go_enter Tryz.func7, Tryz.ntmps7
    go_wp2_with (first
          | (go_at_call 45; refine (HA.out _).mono ?_; rintro e w1 ⟨rfl, hb⟩; have BB : Hid (Below W.heap.size W w1) := bstep (by repeat (first | exact Below.refl _ _ | refine Below.setCell ?_ (by simp; try omega) _ | refine Below.alloc ?_ (by simp; try omega) _ | refine Below.drew ?_)) hb; have T2 : Ty3 w1 W.heap.size x y z s t u := (Ty3.new W x y z s t u).keep hb; have T : Hid (Ty3 w1 W.heap.size x y z s t u) := T2; obtain ⟨hl3, c0, c1, c2, c3, c4, c5⟩ := T2; clear hb HA)
          | (go_at_call 46; refine (HB.out _ BB.out).mono ?_; rintro e w2 ⟨⟨b, rfl, hw⟩, hb⟩; have HH : Hid (WAt b ps w2) := hw; have BB2 : Below W.heap.size W w2 := bstep BB.out hb; clear BB; have BB : Hid (Below W.heap.size W w2) := BB2; have T2 := T.out.keep hb; clear T hl3 c0 c1 c2 c3 c4 c5; have T : Hid (Ty3 w2 W.heap.size x y z s t u) := T2; obtain ⟨hl3, c0, c1, c2, c3, c4, c5⟩ := T2; clear hb HB hw BB2)
          | (go_at_call 50; refine (LD.out _ _ _ _ _ HH.out (by first | exact L1.out | exact L2.out | exact L3.out)).mono ?_; rintro e w3 ⟨rfl, hb⟩; have HH2 := HH.out.below hb; clear HH; have HH : Hid (WAt b ps w3) := HH2; have BB2 : Below W.heap.size W w3 := bstep BB.out hb; clear BB; have BB : Hid (Below W.heap.size W w3) := BB2; have T2 := T.out.keep hb; clear T hl3 c0 c1 c2 c3 c4 c5; have T : Hid (Ty3 w3 W.heap.size x y z s t u) := T2; obtain ⟨hl3, c0, c1, c2, c3, c4, c5⟩ := T2; clear hb HH2 BB2))
    exact bodyPost_ret (results_tmp rfl _ _ _) rfl ⟨rfl, BB.out⟩
theorem bytes_of {s t : ByteArray} (h : s.toList = t.toList) : s = t := by
  rw [Lib.toList_data, Lib.toList_data] at h
  obtain ⟨s⟩ := s
  obtain ⟨t⟩ := t
  simp only at h
  rw [Array.toList_inj.1 h]
theorem ArraysOrder_any (v : Value) (l : List Cls) (x : Int) (s : ByteArray) (y : Int) (t : ByteArray) (z : Int) (u : ByteArray) (W : World) (h : IsClss W v l) (hs : s.size ≤ maxLen) (ht : t.size ≤ maxLen) (hu : u.size ≤ maxLen) : Calls Tryz.prog 7 #[v, .agg #[.int .i64 x, .string s], .agg #[.int .i64 y, .string t], .agg #[.int .i64 z, .string u]] W fun e w' => e = .returned (.bool true) ∧ Below W.heap.size W w' := by
  have hT := tyW l (clss_w h)
  have su : ∀ {x y : Int} {s t : ByteArray}, ldI (wld l) x s = 0 → ldI (wld l) y t = 0 → suI (wld l) x s y t = .tuple #[.bool (subB (wld l) x s y t), .int .i64 0] := fun h1 h2 => by rw [suI, if_pos h1, if_pos h2]
  refine order_walk v l (wld l) rfl x y z s t u hs ht hu W h _ _ _ rfl rfl rfl (subB (wld l) x s y t) (subB (wld l) y t z u) (subB (wld l) x s z u) (subB (wld l) y t x s) _ (fun h1 _ _ => ?_) (fun h1 h2 _ => su h1 h2) (fun _ h2 h3 => su h2 h3) (fun h1 _ h3 => su h1 h3) (fun h1 h2 _ => su h2 h1) (fun h1 h2 _ h4 h5 => ?_) rfl (fun h1 h2 h3 a b => sub_trans hT h1 h2 h3 a b) (fun h1 h2 _ a b => ?_) (fun h1 h2 _ => ⟨(ld_facts h1).1, (ld_facts h2).1⟩)
  · rw [su h1 h1, sub_refl h1]
  · rw [su (ld_up h1 h4) (ld_up h2 h5), sub_up (ld_facts h1).1 (ld_facts h2).1]
  · obtain ⟨e1, e2⟩ := sub_anti hT h1 h2 a b
    rw [decide_eq_true e1, decide_eq_true (bytes_of e2)]; rfl
end Go.Proofs.YtpbnjmncjecobaaGreat
