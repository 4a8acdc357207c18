/- Layer 12: a nil world; the law ChooseNil. (Written by genchn.py.) -/
import Derived.Test.YtfoldbhlmmmpeaaGreatOvG
import Derived.Test.YtfoldbhlmmmpeaaGreatOvB
import Derived.Test.YtfoldbhlmmmpeaaGreatAcE
namespace Go.Proofs.YtfoldbhlmmmpeaaGreat
open Go.RowKit Go.Maps

/-- a block of two cells -/
theorem row2 {w : World} {n : Nat} {t : TypeId} {a0 a1 : Value} (h : w.heap[n]? = some (.cells #[a0, a1] t (0, 0))) : w.cell? ⟨n, 0, none⟩ = some a0 ∧ w.cell? ⟨n, 1, none⟩ = some a1 ∧ w.frozen? ⟨n, 0, none⟩ = false ∧ w.frozen? ⟨n, 1, none⟩ = false ∧ n < w.heap.size :=
  ⟨(cell_of_row w n 0 _ _ _ h).trans rfl, (cell_of_row w n 1 _ _ _ h).trans rfl, froz h 0, froz h 1, (Array.getElem?_eq_some_iff.1 h).1⟩
set_option maxRecDepth 100000 in
set_option maxHeartbeats 1000000 in
theorem first_no1 {b : Nat} {ps : List Plc} {W : World} (h : WAt b ps W) (hi : WI ps) (r c i : Int) (hm : methI ps c i = none) : Calls Tryz.prog 22 #[.pointer (some ⟨b, 0, none⟩), .int .i64 r, .agg #[.int .i64 c, .int .i64 i]] W fun e w' => e = .returned (idE ((0, 0), 3)) ∧ Below W.heap.size W w' := by
  have HR : Hid (∀ w, Below W.heap.size W w → Calls Tryz.prog 64 #[.pointer (some ⟨b, 0, none⟩), .agg #[.int .i64 c, .int .i64 i]] w fun e w' => e = .returned (.tuple #[.agg #[.string ⟨#[]⟩, .string ⟨#[]⟩, .int .i64 0, .int .i64 0, .int .i64 0, .slice none 0 0, .int .i64 0, .int .i64 0, .pointer none], .int .i64 3]) ∧ Below w.heap.size w w') := fun w hb => by
    have := read_c (h.below hb) hi c i
    rw [hm] at this
    exact this
  have HZ2 : Hid (((W.alloc (.cells #[.int .i64 c, .int .i64 i] 24)).alloc (.cells #[.int .i64 0, .int .i64 0] 24)).heap[W.heap.size + 1]? = some (.cells #[.int .i64 0, .int .i64 0] 24 (0, 0))) := halloc2 _ _ (by simp)
  clear h hi hm
  go_enter Tryz.func22, Tryz.ntmps22
  go_wp2_with (go_at_call 64; refine (HR.out _ (by repeat (first | exact Below.refl _ _ | refine Below.setCell ?_ (by simp; try omega) _ | refine Below.alloc ?_ (by simp; try omega) _ | refine Below.drew ?_))).mono ?_; rintro e w1 ⟨rfl, hb⟩; have Bw1 : Hid (Below (W.heap.size + 2) ((W.alloc (.cells #[.int .i64 c, .int .i64 i] 24)).alloc (.cells #[.int .i64 0, .int .i64 0] 24)) w1) := hb.mono (by simp); obtain ⟨z0, z1, f0, f1, zL⟩ := row2 ((Bw1.out.block (W.heap.size + 1) (by omega)).trans HZ2.out); clear hb HR)
  exact bodyPost_ret (v := idE ((0, 0), 3)) (by simp [results, Tryz.results22, go_sem, idE, *]) rfl ⟨rfl, (by have hbw : Below W.heap.size W w1 := (((Below.refl _ W).alloc (Nat.le_refl _) _).alloc (by simp) _).trans (Bw1.out.mono (by omega)); repeat (first | refine Below.setCell ?_ (by simp; try omega) _ | refine Below.alloc ?_ (by have := hbw.size; simp; try omega) _ | exact hbw))⟩
set_option maxRecDepth 100000 in
set_option maxHeartbeats 1000000 in
theorem first_no2 {b : Nat} {ps : List Plc} {W : World} (h : WAt b ps W) (hi : WI ps) (r c i : Int) (m : HM) (hm : methI ps c i = some m) (hr : plcI ps r = none) : Calls Tryz.prog 22 #[.pointer (some ⟨b, 0, none⟩), .int .i64 r, .agg #[.int .i64 c, .int .i64 i]] W fun e w' => e = .returned (idE ((0, 0), 3)) ∧ Below W.heap.size W w' := by
  have HR : Hid (∀ w, Below W.heap.size W w → Calls Tryz.prog 64 #[.pointer (some ⟨b, 0, none⟩), .agg #[.int .i64 c, .int .i64 i]] w fun e w' => (∃ ma mk mo, e = .returned (.tuple #[.agg #[.string m.nm, .string m.ds, .int .i64 m.fl, .int .i64 m.lo, .int .i64 m.st, .slice ma mk mo, .int .i64 c, .int .i64 i, .pointer (some ⟨b, 0, none⟩)], .int .i64 0])) ∧ Below w.heap.size w w') := fun w hb => by
    have := read_c (h.below hb) hi c i
    rw [hm] at this
    exact this
  have HZ2 : Hid (((W.alloc (.cells #[.int .i64 c, .int .i64 i] 24)).alloc (.cells #[.int .i64 0, .int .i64 0] 24)).heap[W.heap.size + 1]? = some (.cells #[.int .i64 0, .int .i64 0] 24 (0, 0))) := halloc2 _ _ (by simp)
  have HD : Hid (∀ w, Below W.heap.size W w → Calls Tryz.prog 58 #[.pointer (some ⟨b, 0, none⟩), .int .i64 r] w fun e w' => e = .returned (.tuple #[.slice none 0 0, .int .i64 3]) ∧ Below w.heap.size w w') := fun w hb => down_no (h.below hb) r hr
  clear h hi hm hr
  go_enter Tryz.func22, Tryz.ntmps22
  go_wp2_with (first
    | (go_at_call 64; refine (HR.out _ (by repeat (first | exact Below.refl _ _ | refine Below.setCell ?_ (by simp; try omega) _ | refine Below.alloc ?_ (by simp; try omega) _ | refine Below.drew ?_))).mono ?_; rintro e w1 ⟨⟨ma, mk, mo, rfl⟩, hb⟩; have Bw1 : Hid (Below (W.heap.size + 2) ((W.alloc (.cells #[.int .i64 c, .int .i64 i] 24)).alloc (.cells #[.int .i64 0, .int .i64 0] 24)) w1) := hb.mono (by simp); clear hb HR)
    | (go_at_call 58; refine (HD.out _ ((((((Below.refl _ W).alloc (Nat.le_refl _) _).alloc (by simp) _).trans (Bw1.out.mono (by omega)))).alloc (by have := Bw1.out.size; simp at this; omega) _)).mono ?_; rintro e w2 ⟨rfl, hb⟩; have Bw2 : Hid (Below (W.heap.size + 2) ((W.alloc (.cells #[.int .i64 c, .int .i64 i] 24)).alloc (.cells #[.int .i64 0, .int .i64 0] 24)) w2) := (Bw1.out.alloc (by have := Bw1.out.size; simpa using this) _).trans (hb.mono (by have := Bw1.out.size; simp at this; simp; omega)); obtain ⟨z0, z1, f0, f1, zL⟩ := row2 ((Bw2.out.block (W.heap.size + 1) (by omega)).trans HZ2.out); clear hb HD))
  exact bodyPost_ret (v := idE ((0, 0), 3)) (by simp [results, Tryz.results22, go_sem, idE, *]) rfl ⟨rfl, (by have hbw : Below W.heap.size W w2 := (((Below.refl _ W).alloc (Nat.le_refl _) _).alloc (by simp) _).trans (Bw2.out.mono (by omega)); repeat (first | refine Below.setCell ?_ (by simp; try omega) _ | refine Below.alloc ?_ (by have := hbw.size; simp; try omega) _ | exact hbw))⟩
theorem firI_eq {ps : List Plc} {r : Int} {a : Int × Int} {m : HM} {k : Nat} {q : Plc} (hm : methI ps a.1 a.2 = some m) (hk : r = (k : Int)) (hq : ps[k]? = some q) : firI ps r a = lstI (chL (ps.map nd) k) (gthL ps a (askL ps m a (chL (ps.map nd) k).reverse)) := by
  subst hk
  rw [firI, hm, plcI_nat, hq]
  rfl
theorem con_cast (l : List Nat) (k : Nat) : (l.map (fun k : Nat => (k : Int))).contains (k : Int) = l.reverse.contains k := by
  rw [Bool.eq_iff_iff]
  simp only [List.contains_iff_mem, List.mem_map, List.mem_reverse]
  exact ⟨fun ⟨a, h, e⟩ => by have : a = k := by omega
                             subst this; exact h, fun h => ⟨k, h, rfl⟩⟩
set_option maxRecDepth 100000 in
set_option maxHeartbeats 4000000 in
theorem first_yes {b : Nat} {ps : List Plc} {W : World} (h : WAt b ps W) (hi : WI ps) (k : Nat) (q : Plc) (hq : ps[k]? = some q) (c i : Int) (m : HM) (hm : methI ps c i = some m) : Calls Tryz.prog 22 #[.pointer (some ⟨b, 0, none⟩), .int .i64 (k : Int), .agg #[.int .i64 c, .int .i64 i]] W fun e w' => e = .returned (idE (firI ps (k : Int) (c, i))) ∧ Below W.heap.size W w' := by
  have HR : Hid (∀ w, Below W.heap.size W w → Calls Tryz.prog 64 #[.pointer (some ⟨b, 0, none⟩), .agg #[.int .i64 c, .int .i64 i]] w fun e w' => (∃ ma mk mo, e = .returned (.tuple #[.agg #[.string m.nm, .string m.ds, .int .i64 m.fl, .int .i64 m.lo, .int .i64 m.st, .slice ma mk mo, .int .i64 c, .int .i64 i, .pointer (some ⟨b, 0, none⟩)], .int .i64 0])) ∧ Below w.heap.size w w') := fun w hb => by
    have := read_c (h.below hb) hi c i
    rw [hm] at this
    exact this
  have HZ2 : Hid (((W.alloc (.cells #[.int .i64 c, .int .i64 i] 24)).alloc (.cells #[.int .i64 0, .int .i64 0] 24)).heap[W.heap.size + 1]? = some (.cells #[.int .i64 0, .int .i64 0] 24 (0, 0))) := halloc2 _ _ (by simp)
  have hKb : (chL (ps.map nd) k).length ≤ 300 := by
    have h1 := ch_len hi.wo k (by simpa using (List.getElem?_eq_some_iff.1 hq).1)
    have h2 := hi.hi
    have h3 := (List.getElem?_eq_some_iff.1 hq).1
    omega
  have HD : Hid (∀ w, Below W.heap.size W w → Calls Tryz.prog 58 #[.pointer (some ⟨b, 0, none⟩), .int .i64 (k : Int)] w fun e w' => ∃ g cap, e = .returned (.tuple #[.slice (some ⟨g, 0, none⟩) (chL (ps.map nd) k).length cap, .int .i64 0]) ∧ w'.ownsRow w.heap.size 3 1 (.slice (some ⟨g, 0, none⟩) (chL (ps.map nd) k).length cap) (chL (ps.map nd) k).length ((chL (ps.map nd) k).reverse.map numV) ∧ Below w.heap.size w w') := fun w hb => down_c (h.below hb) hi k q hq
  obtain ⟨G, hG⟩ : ∃ G, gthL ps (c, i) (askL ps m (c, i) (chL (ps.map nd) k).reverse) = G := ⟨_, rfl⟩
  rw [firI_eq (a := (c, i)) hm rfl hq, hG]
  obtain ⟨R, hR⟩ : ∃ R, lstI (chL (ps.map nd) k) G = R := ⟨_, rfl⟩
  have HRR : Hid (lstI (chL (ps.map nd) k) G = R) := hR
  rw [hR]
  have hU : Below W.heap.size W ((W.alloc (.cells #[.int .i64 c, .int .i64 i] 24)).alloc (.cells #[.int .i64 0, .int .i64 0] 24)) := ((Below.refl _ W).alloc (Nat.le_refl _) _).alloc (by simp) _
  have HG : Hid (∀ w (x : P9) (v : Value), Below (W.heap.size + 2) ((W.alloc (.cells #[.int .i64 c, .int .i64 i] 24)).alloc (.cells #[.int .i64 0, .int .i64 0] 24)) w → OkP ps x → x.id = (c, i) → (x.nm, x.ds, x.c) = (m.nm, m.ds, c) → Rds w v (chL (ps.map nd) k).length 1 ((chL (ps.map nd) k).reverse.map numV) → Calls Tryz.prog 60 #[x.agg b, v] w fun e w' => ∃ (L : List P9) (g cap : Nat), e = .returned (.slice (some ⟨g, 0, none⟩) L.length cap) ∧ (∀ y ∈ L, OkP ps y) ∧ L.map P9.id = G ∧ w'.ownsRow w.heap.size 85 9 (.slice (some ⟨g, 0, none⟩) L.length cap) L.length (flat9 b L) ∧ Below w.heap.size w w') := fun w x v hb ho hid hnd hv => by
    have := gth_c (h.below (hU.trans (hb.mono (by omega)))) hi x ho v (chL (ps.map nd) k).reverse (by rw [List.length_reverse]; exact hv) (by rw [List.length_reverse]; exact hKb)
    simp only [Prod.mk.injEq] at hnd
    rw [hid, hnd.1, hnd.2.1, hnd.2.2] at this
    rw [askL] at hG
    rw [hG] at this
    exact this
  have HN : Hid (∀ (w : World) (v : Value) (p : Nat), Rds w v (chL (ps.map nd) k).length 1 ((chL (ps.map nd) k).reverse.map numV) → Calls Tryz.prog 65 #[v, .int .i64 (p : Int)] w fun e w' => e = .returned (.bool ((chL (ps.map nd) k).reverse.contains p)) ∧ Below w.heap.size w w') := fun w v p hv => nContains_any v (chL (ps.map nd) k).reverse p w (by rw [List.length_reverse]; exact hv) (by rw [List.length_reverse]; omega)
  have HM : Hid (methI ps c i = some m) := hm
  have hGb : G.length ≤ 301 := by
    rw [← hG]
    refine Nat.le_trans (gthL_len _ _ _) ?_
    have := nskL_len ps m.nm m.ds (c, i).1 (chL (ps.map nd) k).reverse
    rw [List.length_reverse] at this
    rw [askL, List.length_cons]
    omega
  generalize chL (ps.map nd) k = l at *
  obtain ⟨K, hK⟩ : ∃ K, l.length = K := ⟨_, rfl⟩
  rw [hK] at HD HG HN hKb
  clear h hi hm hq hG hU hK hR
  simp only [P9.agg] at HG
  go_enter Tryz.func22, Tryz.ntmps22
  go_upto_region 8 with (first
    | (go_at_call 64; refine (HR.out _ (by repeat (first | exact Below.refl _ _ | refine Below.setCell ?_ (by simp; try omega) _ | refine Below.alloc ?_ (by simp; try omega) _ | refine Below.drew ?_))).mono ?_; rintro e w1 ⟨⟨ma, mk, mo, rfl⟩, hb⟩; have Bw1 : Hid (Below (W.heap.size + 2) ((W.alloc (.cells #[.int .i64 c, .int .i64 i] 24)).alloc (.cells #[.int .i64 0, .int .i64 0] 24)) w1) := hb.mono (by simp); clear hb HR)
    | (go_at_call 58; refine (HD.out _ ((((((Below.refl _ W).alloc (Nat.le_refl _) _).alloc (by simp) _).trans (Bw1.out.mono (by omega)))).alloc (by have := Bw1.out.size; simp at this; omega) _)).mono ?_; rintro e w2 ⟨dg, dc, rfl, ho, hb⟩; have Bw2 : Hid (Below (W.heap.size + 2) ((W.alloc (.cells #[.int .i64 c, .int .i64 i] 24)).alloc (.cells #[.int .i64 0, .int .i64 0] 24)) w2) := (Bw1.out.alloc (by have := Bw1.out.size; simpa using this) _).trans (hb.mono (by have := Bw1.out.size; simp at this; simp; omega)); have D2 : Hid (Rds w2 (.slice (some ⟨dg, 0, none⟩) K dc) K 1 (l.reverse.map numV)) := own_rds ho; obtain ⟨p0, p1, p2, p3, p4, p5, p6, p7, p8, pL⟩ := row9 ((hb.block w1.heap.size (by simp)).trans (halloc1 w1 (.cells #[.string m.nm, .string m.ds, .int .i64 m.fl, .int .i64 m.lo, .int .i64 m.st, .slice ma mk mo, .int .i64 c, .int .i64 i, .pointer (some ⟨b, 0, none⟩)] 85))); clear hb ho HD)
    | (go_at_call 60; refine (HG.out w2 ⟨m.nm, m.ds, m.fl, m.lo, m.st, ma, mk, mo, c, i⟩ (.slice (some ⟨dg, 0, none⟩) K dc) Bw2.out ⟨m, HM.out, rfl, rfl, rfl⟩ rfl rfl D2.out).mono ?_; rintro e w3 ⟨L, g, cap, rfl, hok, hid, ho, hb⟩; have OK3 : Hid (∀ y ∈ L, OkP ps y) := hok; have ID3 : Hid (L.map P9.id = G) := hid; have O3 : Hid (w3.ownsRow w2.heap.size 85 9 (.slice (some ⟨g, 0, none⟩) L.length cap) L.length (flat9 b L)) := ho; have Bw3 : Hid (Below (W.heap.size + 2) ((W.alloc (.cells #[.int .i64 c, .int .i64 i] 24)).alloc (.cells #[.int .i64 0, .int .i64 0] 24)) w3) := Bw2.out.trans (hb.mono (Nat.le_trans (by simp) Bw2.out.size)); have D3 : Hid (Rds w3 (.slice (some ⟨dg, 0, none⟩) K dc) K 1 (l.reverse.map numV)) := D2.out.keep hb; obtain ⟨z0, z1, f0, f1, zL⟩ := row2 ((Bw3.out.block (W.heap.size + 1) (by omega)).trans HZ2.out); clear hb ho hok hid HG))
  rcases List.eq_nil_or_concat L with hL | ⟨L0, y, hL⟩
  · subst hL
    have hG0 : G = [] := ID3.out.symm
    subst hG0
    have eR : R = ((0, 0), 6) := HRR.out.symm
    subst eR
    clear HRR OK3 ID3 O3
    go_wp2
    exact bodyPost_ret (v := idE ((0, 0), 6)) (by simp [results, Tryz.results22, go_sem, idE, *]) rfl ⟨rfl, (by have hbw : Below W.heap.size W w3 := (((Below.refl _ W).alloc (Nat.le_refl _) _).alloc (by simp) _).trans (Bw3.out.mono (by omega)); repeat (first | refine Below.setCell ?_ (by simp; try omega) _ | refine Below.alloc ?_ (by have := hbw.size; simp; try omega) _ | exact hbw))⟩
  · subst hL
    have hlast : (L0.concat y)[L0.length]? = some y := by simp
    have hyo := OK3.out y (by simp)
    obtain ⟨e0, e1, e2, e3, e4, e5, e6, e7, e8, gL⟩ := row9_cells O3.out hlast
    have hGl : G.getLast? = some y.id := by rw [← ID3.out, List.concat_eq_append, List.map_append]; simp
    have HGl : Hid (G.getLast? = some y.id) := hGl
    have hlen : (L0.concat y).length = L0.length + 1 := by simp
    obtain ⟨p, hp⟩ : ∃ p : Nat, y.c = (p : Int) := by
      obtain ⟨m2, hm2, _⟩ := hyo
      rcases plcI_cases ps y.c with ⟨h1, _⟩ | ⟨p, _, e, _⟩
      · rw [methI, h1] at hm2; cases hm2
      · exact ⟨p, e⟩
    have HN2 : Hid (∀ w, Below w3.heap.size w3 w → Calls Tryz.prog 65 #[.slice (some ⟨dg, 0, none⟩) K dc, .int .i64 (p : Int)] w fun e w' => e = .returned (.bool (l.reverse.contains p)) ∧ Below w.heap.size w w') := fun w hb => HN.out w _ p (D3.out.keep hb)
    obtain ⟨yn, yd, yf, yl, ys, ya, yk, yo, yc, yi⟩ := y
    simp only at hp
    subst hp
    have HCC : Hid ((l.map (fun k : Nat => (k : Int))).contains (p : Int) = l.reverse.contains p) := con_cast l p
    have HRC : Hid (R = if l.reverse.contains p then (((p : Int), yi), 0) else ((0, 0), 6)) := by rw [Hid, ← HRR.out, lstI_last HGl.out, P9.id, HCC.out]
    clear HCC HRR
    generalize l.reverse.contains p = B at *
    rw [hlen] at O3 ⊢
    obtain ⟨n, hn⟩ : ∃ n, L0.length = n := ⟨_, rfl⟩
    have hnb : n ≤ 1000000 := by
      have e := congrArg List.length ID3.out
      simp at e
      omega
    rw [hn] at O3 e0 e1 e2 e3 e4 e5 e6 e7 e8 ⊢
    clear hlen hlast hyo hGl HGl hn OK3 ID3 HN
    cases B
    all_goals
      have eR := HRC.out
      simp only [Bool.false_eq_true, if_false, if_true] at eR
      subst eR
      clear HRC
      go_wp2_with (go_at_call 65; refine (HN2.out _ ((Below.refl _ _).alloc (Nat.le_refl _) _)).mono ?_; rintro e w4 ⟨rfl, hb⟩; clear z0 z1 f0 f1 zL; have Bw4 : Hid (Below (W.heap.size + 2) ((W.alloc (.cells #[.int .i64 c, .int .i64 i] 24)).alloc (.cells #[.int .i64 0, .int .i64 0] 24)) w4) := (Bw3.out.alloc (by have := Bw3.out.size; simpa using this) _).trans (hb.mono (by have := Bw3.out.size; simp at this; simp; omega)); obtain ⟨z0, z1, f0, f1, zL⟩ := row2 ((Bw4.out.block (W.heap.size + 1) (by omega)).trans HZ2.out); obtain ⟨u0, u1, _, _, uL⟩ := row2 ((hb.block w3.heap.size (by simp)).trans (halloc1 w3 (.cells #[.int .i64 (p : Int), .int .i64 yi] 24))); clear hb HN2)
    · exact bodyPost_ret (v := idE ((0, 0), 6)) (by simp [results, Tryz.results22, go_sem, idE, *]) rfl ⟨rfl, (by have hbw : Below W.heap.size W w4 := (((Below.refl _ W).alloc (Nat.le_refl _) _).alloc (by simp) _).trans (Bw4.out.mono (by omega)); repeat (first | refine Below.setCell ?_ (by simp; try omega) _ | refine Below.alloc ?_ (by have := hbw.size; simp; try omega) _ | exact hbw))⟩
    · exact bodyPost_ret (v := idE (((p : Int), yi), 0)) (by simp [results, Tryz.results22, go_sem, idE, *]) rfl ⟨rfl, (by have hbw : Below W.heap.size W w4 := (((Below.refl _ W).alloc (Nat.le_refl _) _).alloc (by simp) _).trans (Bw4.out.mono (by omega)); repeat (first | refine Below.setCell ?_ (by simp; try omega) _ | refine Below.alloc ?_ (by have := hbw.size; simp; try omega) _ | exact hbw))⟩
theorem first_c {b : Nat} {ps : List Plc} {W : World} (h : WAt b ps W) (hi : WI ps) (r c i : Int) : Calls Tryz.prog 22 #[.pointer (some ⟨b, 0, none⟩), .int .i64 r, .agg #[.int .i64 c, .int .i64 i]] W fun e w' => e = .returned (idE (firI ps r (c, i))) ∧ Below W.heap.size W w' := by
  cases hm : methI ps c i with
  | none =>
    have e : firI ps r (c, i) = ((0, 0), 3) := by simp only [firI, hm]
    rw [e]; exact first_no1 h hi r c i hm
  | some m =>
    rcases plcI_cases ps r with ⟨h1, _⟩ | ⟨k, q, rfl, h2, h1⟩
    · have e : firI ps r (c, i) = ((0, 0), 3) := by simp only [firI, hm, h1]
      rw [e]; exact first_no2 h hi r c i m hm h1
    · exact first_yes h hi k q h2 c i m hm


/-- what One answers -/
def onI (ps : List Plc) (c : Int) (nm ds : ByteArray) : (Int × Int) × Int := match plcI ps c with
  | some q => oneV ps (candL ps nm ds q.cl)
  | none => ((0, 0), 3)
theorem one_c {b : Nat} {ps : List Plc} {W : World} (h : WAt b ps W) (hi : WI ps) (c : Int) (nm ds : ByteArray) : Calls Tryz.prog 93 #[.pointer (some ⟨b, 0, none⟩), .int .i64 c, .string nm, .string ds] W fun e w' => e = .returned (idE (onI ps c nm ds)) ∧ Below W.heap.size W w' := by
  rcases plcI_cases ps c with ⟨h1, _⟩ | ⟨k, q, rfl, h2, h1⟩
  · have e : onI ps c nm ds = ((0, 0), 3) := by rw [onI, h1]
    rw [e]; exact one_no h c h1 nm ds
  · have e : onI ps (k : Int) nm ds = oneV ps (candL ps nm ds q.cl) := by rw [onI, h1]
    rw [e]; exact one_yes h hi k q h2 nm ds
theorem rfr_err {ps : List Plc} {r : Int} {m : Int × Int} {x : Int} (h : rfrI ps r m = .error x) : x = 2 ∨ x = 3 := by
  rw [rfrI] at h
  split at h
  · split at h
    · cases h; exact .inl rfl
    · cases h
  · rename_i e he
    cases h
    rw [crdI] at he
    split at he
    · cases he
    · cases he; exact .inr rfl
/-- what Virtual answers -/
def virI (ps : List Plc) (r : Int) (m : Int × Int) : (Int × Int) × Int := match rfrI ps r m with
  | .error e => ((0, 0), e)
  | .ok x => if stB x.fl then ((0, 0), 23) else if (firI ps r m).2 = 0 then unaI ps (firI ps r m).1 else onI ps r x.nm x.ds
set_option maxRecDepth 100000 in
set_option maxHeartbeats 2000000 in
theorem vir_c {b : Nat} {ps : List Plc} {W : World} (h : WAt b ps W) (hi : WI ps) (r c i : Int) : Calls Tryz.prog 38 #[.pointer (some ⟨b, 0, none⟩), .int .i64 r, .agg #[.int .i64 c, .int .i64 i]] W fun e w' => e = .returned (idE (virI ps r (c, i))) ∧ Below W.heap.size W w' := by
  have HI : ∀ w, Below W.heap.size W w → WAt b ps w := fun w hb => h.below hb
  have HR : Hid (∀ w, Below W.heap.size W w → Calls Tryz.prog 92 #[.pointer (some ⟨b, 0, none⟩), .int .i64 r, .agg #[.int .i64 c, .int .i64 i]] w fun e w' => mthE (rfrI ps r (c, i)) e ∧ Below w.heap.size w w') := fun w hb => rfr_c (HI w hb) hi.pb r c i
  have HO : Hid (∀ nm ds w, Below W.heap.size W w → Calls Tryz.prog 93 #[.pointer (some ⟨b, 0, none⟩), .int .i64 r, .string nm, .string ds] w fun e w' => e = .returned (.tuple #[.agg #[.int .i64 (onI ps r nm ds).1.1, .int .i64 (onI ps r nm ds).1.2], .int .i64 (onI ps r nm ds).2]) ∧ Below w.heap.size w w') := fun nm ds w hb => one_c (HI w hb) hi r nm ds
  have HU : Hid (∀ c i w, Below W.heap.size W w → Calls Tryz.prog 94 #[.pointer (some ⟨b, 0, none⟩), .agg #[.int .i64 c, .int .i64 i]] w fun e w' => e = .returned (.tuple #[.agg #[.int .i64 (unaI ps (c, i)).1.1, .int .i64 (unaI ps (c, i)).1.2], .int .i64 (unaI ps (c, i)).2]) ∧ Below w.heap.size w w') := fun c i w hb => una_c (HI w hb) hi.pb c i
  have HF : Hid (∀ w, Below W.heap.size W w → Calls Tryz.prog 22 #[.pointer (some ⟨b, 0, none⟩), .int .i64 r, .agg #[.int .i64 c, .int .i64 i]] w fun e w' => e = .returned (idE (firI ps r (c, i))) ∧ Below w.heap.size w w') := fun w hb => first_c (HI w hb) hi r c i
  unfold virI
  cases hD : rfrI ps r (c, i) with
  | error x =>
    have hx : x ≠ 0 := by rcases rfr_err hD with rfl | rfl <;> decide
    rw [hD] at HR
    simp only [mthE] at HR
    clear h hi HI hD HO HU HF
    go_enter Tryz.func38, Tryz.ntmps38
    go_wp2_with (first
      | (go_at_call 92; refine (HR.out _ (by repeat (first | exact Below.refl _ _ | refine Below.setCell ?_ (by simp; try omega) _ | refine Below.alloc ?_ (by simp; try omega) _ | refine Below.drew ?_))).mono ?_; rintro e w1 ⟨rfl, hb⟩; have ad : w1.heap[W.heap.size]? = some (.cells #[.int .i64 c, .int .i64 i] 24 (0, 0)) := (hb.block (W.heap.size) (by first | omega | (simp; try omega))).trans (hkeep (halloc1 _ _)); (try clear aB a0 a1 af aL aN); have aB : Hid _ := ad; obtain ⟨a0, a1, af, aL⟩ := rw2 ad; have aN : ¬ W.heap.size = w1.heap.size := (by omega); clear ad; have zd : w1.heap[W.heap.size + 1]? = some (.cells #[.int .i64 0, .int .i64 0] 24 (0, 0)) := (hb.block (W.heap.size + 1) (by first | omega | (simp; try omega))).trans (halloc2 _ _ (by simp)); (try clear zB z0 z1 zf zL zN); have zB : Hid _ := zd; obtain ⟨z0, z1, zf, zL⟩ := rw2 zd; have zN : ¬ W.heap.size + 1 = w1.heap.size := (by omega); clear zd; have Bw1 : Hid (Below W.heap.size W w1) := bstep (by repeat (first | exact Below.refl _ _ | refine Below.setCell ?_ (by simp; try omega) _ | refine Below.alloc ?_ (by simp; try omega) _ | refine Below.drew ?_)) hb; clear hb HR))
    exact bodyPost_ret (v := idE ((0, 0), x)) (by simp [results, Tryz.results38, go_sem, idE, *]) rfl ⟨rfl, (by repeat (first | refine Below.setCell ?_ (by simp; try omega) _ | refine Below.alloc ?_ (by have := Bw1.out.size; simp; try omega) _ | refine Below.drew ?_ | exact Bw1.out))⟩
  | ok x =>
    rw [hD] at HR
    simp only [mthE] at HR
    simp only
    generalize firI ps r (c, i) = G at *
    obtain ⟨⟨g1, g2⟩, g3⟩ := G
    simp only [idE] at HF
    have HO2 : Hid _ := HO.out x.nm x.ds
    have HU2 : Hid _ := HU.out g1 g2
    generalize onI ps r x.nm x.ds = O at *
    simp only
    generalize unaI ps (g1, g2) = U at *
    obtain ⟨⟨o1, o2⟩, o3⟩ := O
    obtain ⟨⟨u1, u2⟩, u3⟩ := U
    simp only at HO2 HU2
    clear h hi HI hD HO HU
    cases hS : stB x.fl
    case true =>
      rw [stB] at hS
      clear HF HO2 HU2
      go_enter Tryz.func38, Tryz.ntmps38
      go_wp2_with (first
        | (go_at_call 92; refine (HR.out _ (by repeat (first | exact Below.refl _ _ | refine Below.setCell ?_ (by simp; try omega) _ | refine Below.alloc ?_ (by simp; try omega) _ | refine Below.drew ?_))).mono ?_; rintro e w1 ⟨⟨sa, sk, so, rfl⟩, hb⟩; have ad : w1.heap[W.heap.size]? = some (.cells #[.int .i64 c, .int .i64 i] 24 (0, 0)) := (hb.block (W.heap.size) (by first | omega | (simp; try omega))).trans (hkeep (halloc1 _ _)); (try clear aB a0 a1 af aL aN); have aB : Hid _ := ad; obtain ⟨a0, a1, af, aL⟩ := rw2 ad; have aN : ¬ W.heap.size = w1.heap.size := (by omega); clear ad; have zd : w1.heap[W.heap.size + 1]? = some (.cells #[.int .i64 0, .int .i64 0] 24 (0, 0)) := (hb.block (W.heap.size + 1) (by first | omega | (simp; try omega))).trans (halloc2 _ _ (by simp)); (try clear zB z0 z1 zf zL zN); have zB : Hid _ := zd; obtain ⟨z0, z1, zf, zL⟩ := rw2 zd; have zN : ¬ W.heap.size + 1 = w1.heap.size := (by omega); clear zd; have Bw1 : Hid (Below W.heap.size W w1) := bstep (by repeat (first | exact Below.refl _ _ | refine Below.setCell ?_ (by simp; try omega) _ | refine Below.alloc ?_ (by simp; try omega) _ | refine Below.drew ?_)) hb; clear hb HR))
      exact bodyPost_ret (v := idE ((0, 0), 23)) (by simp [results, Tryz.results38, go_sem, idE, *]) rfl ⟨rfl, (by repeat (first | refine Below.setCell ?_ (by simp; try omega) _ | refine Below.alloc ?_ (by have := Bw1.out.size; simp; try omega) _ | refine Below.drew ?_ | exact Bw1.out))⟩
    case false =>
      rw [stB] at hS
      by_cases hg : g3 = 0
      · subst hg
        clear HO2
        go_enter Tryz.func38, Tryz.ntmps38
        go_wp2_with (first
          | (go_at_call 92; refine (HR.out _ (by repeat (first | exact Below.refl _ _ | refine Below.setCell ?_ (by simp; try omega) _ | refine Below.alloc ?_ (by simp; try omega) _ | refine Below.drew ?_))).mono ?_; rintro e w1 ⟨⟨sa, sk, so, rfl⟩, hb⟩; have ad : w1.heap[W.heap.size]? = some (.cells #[.int .i64 c, .int .i64 i] 24 (0, 0)) := (hb.block (W.heap.size) (by first | omega | (simp; try omega))).trans (hkeep (halloc1 _ _)); (try clear aB a0 a1 af aL aN); have aB : Hid _ := ad; obtain ⟨a0, a1, af, aL⟩ := rw2 ad; have aN : ¬ W.heap.size = w1.heap.size := (by omega); clear ad; have zd : w1.heap[W.heap.size + 1]? = some (.cells #[.int .i64 0, .int .i64 0] 24 (0, 0)) := (hb.block (W.heap.size + 1) (by first | omega | (simp; try omega))).trans (halloc2 _ _ (by simp)); (try clear zB z0 z1 zf zL zN); have zB : Hid _ := zd; obtain ⟨z0, z1, zf, zL⟩ := rw2 zd; have zN : ¬ W.heap.size + 1 = w1.heap.size := (by omega); clear zd; have Bw1 : Hid (Below W.heap.size W w1) := bstep (by repeat (first | exact Below.refl _ _ | refine Below.setCell ?_ (by simp; try omega) _ | refine Below.alloc ?_ (by simp; try omega) _ | refine Below.drew ?_)) hb; clear hb HR)
          | (go_at_call 22; refine (HF.out _ (by repeat (first | refine Below.setCell ?_ (by simp; try omega) _ | refine Below.alloc ?_ (by have := Bw1.out.size; simp; try omega) _ | refine Below.drew ?_ | exact Bw1.out))).mono ?_; rintro e w2 ⟨rfl, hb⟩; have ad : w2.heap[W.heap.size]? = some (.cells #[.int .i64 c, .int .i64 i] 24 (0, 0)) := (hb.block (W.heap.size) (by first | omega | (simp; try omega))).trans (hkeep aB.out); (try clear aB a0 a1 af aL aN); have aB : Hid _ := ad; obtain ⟨a0, a1, af, aL⟩ := rw2 ad; have aN : ¬ W.heap.size = w2.heap.size := (by omega); clear ad; have zd : w2.heap[W.heap.size + 1]? = some (.cells #[.int .i64 0, .int .i64 0] 24 (0, 0)) := (hb.block (W.heap.size + 1) (by first | omega | (simp; try omega))).trans (hkeep zB.out); (try clear zB z0 z1 zf zL zN); have zB : Hid _ := zd; obtain ⟨z0, z1, zf, zL⟩ := rw2 zd; have zN : ¬ W.heap.size + 1 = w2.heap.size := (by omega); clear zd; have vd : w2.heap[w1.heap.size]? = some (.cells #[.string x.nm, .string x.ds, .int .i64 x.fl, .int .i64 x.lo, .int .i64 x.st, .slice sa sk so] 47 (0, 0)) := (hb.block (w1.heap.size) (by first | omega | (simp; try omega))).trans (halloc1 _ _); (try clear vB v0 v1 v2 v3 v4 v5 vf vL vN); have vB : Hid _ := vd; obtain ⟨v0, v1, v2, v3, v4, v5, vf, vL⟩ := rw6 vd; have vN : ¬ w1.heap.size = w2.heap.size := (by omega); clear vd; have Bw2 : Hid (Below W.heap.size W w2) := bstep (by repeat (first | refine Below.setCell ?_ (by simp; try omega) _ | refine Below.alloc ?_ (by have := Bw1.out.size; simp; try omega) _ | refine Below.drew ?_ | exact Bw1.out)) hb; clear hb HF)
          | (go_at_call 94; refine (HU2.out _ (by repeat (first | refine Below.setCell ?_ (by simp; try omega) _ | refine Below.alloc ?_ (by have := Bw2.out.size; simp; try omega) _ | refine Below.drew ?_ | exact Bw2.out))).mono ?_; rintro e w3 ⟨rfl, hb⟩; have zd : w3.heap[W.heap.size + 1]? = some (.cells #[.int .i64 0, .int .i64 0] 24 (0, 0)) := (hb.block (W.heap.size + 1) (by first | omega | (simp; try omega))).trans (hkeep zB.out); (try clear zB z0 z1 zf zL zN); have zB : Hid _ := zd; obtain ⟨z0, z1, zf, zL⟩ := rw2 zd; have zN : ¬ W.heap.size + 1 = w3.heap.size := (by omega); clear zd; have Bw3 : Hid (Below W.heap.size W w3) := bstep (by repeat (first | refine Below.setCell ?_ (by simp; try omega) _ | refine Below.alloc ?_ (by have := Bw2.out.size; simp; try omega) _ | refine Below.drew ?_ | exact Bw2.out)) hb; clear hb HU2))
        exact bodyPost_ret (v := idE ((u1, u2), u3)) (by simp [results, Tryz.results38, go_sem, idE, *]) rfl ⟨rfl, (by repeat (first | refine Below.setCell ?_ (by simp; try omega) _ | refine Below.alloc ?_ (by have := Bw3.out.size; simp; try omega) _ | refine Below.drew ?_ | exact Bw3.out))⟩
      · rw [if_neg hg]
        clear HU2
        go_enter Tryz.func38, Tryz.ntmps38
        go_wp2_with (first
          | (go_at_call 92; refine (HR.out _ (by repeat (first | exact Below.refl _ _ | refine Below.setCell ?_ (by simp; try omega) _ | refine Below.alloc ?_ (by simp; try omega) _ | refine Below.drew ?_))).mono ?_; rintro e w1 ⟨⟨sa, sk, so, rfl⟩, hb⟩; have ad : w1.heap[W.heap.size]? = some (.cells #[.int .i64 c, .int .i64 i] 24 (0, 0)) := (hb.block (W.heap.size) (by first | omega | (simp; try omega))).trans (hkeep (halloc1 _ _)); (try clear aB a0 a1 af aL aN); have aB : Hid _ := ad; obtain ⟨a0, a1, af, aL⟩ := rw2 ad; have aN : ¬ W.heap.size = w1.heap.size := (by omega); clear ad; have zd : w1.heap[W.heap.size + 1]? = some (.cells #[.int .i64 0, .int .i64 0] 24 (0, 0)) := (hb.block (W.heap.size + 1) (by first | omega | (simp; try omega))).trans (halloc2 _ _ (by simp)); (try clear zB z0 z1 zf zL zN); have zB : Hid _ := zd; obtain ⟨z0, z1, zf, zL⟩ := rw2 zd; have zN : ¬ W.heap.size + 1 = w1.heap.size := (by omega); clear zd; have Bw1 : Hid (Below W.heap.size W w1) := bstep (by repeat (first | exact Below.refl _ _ | refine Below.setCell ?_ (by simp; try omega) _ | refine Below.alloc ?_ (by simp; try omega) _ | refine Below.drew ?_)) hb; clear hb HR)
          | (go_at_call 22; refine (HF.out _ (by repeat (first | refine Below.setCell ?_ (by simp; try omega) _ | refine Below.alloc ?_ (by have := Bw1.out.size; simp; try omega) _ | refine Below.drew ?_ | exact Bw1.out))).mono ?_; rintro e w2 ⟨rfl, hb⟩; have ad : w2.heap[W.heap.size]? = some (.cells #[.int .i64 c, .int .i64 i] 24 (0, 0)) := (hb.block (W.heap.size) (by first | omega | (simp; try omega))).trans (hkeep aB.out); (try clear aB a0 a1 af aL aN); have aB : Hid _ := ad; obtain ⟨a0, a1, af, aL⟩ := rw2 ad; have aN : ¬ W.heap.size = w2.heap.size := (by omega); clear ad; have zd : w2.heap[W.heap.size + 1]? = some (.cells #[.int .i64 0, .int .i64 0] 24 (0, 0)) := (hb.block (W.heap.size + 1) (by first | omega | (simp; try omega))).trans (hkeep zB.out); (try clear zB z0 z1 zf zL zN); have zB : Hid _ := zd; obtain ⟨z0, z1, zf, zL⟩ := rw2 zd; have zN : ¬ W.heap.size + 1 = w2.heap.size := (by omega); clear zd; have vd : w2.heap[w1.heap.size]? = some (.cells #[.string x.nm, .string x.ds, .int .i64 x.fl, .int .i64 x.lo, .int .i64 x.st, .slice sa sk so] 47 (0, 0)) := (hb.block (w1.heap.size) (by first | omega | (simp; try omega))).trans (halloc1 _ _); (try clear vB v0 v1 v2 v3 v4 v5 vf vL vN); have vB : Hid _ := vd; obtain ⟨v0, v1, v2, v3, v4, v5, vf, vL⟩ := rw6 vd; have vN : ¬ w1.heap.size = w2.heap.size := (by omega); clear vd; have Bw2 : Hid (Below W.heap.size W w2) := bstep (by repeat (first | refine Below.setCell ?_ (by simp; try omega) _ | refine Below.alloc ?_ (by have := Bw1.out.size; simp; try omega) _ | refine Below.drew ?_ | exact Bw1.out)) hb; clear hb HF)
          | (go_at_call 93; refine (HO2.out _ (by repeat (first | refine Below.setCell ?_ (by simp; try omega) _ | refine Below.alloc ?_ (by have := Bw2.out.size; simp; try omega) _ | refine Below.drew ?_ | exact Bw2.out))).mono ?_; rintro e w3 ⟨rfl, hb⟩; have zd : w3.heap[W.heap.size + 1]? = some (.cells #[.int .i64 0, .int .i64 0] 24 (0, 0)) := (hb.block (W.heap.size + 1) (by first | omega | (simp; try omega))).trans (hkeep zB.out); (try clear zB z0 z1 zf zL zN); have zB : Hid _ := zd; obtain ⟨z0, z1, zf, zL⟩ := rw2 zd; have zN : ¬ W.heap.size + 1 = w3.heap.size := (by omega); clear zd; have Bw3 : Hid (Below W.heap.size W w3) := bstep (by repeat (first | refine Below.setCell ?_ (by simp; try omega) _ | refine Below.alloc ?_ (by have := Bw2.out.size; simp; try omega) _ | refine Below.drew ?_ | exact Bw2.out)) hb; clear hb HO2))
        exact bodyPost_ret (v := idE ((o1, o2), o3)) (by simp [results, Tryz.results38, go_sem, idE, *]) rfl ⟨rfl, (by repeat (first | refine Below.setCell ?_ (by simp; try omega) _ | refine Below.alloc ?_ (by have := Bw3.out.size; simp; try omega) _ | refine Below.drew ?_ | exact Bw3.out))⟩




theorem vir3 : virI P3 0 (0, 1) = ((0, 1), 0) := by kernel_rfl
set_option maxRecDepth 100000 in
theorem awake12_c (W : World) : Calls Tryz.prog 34 #[] W fun e w' => e = .returned (.bool true) ∧ Below W.heap.size W w' := by
  have HN : Hid (∀ w : World, Calls Tryz.prog 51 #[] w fun e w' => ∃ b, e = .returned (.pointer (some ⟨b, 0, none⟩)) ∧ WAt b P3 w' ∧ Below w.heap.size w w') := fun w => (new_any w).mono fun e w' zz => ⟨_, zz.1, by obtain ⟨vp, pv, hw⟩ := zz.2.1; exact hw.wat, zz.2.2⟩
  have HM : Hid (∀ (w : World) (b : Nat), WAt b P3 w → Calls Tryz.prog 38 #[.pointer (some ⟨b, 0, none⟩), .int .i64 0, .agg #[.int .i64 0, .int .i64 1]] w fun e w' => e = .returned (.tuple #[.agg #[.int .i64 0, .int .i64 1], .int .i64 0]) ∧ Below w.heap.size w w') := fun w b h => (vir_c h wi3 0 0 1).mono fun e w' zz => ⟨by rw [zz.1, vir3]; rfl, zz.2⟩
  have BB : Hid (Below W.heap.size W W) := Below.refl _ _
  go_enter Tryz.func34, Tryz.ntmps34
  go_wp2_with (first
    | (go_at_call 51; refine (HN.out _).mono ?_; rintro e w1 ⟨b, rfl, hw, hb⟩; have BB2 : Below W.heap.size W w1 := bstep (by repeat (first | exact BB.out | exact Below.refl _ _ | refine Below.setCell ?_ (by simp; try omega) _ | refine Below.alloc ?_ (by have := BB.out.size; simp; try omega) _ | refine Below.drew ?_)) hb; clear BB; have BB : Hid (Below W.heap.size W w1) := BB2; (try clear HH); have HH : Hid (WAt b P3 w1) := hw; clear hw hb BB2)
    | (go_at_call 38; refine (HM.out _ _ HH.out).mono ?_; rintro e w2 ⟨rfl, hb⟩; have BB2 := bstep BB.out hb; clear BB; have BB : Hid (Below W.heap.size W w2) := BB2; clear hb BB2 HM))
  exact bodyPost_ret (results_tmp rfl _ _ _) rfl ⟨rfl, (by repeat (first | exact BB.out | exact Below.refl _ _ | refine Below.setCell ?_ (by simp; try omega) _ | refine Below.alloc ?_ (by have := BB.out.size; simp; try omega) _ | refine Below.drew ?_))⟩


set_option maxRecDepth 100000 in
theorem crd_nil (d c i : Int) (W : World) : Calls Tryz.prog 100 #[.pointer none, .int .i64 d, .agg #[.int .i64 c, .int .i64 i]] W fun e w' => e = .returned (.tuple #[.agg #[.string ⟨#[]⟩, .string ⟨#[]⟩, .int .i64 0, .int .i64 0, .int .i64 0, .slice none 0 0], .int .i64 2]) ∧ Below W.heap.size W w' := by
  have HC : Hid (∀ w : World, Calls Tryz.prog 156 #[.pointer none, .int .i64 d] w fun e w' => e = .returned (.int .i64 2) ∧ w' = w) := fun w => cck_nil d w
  go_enter Tryz.func100, Tryz.ntmps100
  go_wp2_with (first
    | (go_at_call 156; refine (HC.out _).mono ?_; rintro e w9 ⟨rfl, hw9⟩; rw [hw9]; clear hw9 w9))
  exact bodyPost_ret (v := .tuple #[.agg #[.string ⟨#[]⟩, .string ⟨#[]⟩, .int .i64 0, .int .i64 0, .int .i64 0, .slice none 0 0], .int .i64 2]) (by simp [results, Tryz.results100, go_sem, *]) rfl ⟨rfl, (by repeat (first | exact Below.refl _ _ | refine Below.setCell ?_ (by simp; try omega) _ | refine Below.alloc ?_ (by simp; try omega) _ | refine Below.drew ?_))⟩
set_option maxRecDepth 100000 in
set_option maxHeartbeats 1000000 in
theorem rfr_nil (d c i : Int) (W : World) : Calls Tryz.prog 92 #[.pointer none, .int .i64 d, .agg #[.int .i64 c, .int .i64 i]] W fun e w' => e = .returned (.tuple #[.agg #[.string ⟨#[]⟩, .string ⟨#[]⟩, .int .i64 0, .int .i64 0, .int .i64 0, .slice none 0 0], .int .i64 2]) ∧ Below W.heap.size W w' := by
  have HR : Hid (∀ w : World, Calls Tryz.prog 100 #[.pointer none, .int .i64 d, .agg #[.int .i64 c, .int .i64 i]] w fun e w' => e = .returned (.tuple #[.agg #[.string ⟨#[]⟩, .string ⟨#[]⟩, .int .i64 0, .int .i64 0, .int .i64 0, .slice none 0 0], .int .i64 2]) ∧ Below w.heap.size w w') := fun w => crd_nil d c i w
  go_enter Tryz.func92, Tryz.ntmps92
  go_upto_region 3 with (go_at_call 100; refine (HR.out _).mono ?_; rintro e w1 ⟨rfl, hb⟩; have zd : w1.heap[W.heap.size + 1]? = some (.cells #[.string ⟨#[]⟩, .string ⟨#[]⟩, .int .i64 0, .int .i64 0, .int .i64 0, .slice none 0 0] 47 (0, 0)) := (hb.block (W.heap.size + 1) (by first | omega | (simp; try omega))).trans (halloc2 _ _ (by simp)); (try clear zB z0 z1 z2 z3 z4 z5 zf zL zN); have zB : Hid _ := zd; obtain ⟨z0, z1, z2, z3, z4, z5, zf, zL⟩ := rw6 zd; have zN : ¬ W.heap.size + 1 = w1.heap.size := (by omega); clear zd; have Bw1 : Hid (Below W.heap.size W w1) := bstep (by repeat (first | exact Below.refl _ _ | refine Below.setCell ?_ (by simp; try omega) _ | refine Below.alloc ?_ (by simp; try omega) _ | refine Below.drew ?_)) hb; clear hb HR)
  obtain ⟨Wm, hWm⟩ : ∃ x, x = w1.alloc (.cells #[.string ⟨#[]⟩, .string ⟨#[]⟩, .int .i64 0, .int .i64 0, .int .i64 0, .slice none 0 0] 47) := ⟨_, rfl⟩
  have BM : Hid (Below W.heap.size W Wm) := by rw [hWm]; exact Bw1.out.alloc Bw1.out.size _
  have hd0 : Wm.heap[W.heap.size + 1]? = some (.cells #[.string ⟨#[]⟩, .string ⟨#[]⟩, .int .i64 0, .int .i64 0, .int .i64 0, .slice none 0 0] 47 (0, 0)) := by rw [hWm]; exact hkeep zB.out
  obtain ⟨p0, p1, p2, p3, p4, p5, pf, pL⟩ := rw6 hd0
  rw [← hWm]
  clear hWm hd0 Bw1 zB z0 z1 z2 z3 z4 z5 zf zL zN
  go_wp2
  exact bodyPost_ret (v := .tuple #[.agg #[.string ⟨#[]⟩, .string ⟨#[]⟩, .int .i64 0, .int .i64 0, .int .i64 0, .slice none 0 0], .int .i64 2]) (by simp [results, Tryz.results92, go_sem, *]) rfl ⟨rfl, (by repeat (first | refine Below.setCell ?_ (by simp; try omega) _ | refine Below.alloc ?_ (by have := BM.out.size; simp; try omega) _ | refine Below.drew ?_ | exact BM.out))⟩
set_option maxRecDepth 100000 in
theorem vir_nil (d c i : Int) (W : World) : Calls Tryz.prog 38 #[.pointer none, .int .i64 d, .agg #[.int .i64 c, .int .i64 i]] W fun e w' => e = .returned (.tuple #[.agg #[.int .i64 0, .int .i64 0], .int .i64 2]) ∧ Below W.heap.size W w' := by
  have HR : Hid (∀ w : World, Calls Tryz.prog 92 #[.pointer none, .int .i64 d, .agg #[.int .i64 c, .int .i64 i]] w fun e w' => e = .returned (.tuple #[.agg #[.string ⟨#[]⟩, .string ⟨#[]⟩, .int .i64 0, .int .i64 0, .int .i64 0, .slice none 0 0], .int .i64 2]) ∧ Below w.heap.size w w') := fun w => rfr_nil d c i w
  go_enter Tryz.func38, Tryz.ntmps38
  go_wp2_with (first
    | (go_at_call 92; refine (HR.out _).mono ?_; rintro e w1 ⟨rfl, hb⟩; have zd : w1.heap[W.heap.size + 1]? = some (.cells #[.int .i64 0, .int .i64 0] 24 (0, 0)) := (hb.block (W.heap.size + 1) (by first | omega | (simp; try omega))).trans (halloc2 _ _ (by simp)); (try clear zB z0 z1 zf zL zN); have zB : Hid _ := zd; obtain ⟨z0, z1, zf, zL⟩ := rw2 zd; have zN : ¬ W.heap.size + 1 = w1.heap.size := (by omega); clear zd; have Bw1 : Hid (Below W.heap.size W w1) := bstep (by repeat (first | exact Below.refl _ _ | refine Below.setCell ?_ (by simp; try omega) _ | refine Below.alloc ?_ (by simp; try omega) _ | refine Below.drew ?_)) hb; clear hb HR))
  exact bodyPost_ret (v := .tuple #[.agg #[.int .i64 0, .int .i64 0], .int .i64 2]) (by simp [results, Tryz.results38, go_sem, *]) rfl ⟨rfl, (by repeat (first | refine Below.setCell ?_ (by simp; try omega) _ | refine Below.alloc ?_ (by have := Bw1.out.size; simp; try omega) _ | refine Below.drew ?_ | exact Bw1.out))⟩
set_option maxRecDepth 100000 in
theorem itf_nil (d c i : Int) (W : World) : Calls Tryz.prog 40 #[.pointer none, .int .i64 d, .agg #[.int .i64 c, .int .i64 i]] W fun e w' => e = .returned (.tuple #[.agg #[.int .i64 0, .int .i64 0], .int .i64 2]) ∧ Below W.heap.size W w' := by
  have HR : Hid (∀ w : World, Calls Tryz.prog 92 #[.pointer none, .int .i64 d, .agg #[.int .i64 c, .int .i64 i]] w fun e w' => e = .returned (.tuple #[.agg #[.string ⟨#[]⟩, .string ⟨#[]⟩, .int .i64 0, .int .i64 0, .int .i64 0, .slice none 0 0], .int .i64 2]) ∧ Below w.heap.size w w') := fun w => rfr_nil d c i w
  go_enter Tryz.func40, Tryz.ntmps40
  go_wp2_with (first
    | (go_at_call 92; refine (HR.out _).mono ?_; rintro e w1 ⟨rfl, hb⟩; have zd : w1.heap[W.heap.size + 1]? = some (.cells #[.int .i64 0, .int .i64 0] 24 (0, 0)) := (hb.block (W.heap.size + 1) (by first | omega | (simp; try omega))).trans (halloc2 _ _ (by simp)); (try clear zB z0 z1 zf zL zN); have zB : Hid _ := zd; obtain ⟨z0, z1, zf, zL⟩ := rw2 zd; have zN : ¬ W.heap.size + 1 = w1.heap.size := (by omega); clear zd; have Bw1 : Hid (Below W.heap.size W w1) := bstep (by repeat (first | exact Below.refl _ _ | refine Below.setCell ?_ (by simp; try omega) _ | refine Below.alloc ?_ (by simp; try omega) _ | refine Below.drew ?_)) hb; clear hb HR))
  exact bodyPost_ret (v := .tuple #[.agg #[.int .i64 0, .int .i64 0], .int .i64 2]) (by simp [results, Tryz.results40, go_sem, *]) rfl ⟨rfl, (by repeat (first | refine Below.setCell ?_ (by simp; try omega) _ | refine Below.alloc ?_ (by have := Bw1.out.size; simp; try omega) _ | refine Below.drew ?_ | exact Bw1.out))⟩
set_option maxRecDepth 100000 in
theorem spc_nil (d : Int) (y : Bool) (rc rn rd : ByteArray) (c i : Int) (W : World) : Calls Tryz.prog 42 #[.pointer none, .int .i64 d, .agg #[.bool y, .string rc, .string rn, .string rd], .agg #[.int .i64 c, .int .i64 i]] W fun e w' => e = .returned (.tuple #[.agg #[.int .i64 0, .int .i64 0], .int .i64 2]) ∧ Below W.heap.size W w' := by
  have HR : Hid (∀ w : World, Calls Tryz.prog 100 #[.pointer none, .int .i64 d, .agg #[.int .i64 c, .int .i64 i]] w fun e w' => e = .returned (.tuple #[.agg #[.string ⟨#[]⟩, .string ⟨#[]⟩, .int .i64 0, .int .i64 0, .int .i64 0, .slice none 0 0], .int .i64 2]) ∧ Below w.heap.size w w') := fun w => crd_nil d c i w
  go_enter Tryz.func42, Tryz.ntmps42
  go_wp2_with (first
    | (go_at_call 100; refine (HR.out _).mono ?_; rintro e w1 ⟨rfl, hb⟩; have zd : w1.heap[W.heap.size + 2]? = some (.cells #[.int .i64 0, .int .i64 0] 24 (0, 0)) := (hb.block (W.heap.size + 2) (by first | omega | (simp; try omega))).trans (halloc2 _ _ (by simp)); (try clear zB z0 z1 zf zL zN); have zB : Hid _ := zd; obtain ⟨z0, z1, zf, zL⟩ := rw2 zd; have zN : ¬ W.heap.size + 2 = w1.heap.size := (by omega); clear zd; have Bw1 : Hid (Below W.heap.size W w1) := bstep (by repeat (first | exact Below.refl _ _ | refine Below.setCell ?_ (by simp; try omega) _ | refine Below.alloc ?_ (by simp; try omega) _ | refine Below.drew ?_)) hb; clear hb HR))
  exact bodyPost_ret (v := .tuple #[.agg #[.int .i64 0, .int .i64 0], .int .i64 2]) (by simp [results, Tryz.results42, go_sem, *]) rfl ⟨rfl, (by repeat (first | refine Below.setCell ?_ (by simp; try omega) _ | refine Below.alloc ?_ (by have := Bw1.out.size; simp; try omega) _ | refine Below.drew ?_ | exact Bw1.out))⟩
set_option maxRecDepth 100000 in
theorem cas_nil (d k tx : Int) (ts : ByteArray) (W : World) : Calls Tryz.prog 83 #[.pointer none, .int .i64 d, .int .i64 k, .agg #[.int .i64 tx, .string ts]] W fun e w' => e = .returned (.int .i64 2) ∧ Below W.heap.size W w' := by
  have HC : Hid (∀ w : World, Calls Tryz.prog 156 #[.pointer none, .int .i64 d] w fun e w' => e = .returned (.int .i64 2) ∧ w' = w) := fun w => cck_nil d w
  go_enter Tryz.func83, Tryz.ntmps83
  go_wp2_with (first
    | (go_at_call 156; refine (HC.out _).mono ?_; rintro e w9 ⟨rfl, hw9⟩; rw [hw9]; clear hw9 w9))
  exact bodyPost_ret (results_tmp rfl _ _ _) rfl ⟨rfl, (by repeat (first | exact Below.refl _ _ | refine Below.setCell ?_ (by simp; try omega) _ | refine Below.alloc ?_ (by simp; try omega) _ | refine Below.drew ?_))⟩
set_option maxRecDepth 100000 in
theorem cal_nil (d k : Int) (y : Bool) (rc rn rd : ByteArray) (tx : Int) (ts : ByteArray) (W : World) : Calls Tryz.prog 35 #[.pointer none, .int .i64 d, .int .i64 k, .agg #[.bool y, .string rc, .string rn, .string rd], .agg #[.int .i64 tx, .string ts]] W fun e w' => e = .returned (.tuple #[.agg #[.int .i64 0, .int .i64 0], .int .i64 2]) ∧ Below W.heap.size W w' := by
  have HC : Hid (∀ w : World, Calls Tryz.prog 83 #[.pointer none, .int .i64 d, .int .i64 k, .agg #[.int .i64 tx, .string ts]] w fun e w' => e = .returned (.int .i64 2) ∧ Below w.heap.size w w') := fun w => cas_nil d k tx ts w
  go_enter Tryz.func35, Tryz.ntmps35
  go_wp2_with (first
    | (go_at_call 83; refine (HC.out _).mono ?_; rintro e w1 ⟨rfl, hb⟩; have zd : w1.heap[W.heap.size + 2]? = some (.cells #[.int .i64 0, .int .i64 0] 24 (0, 0)) := (hb.block (W.heap.size + 2) (by first | omega | (simp; try omega))).trans (halloc2 _ _ (by simp)); (try clear zB z0 z1 zf zL zN); have zB : Hid _ := zd; obtain ⟨z0, z1, zf, zL⟩ := rw2 zd; have zN : ¬ W.heap.size + 2 = w1.heap.size := (by omega); clear zd; have Bw1 : Hid (Below W.heap.size W w1) := bstep (by repeat (first | exact Below.refl _ _ | refine Below.setCell ?_ (by simp; try omega) _ | refine Below.alloc ?_ (by simp; try omega) _ | refine Below.drew ?_)) hb; clear hb HC))
  exact bodyPost_ret (v := .tuple #[.agg #[.int .i64 0, .int .i64 0], .int .i64 2]) (by simp [results, Tryz.results35, go_sem, *]) rfl ⟨rfl, (by repeat (first | refine Below.setCell ?_ (by simp; try omega) _ | refine Below.alloc ?_ (by have := Bw1.out.size; simp; try omega) _ | refine Below.drew ?_ | exact Bw1.out))⟩
set_option maxRecDepth 100000 in
set_option maxHeartbeats 4000000 in
theorem ChooseNil_any (W : World) : Calls Tryz.prog 13 #[] W fun e w' => e = .returned (.bool true) ∧ Below W.heap.size W w' := by
  have HA : Hid (∀ w : World, Calls Tryz.prog 34 #[] w fun e w' => e = .returned (.bool true) ∧ Below w.heap.size w w') := awake12_c
  have H1 : Hid (∀ d c i (w : World), Calls Tryz.prog 38 #[.pointer none, .int .i64 d, .agg #[.int .i64 c, .int .i64 i]] w fun e w' => e = .returned (.tuple #[.agg #[.int .i64 0, .int .i64 0], .int .i64 2]) ∧ Below w.heap.size w w') := vir_nil
  have H2 : Hid (∀ d c i (w : World), Calls Tryz.prog 40 #[.pointer none, .int .i64 d, .agg #[.int .i64 c, .int .i64 i]] w fun e w' => e = .returned (.tuple #[.agg #[.int .i64 0, .int .i64 0], .int .i64 2]) ∧ Below w.heap.size w w') := itf_nil
  have H3 : Hid (∀ d y rc rn rd c i (w : World), Calls Tryz.prog 42 #[.pointer none, .int .i64 d, .agg #[.bool y, .string rc, .string rn, .string rd], .agg #[.int .i64 c, .int .i64 i]] w fun e w' => e = .returned (.tuple #[.agg #[.int .i64 0, .int .i64 0], .int .i64 2]) ∧ Below w.heap.size w w') := spc_nil
  have H4 : Hid (∀ d k y rc rn rd tx ts (w : World), Calls Tryz.prog 35 #[.pointer none, .int .i64 d, .int .i64 k, .agg #[.bool y, .string rc, .string rn, .string rd], .agg #[.int .i64 tx, .string ts]] w fun e w' => e = .returned (.tuple #[.agg #[.int .i64 0, .int .i64 0], .int .i64 2]) ∧ Below w.heap.size w w') := cal_nil
  have BB : Hid (Below W.heap.size W W) := Below.refl _ _
  go_enter Tryz.func13, Tryz.ntmps13
  go_wp2_with (first
    | (go_at_call 34; refine (HA.out _).mono ?_; rintro e w1 ⟨rfl, hb⟩; have BB2 : Below W.heap.size W w1 := bstep (by repeat (first | exact BB.out | exact Below.refl _ _ | refine Below.setCell ?_ (by simp; try omega) _ | refine Below.alloc ?_ (by have := BB.out.size; simp; try omega) _ | refine Below.drew ?_)) hb; clear BB; have BB : Hid (Below W.heap.size W w1) := BB2; clear hb BB2)
    | (go_at_call 38; refine (H1.out _ _ _ _).mono ?_; rintro e w2 ⟨rfl, hb⟩; have BB2 : Below W.heap.size W w2 := bstep (by repeat (first | exact BB.out | exact Below.refl _ _ | refine Below.setCell ?_ (by simp; try omega) _ | refine Below.alloc ?_ (by have := BB.out.size; simp; try omega) _ | refine Below.drew ?_)) hb; clear BB; have BB : Hid (Below W.heap.size W w2) := BB2; clear hb BB2)
    | (go_at_call 40; refine (H2.out _ _ _ _).mono ?_; rintro e w3 ⟨rfl, hb⟩; have BB2 : Below W.heap.size W w3 := bstep (by repeat (first | exact BB.out | exact Below.refl _ _ | refine Below.setCell ?_ (by simp; try omega) _ | refine Below.alloc ?_ (by have := BB.out.size; simp; try omega) _ | refine Below.drew ?_)) hb; clear BB; have BB : Hid (Below W.heap.size W w3) := BB2; clear hb BB2)
    | (go_at_call 42; refine (H3.out _ _ _ _ _ _ _ _).mono ?_; rintro e w4 ⟨rfl, hb⟩; have BB2 : Below W.heap.size W w4 := bstep (by repeat (first | exact BB.out | exact Below.refl _ _ | refine Below.setCell ?_ (by simp; try omega) _ | refine Below.alloc ?_ (by have := BB.out.size; simp; try omega) _ | refine Below.drew ?_)) hb; clear BB; have BB : Hid (Below W.heap.size W w4) := BB2; clear hb BB2)
    | (go_at_call 35; refine (H4.out _ _ _ _ _ _ _ _ _).mono ?_; rintro e w5 ⟨rfl, hb⟩; have BB2 : Below W.heap.size W w5 := bstep (by repeat (first | exact BB.out | exact Below.refl _ _ | refine Below.setCell ?_ (by simp; try omega) _ | refine Below.alloc ?_ (by have := BB.out.size; simp; try omega) _ | refine Below.drew ?_)) hb; clear BB; have BB : Hid (Below W.heap.size W w5) := BB2; clear hb BB2))
  exact bodyPost_ret (results_tmp rfl _ _ _) rfl ⟨rfl, (by repeat (first | exact BB.out | exact Below.refl _ _ | refine Below.setCell ?_ (by simp; try omega) _ | refine Below.alloc ?_ (by have := BB.out.size; simp; try omega) _ | refine Below.drew ?_))⟩
end Go.Proofs.YtfoldbhlmmmpeaaGreat
