/- Names in a world that is built: each finds its class. -/
import Derived.Test.YtpbnjmncjecobaaGreatHrQ
import Derived.Test.YtpbnjmncjecobaaGreatOrdB
import Derived.Test.YtpbnjmncjecobaaGreatFOwnA
import Derived.Test.YtpbnjmncjecobaaGreatHrA
import Derived.Deep.RegionHeld3
namespace Go.Proofs.YtpbnjmncjecobaaGreat
open Go.RowKit Go.Maps

/-- the world that a list of classes builds -/
def wld (l : List Cls) : List Plc := l.foldl (fun ps c => dfP ps (defN ps c)) P3
theorem wld_snoc (l : List Cls) (c : Cls) : wld (l ++ [c]) = dfP (wld l) (defN (wld l) c) := by
  rw [wld, List.foldl_append]; rfl
theorem wld_at {l : List Cls} {i : Nat} {c : Cls} (h : l[i]? = some c) : wld (l.take (i + 1)) = dfP (wld (l.take i)) (defN (wld (l.take i)) c) := by
  rw [List.take_add_one, h]; exact wld_snoc _ _
/-- what is shown of New and kept by Define holds of it -/
theorem wld_ind {P : List Plc → Prop} (h3 : P P3) (hd : ∀ ps c, P ps → ClsW c → P (dfP ps (defN ps c))) : ∀ l : List Cls, (∀ c ∈ l, ClsW c) → P (wld l) := by
  have key : ∀ (l : List Cls) (ps : List Plc), (∀ c ∈ l, ClsW c) → P ps → P (l.foldl (fun ps c => dfP ps (defN ps c)) ps) := by
    intro l
    induction l with
    | nil => exact fun ps _ h => h
    | cons c l ih => exact fun ps hl h => ih _ (fun x hx => hl x (List.mem_cons_of_mem _ hx)) (hd ps c h (hl c (by simp)))
  exact fun l hl => key l P3 hl h3
theorem wld_wi (l : List Cls) (hl : ∀ c ∈ l, ClsW c) : WI (wld l) := wld_ind wi3 (fun _ c h hc => h.define c hc) l hl
theorem clss_w {w : World} {v : Value} {l : List Cls} (h : IsClss w v l) : ∀ c ∈ l, ClsW c := by
  obtain ⟨ao, cap, e, h1, h2, h3⟩ := h
  intro c hc
  obtain ⟨bk, o, _, _, h4⟩ := h3 (fun e => by rw [e] at hc; simp at hc)
  obtain ⟨i, hi⟩ := List.mem_iff_getElem?.1 hc
  obtain ⟨vi, vm, _, hin⟩ := h4 i c hi
  exact hin.ok

set_option maxRecDepth 100000 in
set_option maxHeartbeats 4000000 in
theorem built8_c (v : Value) (l : List Cls) (W : World) (h : IsClss W v l) : Calls Tryz.prog 55 #[v] W fun e w' => (∃ b, e = .returned (.pointer (some ⟨b, 0, none⟩)) ∧ WAt b (wld l) w') ∧ Below W.heap.size W w' := by
  have hCW := clss_w h
  obtain ⟨ao, cap, rfl, h1, h2, h3⟩ := h
  unfold maxLen at h2
  obtain ⟨L, hL⟩ : ∃ L, l.length = L := ⟨_, rfl⟩
  have HL : Hid (l.length = L) := hL
  have HI : Hid _ := h3
  have HCW : Hid (∀ c ∈ l, ClsW c) := hCW
  rw [hL] at h1 ⊢
  clear hL h3 hCW
  have HN : Hid (∀ w : World, Calls Tryz.prog 43 #[] w fun e w' => e = .returned (.pointer (some ⟨w.heap.size + 1, 0, none⟩)) ∧ (∃ vp pv, HW w' w.heap.size (w.heap.size + 1) w.heap.size P3 vp pv) ∧ Below w.heap.size w w') := new_any
  go_enter Tryz.func55, Tryz.ntmps55
  go_wp2_with (first
    | (go_at_call 43; refine (HN.out _).mono ?_; rintro e w2 ⟨rfl, hw, hb⟩; have H2 : Hid (∃ vp pv, HW w2 W.heap.size (W.heap.size + 1) W.heap.size P3 vp pv) := hw; have B2 : Hid (Below W.heap.size W w2) := hb; clear hb hw HN))
  go_loopw [4] (fun iv wr => ∃ (i : Nat), iv = .int .i64 i ∧ i ≤ L ∧ Hid (∃ vp pv, HW wr W.heap.size (W.heap.size + 1) W.heap.size (wld (l.take i)) vp pv) ∧ Hid (Below W.heap.size W wr)) (fun iv _ => L - (intOf iv).toNat)
  case atStart => exact ⟨0, rfl, Nat.zero_le _, H2, B2⟩
  case round =>
    clear H2 B2
    obtain ⟨i, rfl, hi, hHW, hB⟩ := hrel
    by_cases hlt : i < L
    · obtain ⟨c, hc⟩ : ∃ c, l[i]? = some c := ⟨_, List.getElem?_eq_getElem (by rw [HL.out]; exact hlt)⟩
      obtain ⟨bk, o, rfl, hbk, hcl⟩ := HI.out (fun e => by rw [e] at hc; simp at hc)
      obtain ⟨vi, vm, hcell, hin⟩ := hcl i c hc
      have bel : Below W.heap.size W wr := hB.out
      have p0 : wr.cell? ⟨bk, o + i * 6, none⟩ = some (.string c.nm) := (bel.cell (p := ⟨bk, o + i * 6, none⟩) hbk).trans (hcell 0 _ rfl)
      have p1 : wr.cell? ⟨bk, o + i * 6 + 1, none⟩ = some (.string c.su) := (bel.cell (p := ⟨bk, o + i * 6 + 1, none⟩) hbk).trans (hcell 1 _ rfl)
      have p2 : wr.cell? ⟨bk, o + i * 6 + 2, none⟩ = some vi := (bel.cell (p := ⟨bk, o + i * 6 + 2, none⟩) hbk).trans (hcell 2 _ rfl)
      have p3 : wr.cell? ⟨bk, o + i * 6 + 3, none⟩ = some (.int .i64 c.fl) := (bel.cell (p := ⟨bk, o + i * 6 + 3, none⟩) hbk).trans (hcell 3 _ rfl)
      have p4 : wr.cell? ⟨bk, o + i * 6 + 4, none⟩ = some (.int .i64 c.ld) := (bel.cell (p := ⟨bk, o + i * 6 + 4, none⟩) hbk).trans (hcell 4 _ rfl)
      have p5 : wr.cell? ⟨bk, o + i * 6 + 5, none⟩ = some vm := (bel.cell (p := ⟨bk, o + i * 6 + 5, none⟩) hbk).trans (hcell 5 _ rfl)
      have hWI : WI (wld (l.take i)) := wld_wi _ (fun c hc => HCW.out c (List.mem_of_mem_take hc))
      have HD : Hid (Calls Tryz.prog 44 #[.pointer (some ⟨W.heap.size + 1, 0, none⟩), .agg #[.string c.nm, .string c.su, vi, .int .i64 c.fl, .int .i64 c.ld, vm]] wr fun e w' => (∃ u, e = .returned u) ∧ Hid (∃ vp pv, HW w' W.heap.size (W.heap.size + 1) W.heap.size (wld (l.take (i + 1))) vp pv) ∧ Hid (Below W.heap.size W w')) := by
        obtain ⟨vp, pv, hw⟩ := hHW.out
        refine (define_any W.heap.size (W.heap.size + 1) W.heap.size _ vp pv c vi vm wr hw hB.out.size (hin.keep bel) hWI.nm).mono ?_
        rintro e w' ⟨rfl, hw', hb', _⟩
        rw [wld_at hc]
        exact ⟨⟨_, rfl⟩, hw', hB.out.trans hb'⟩
      clear hcl hcell hin hc bel hWI hHW hB HI
      go_wp2_with (go_at_call 44; refine HD.out.mono ?_; rintro e w3 ⟨⟨u3, rfl⟩, hw3, hb3⟩; clear HD)
      go_roundw
      case rel => exact ⟨i + 1, by go_num, by omega, hw3, hb3⟩
      case measure => simp [intOf]; omega
    · have e : i = L := by omega
      subst e
      have HF : Hid (WAt (W.heap.size + 1) (wld l) wr) := by
        obtain ⟨vp, pv, hw⟩ := hHW.out
        rw [List.take_of_length_le (by rw [HL.out]; exact Nat.le_refl _)] at hw
        exact hw.wat
      clear hHW HI
      go_wp2
      exact bodyPost_ret (results_tmp rfl _ _ _) rfl ⟨⟨_, rfl, HF.out⟩, hB.out⟩


/-- what Class answers: the class, or ErrRange -/
def ClsR (n : Nat) : Option Plc → Ending → World → Prop
  | none, e, _ => e = .returned (.tuple #[.agg #[.string ⟨#[]⟩, .string ⟨#[]⟩, .slice none 0 0, .int .i64 0, .int .i64 0, .slice none 0 0], .int .i64 3])
  | some q, e, w' => ∃ vi vm qm, e = .returned (.tuple #[.agg #[.string q.c.nm, .string q.c.su, vi, .int .i64 q.c.fl, .int .i64 q.c.ld, vm], .int .i64 0]) ∧ OwnC w' n vi q.c.ni q.c.xi vm qm ∧ qm.map Prod.fst = q.c.ms
theorem class_c {b : Nat} {ps : List Plc} {W : World} (h : WAt b ps W) (hB : ∀ q ∈ ps, PlcB q) (x : Int) : Calls Tryz.prog 18 #[.pointer (some ⟨b, 0, none⟩), .int .i64 x] W fun e w' => ClsR W.heap.size (plcI ps x) e w' ∧ Below W.heap.size W w' := by
  obtain ⟨N, mb, vp, pv, h⟩ := h
  rcases plcI_cases ps x with ⟨h1, h2⟩ | ⟨k, p, rfl, h2, h1⟩
  · rw [h1]; exact class_no N b mb ps vp pv x W h h2
  · rw [h1]
    refine (class_yes N b mb ps vp pv k p W h h2 (hB p (List.mem_of_getElem? h2))).mono ?_
    rintro e w' ⟨vi, vm, qm, h1, h2, h3, h4⟩
    exact ⟨⟨vi, vm, qm, h1, h2, h3⟩, h4⟩
def bnV : Option Nat → Value
  | some j => .tuple #[.int .i64 (j : Int), .int .i64 0]
  | none => .tuple #[.int .i64 0, .int .i64 6]
theorem byName_c {b : Nat} {ps : List Plc} {W : World} (h : WAt b ps W) (nm : ByteArray) (hnz : nm.size ≤ maxLen) : Calls Tryz.prog 21 #[.pointer (some ⟨b, 0, none⟩), .string nm] W fun e w' => e = .returned (bnV (lookL ps nm.data.toList)) ∧ Below W.heap.size W w' := by
  obtain ⟨N, mb, vp, pv, h⟩ := h
  refine (byName_look N b mb ps vp pv nm hnz W h).mono ?_
  rintro e w' ⟨rfl, hb⟩
  exact ⟨by cases lookL ps nm.data.toList <;> rfl, hb⟩


def idV (i : Int) : Value := .int .i64 i
/-- are all of them numbers of a class? -/
def inNs (n : Nat) (l : List Int) : Bool := l.all fun i => decide (0 ≤ i) && decide (i < (n : Int))

set_option maxRecDepth 100000 in
set_option maxHeartbeats 1000000 in
theorem checkA_any (N b mb : Nat) (ps : List Plc) (vp : Value) (pv : List PV) (v : Value) (ids : List Int) (W : World) (h : HW W N b mb ps vp pv) (hv : Rds W v ids.length 1 (ids.map idV)) (hk9 : ids.length ≤ 1000000) : Calls Tryz.prog 107 #[.pointer (some ⟨b, 0, none⟩), v] W fun e w' => e = .returned (.int .i64 (if inNs ps.length ids then 0 else 3)) ∧ Below W.heap.size W w' := by
  obtain ⟨L, hL⟩ : ∃ L, ids.length = L := ⟨_, rfl⟩
  have HL : Hid (ids.length = L) := hL
  obtain ⟨av, cv, rfl⟩ := hv.slice
  have HV : Hid (Rds W (.slice av ids.length cv) ids.length 1 (ids.map idV)) := hv
  have HLen : Hid (∀ w : World, Below W.heap.size W w → Calls Tryz.prog 17 #[.pointer (some ⟨b, 0, none⟩)] w fun e w' => e = .returned (.int .i64 (ps.length : Int)) ∧ w' = w) := fun w hb => len_any N b mb ps vp pv w (h.below hb)
  rw [hL]
  rw [hL] at hk9
  clear hv h hL
  obtain ⟨R, hR⟩ : ∃ R, R = (if inNs ps.length ids then (0 : Int) else 3) := ⟨_, rfl⟩
  rw [← hR]
  have HR : Hid (R = (if inNs ps.length ids then (0 : Int) else 3)) := hR
  clear hR
  go_enter Tryz.func107, Tryz.ntmps107
  go_wp2
  go_loopw [11] (fun kv wr => ∃ k : Nat, kv = .int .i64 k ∧ k ≤ L ∧ wr = W ∧ Hid (inNs ps.length (ids.take k) = true)) (fun kv _ => L - (intOf kv).toNat)
  case atStart => exact ⟨0, rfl, Nat.zero_le _, rfl, rfl⟩
  case round =>
    obtain ⟨k, rfl, hk, rfl, hin⟩ := hrel
    by_cases hlt : k < L
    · obtain ⟨id, hid⟩ : ∃ p, ids[k]? = some p := ⟨_, List.getElem?_eq_getElem (by rw [HL.out]; exact hlt)⟩
      obtain ⟨bk, o, rfl, hbk, hcell⟩ : ∃ bk o, av = some ⟨bk, o, none⟩ ∧ bk < wr.heap.size ∧ wr.cell? ⟨bk, o + k, none⟩ = some (.int .i64 id) := by
        rcases HV.out.val with ⟨_, e2⟩ | ⟨bk, o, c, e, _, _, h3, h4⟩
        · rw [HL.out] at e2; omega
        · simp only [Value.slice.injEq] at e
          exact ⟨bk, o, e.1, h3, h4 k _ (by rw [List.getElem?_map, hid]; rfl)⟩
      have hT : ids.take (k + 1) = ids.take k ++ [id] := by rw [List.take_add_one, hid]; rfl
      have HNX : Hid (inNs ps.length (ids.take (k + 1)) = (decide (0 ≤ id) && decide (id < (ps.length : Int)))) := by
        rw [Hid, hT, inNs, List.all_append]
        have := hin.out
        rw [inNs] at this
        rw [this]; simp
      have HNO : Hid ((decide (0 ≤ id) && decide (id < (ps.length : Int))) = false → R = 3) := fun hf => by
        rw [HR.out, if_neg]
        intro hall
        rw [inNs, List.all_eq_true] at hall
        have := hall id (List.mem_of_getElem? hid)
        rw [hf] at this; cases this
      clear hT hid
      by_cases h0 : id < 0
      · go_wp2
        exact bodyPost_ret (results_tmp rfl _ _ _) rfl ⟨by have e := HNO.out (by rw [decide_eq_false (by omega)]; rfl); subst e; rfl, Below.refl _ _⟩
      · by_cases h1 : (ps.length : Int) ≤ id
        · go_wp2_with (go_at_call 17; refine (HLen.out _ (Below.refl _ _)).mono ?_; rintro e w9 ⟨rfl, hw9⟩; rw [hw9]; clear hw9 w9)
          exact bodyPost_ret (results_tmp rfl _ _ _) rfl ⟨by have e := HNO.out (by rw [decide_eq_false (p := id < _) (by omega), Bool.and_false]); subst e; rfl, Below.refl _ _⟩
        · go_wp2_with (go_at_call 17; refine (HLen.out _ (Below.refl _ _)).mono ?_; rintro e w9 ⟨rfl, hw9⟩; rw [hw9]; clear hw9 w9)
          go_roundw
          case rel => exact ⟨k + 1, by go_num, by omega, trivial, by rw [Hid, HNX.out, decide_eq_true (by omega), decide_eq_true (by omega)]; rfl⟩
          case measure => simp [intOf]; omega
    · have e : k = L := by omega
      subst e
      have hall : R = 0 := by
        rw [HR.out]
        have := hin.out
        rw [List.take_of_length_le (by rw [HL.out]; exact Nat.le_refl _)] at this
        rw [if_pos this]
      go_wp2
      exact bodyPost_ret (results_tmp rfl _ _ _) rfl ⟨by subst hall; rfl, Below.refl _ _⟩

theorem check_c {b : Nat} {ps : List Plc} {W : World} (h : WAt b ps W) (v : Value) (ids : List Int) (hv : Rds W v ids.length 1 (ids.map idV)) (hk9 : ids.length ≤ 1000000) : Calls Tryz.prog 107 #[.pointer (some ⟨b, 0, none⟩), v] W fun e w' => e = .returned (.int .i64 (if inNs ps.length ids then 0 else 3)) ∧ Below W.heap.size W w' := by
  obtain ⟨N, mb, vp, pv, h⟩ := h
  exact checkA_any N b mb ps vp pv v ids W h hv hk9
set_option maxRecDepth 100000 in
theorem open_c (f : Int) (W : World) : Calls Tryz.prog 153 #[.int .i64 f] W fun e w' => e = .returned (.int .i64 (openI f)) ∧ w' = W := by
  have HR : Hid (openI f = if hasI f 1 then 1 else if hasI f 4 then 4 else bits .and .i64 f 2) := Fl.own_open f
  have HH : Hid (∀ (x : Int) (y : Bool) (w : World), hasI f x = y → Calls Tryz.prog 180 #[.int .i64 f, .int .i64 x] w fun e w' => e = .returned (.bool y) ∧ w' = w) := fun x y w hy => by rw [← hy]; exact Fl.hasAny_any f x w
  generalize openI f = r at *
  generalize hasI f = hz at *
  obtain ⟨b1, h1⟩ : ∃ b, hz 1 = b := ⟨_, rfl⟩
  obtain ⟨b4, h4⟩ : ∃ b, hz 4 = b := ⟨_, rfl⟩
  rw [h1, h4] at HR
  have H1 : Hid _ := h1
  have H4 : Hid _ := h4
  clear h1 h4
  cases b1 <;> cases b4
  all_goals
    go_enter Tryz.func153, Tryz.ntmps153
    go_wp2_with (go_at_call 180; refine (HH.out _ _ _ (by first | exact H1.out | exact H4.out)).mono ?_; rintro e w9 ⟨rfl, hw9⟩; rw [hw9]; clear hw9 w9)
    exact bodyPost_ret (results_tmp rfl _ _ _) rfl ⟨by rw [HR.out]; rfl, rfl⟩
/-- the text of a class's package -/
def pkB (nm : ByteArray) : ByteArray := ⟨(pkgL nm.data.toList).toArray⟩
set_option maxRecDepth 100000 in
theorem aPkg_c {b : Nat} {ps : List Plc} {W : World} (h : WAt b ps W) (k : Nat) (q : Plc) (hq : ps[k]? = some q) (hB : PlcB q) : Calls Tryz.prog 108 #[.pointer (some ⟨b, 0, none⟩), .int .i64 (k : Int)] W fun e w' => e = .returned (.agg #[.int .i64 q.c.ld, .string (pkB q.c.nm)]) ∧ Below W.heap.size W w' := by
  have HC : Hid (∀ w, Below W.heap.size W w → Calls Tryz.prog 18 #[.pointer (some ⟨b, 0, none⟩), .int .i64 (k : Int)] w fun e w' => ∃ vi vm qm, e = .returned (.tuple #[.agg #[.string q.c.nm, .string q.c.su, vi, .int .i64 q.c.fl, .int .i64 q.c.ld, vm], .int .i64 0]) ∧ OwnC w' w.heap.size vi q.c.ni q.c.xi vm qm ∧ qm.map Prod.fst = q.c.ms ∧ Below w.heap.size w w') := fun w hb => by
    obtain ⟨N, mb, vp, pv, h⟩ := h.below hb
    exact class_yes N b mb ps vp pv k q w h hq hB
  have HP : Hid (∀ w : World, Calls Tryz.prog 131 #[.string q.c.nm] w fun e w' => e = .returned (.string (pkB q.c.nm)) ∧ w' = w) := fun w => package_any q.c.nm hB.nm w
  generalize pkB q.c.nm = pk at *
  clear h hq hB
  go_enter Tryz.func108, Tryz.ntmps108
  go_wp2_with (first
    | (go_at_call 18; refine (HC.out _ (by repeat (first | exact Below.refl _ _ | refine Below.setCell ?_ (by simp; try omega) _ | refine Below.alloc ?_ (by simp; try omega) _ | refine Below.drew ?_))).mono ?_; rintro e w1 ⟨vi, vm, qm, rfl, hown, _, hb⟩; obtain ⟨a1, c1, rfl⟩ := ownv hown.ifs; obtain ⟨a2, c2, rfl⟩ := ownv hown.ms; have B1 : Hid (Below W.heap.size W w1) := bstep (by repeat (first | exact Below.refl _ _ | refine Below.setCell ?_ (by simp; try omega) _ | refine Below.alloc ?_ (by simp; try omega) _ | refine Below.drew ?_)) hb; have h0 := (hb.block W.heap.size (by simp)).trans (halloc1 W _); have hl0 : W.heap.size < w1.heap.size := (Array.getElem?_eq_some_iff.1 h0).1; have r0 := cell_of_row w1 W.heap.size 0 _ _ _ h0; have y0 := frozen_of_row w1 W.heap.size 0 _ _ h0; have r1 := cell_of_row w1 W.heap.size 1 _ _ _ h0; have y1 := frozen_of_row w1 W.heap.size 1 _ _ h0; simp only [List.getElem?_toArray, List.getElem?_cons_zero, List.getElem?_cons_succ] at r0 r1; have hn0 : ¬ W.heap.size = w1.heap.size := (by omega); have H0 : Hid (w1.heap[W.heap.size]? = some (.cells #[.int .i64 0, .string ⟨#[]⟩] 142 (0, 0))) := h0; clear hown hb HC h0 r0 r1 y0 y1))
  obtain ⟨Wm, hWm⟩ : ∃ x, x = w1.alloc (.cells #[.string q.c.nm, .string q.c.su, .slice a1 q.c.ni c1, .int .i64 q.c.fl, .int .i64 q.c.ld, .slice a2 qm.length c2] 34) := ⟨_, rfl⟩
  have BM : Hid (Below W.heap.size W Wm) := by rw [hWm]; exact B1.out.alloc B1.out.size _
  have m0 : Wm.cell? ⟨w1.heap.size, 0, none⟩ = some (.string q.c.nm) := by rw [hWm]; simp [go_sem]
  have m4 : Wm.cell? ⟨w1.heap.size, 4, none⟩ = some (.int .i64 q.c.ld) := by rw [hWm]; simp [go_sem]
  have h0 : Wm.heap[W.heap.size]? = some (.cells #[.int .i64 0, .string ⟨#[]⟩] 142 (0, 0)) := by rw [hWm]; exact (Below.heap_alloc w1 _ _ hl0).trans H0.out
  have hs0 : W.heap.size < Wm.heap.size := (Array.getElem?_eq_some_iff.1 h0).1
  have hs1 : w1.heap.size < Wm.heap.size := by rw [hWm]; simp
  have r0 := cell_of_row Wm W.heap.size 0 _ _ _ h0
  have y0 := frozen_of_row Wm W.heap.size 0 _ _ h0
  have r1 := cell_of_row Wm W.heap.size 1 _ _ _ h0
  have y1 := frozen_of_row Wm W.heap.size 1 _ _ h0
  simp only [List.getElem?_toArray, List.getElem?_cons_zero, List.getElem?_cons_succ] at r0 r1
  have hn1 : ¬ w1.heap.size = W.heap.size := by omega
  rw [← hWm]
  clear hWm h0 H0 B1
  go_region_held3 (fun w' => w'.cell? ⟨w1.heap.size, 0, none⟩ = some (.string q.c.nm) ∧ w'.cell? ⟨w1.heap.size, 4, none⟩ = some (.int .i64 q.c.ld)) (go_keep) (first | (go_at_call 131; refine (HP.out _).mono ?_; rintro e w9 ⟨rfl, hw9⟩; rw [hw9]; clear hw9 w9))
  go_wp2
  refine bodyPost_ret (v := .agg #[.int .i64 q.c.ld, .string pk]) (by simp [results, Tryz.results108, go_sem, *]) rfl ⟨rfl, ?_⟩
  refine Below.drew ?_
  repeat (refine Below.setCell ?_ (by simp) _)
  exact BM.out


set_option maxRecDepth 100000 in
theorem eqPkA (a b : Int) (s t : ByteArray) (w : World) : (Op.equal 142 (.agg #[.int .i64 a, .string s]) (.agg #[.int .i64 b, .string t])).run Tryz.prog w = .ok ((a == b) && (s == t)) w := by
  have h : (Op.equalIn (9997 + 1 + 1 + 1) 142 (.agg #[.int .i64 a, .string s]) (.agg #[.int .i64 b, .string t])).run Tryz.prog w = .ok ((a == b) && (s == t)) w := by
    rw [Op.equalIn]
    simp [run_underlying Tryz.underlying142, go_sem, part, eqS, eqN]
    generalize (s == t) = y
    by_cases h1 : a = b <;> cases y <;> simp [h1]
  exact h
set_option maxRecDepth 100000 in
set_option maxHeartbeats 1000000 in
theorem aSame_c {b : Nat} {ps : List Plc} {W : World} (h : WAt b ps W) (hB : ∀ q ∈ ps, PlcB q) (x y : Nat) (p q : Plc) (hx : ps[x]? = some p) (hy : ps[y]? = some q) : Calls Tryz.prog 154 #[.pointer (some ⟨b, 0, none⟩), .int .i64 (x : Int), .int .i64 (y : Int)] W fun e w' => e = .returned (.bool (samePk p q)) ∧ Below W.heap.size W w' := by
  have HX : Hid (∀ i w, Below W.heap.size W w → i = (x : Int) → Calls Tryz.prog 108 #[.pointer (some ⟨b, 0, none⟩), .int .i64 i] w fun e w'' => e = .returned (.agg #[.int .i64 p.c.ld, .string (pkB p.c.nm)]) ∧ Below W.heap.size W w'') := fun i w hb hi => by
    rw [hi]; exact (aPkg_c (h.below hb) x p hx (hB p (List.mem_of_getElem? hx))).mono fun e w'' zz => ⟨zz.1, bstep hb zz.2⟩
  have HY : Hid (∀ i w, Below W.heap.size W w → i = (y : Int) → Calls Tryz.prog 108 #[.pointer (some ⟨b, 0, none⟩), .int .i64 i] w fun e w'' => e = .returned (.agg #[.int .i64 q.c.ld, .string (pkB q.c.nm)]) ∧ Below W.heap.size W w'') := fun i w hb hi => by
    rw [hi]; exact (aPkg_c (h.below hb) y q hy (hB q (List.mem_of_getElem? hy))).mono fun e w'' zz => ⟨zz.1, bstep hb zz.2⟩
  have HR2 : Hid ((p.c.ld == q.c.ld && pkB p.c.nm == pkB q.c.nm) = samePk p q) := by rw [Hid, pkB, pkB, beqB]; rfl
  generalize samePk p q = R at *
  generalize pkB p.c.nm = s1 at *
  generalize pkB q.c.nm = s2 at *
  have EQ : ∀ w, (Op.equal 142 (.agg #[.int .i64 p.c.ld, .string s1]) (.agg #[.int .i64 q.c.ld, .string s2])).run Tryz.prog w = .ok R w := fun w => by rw [eqPkA, HR2.out]
  have G1 : ∀ w, (eqGuard .eql 142 (.tmp 9) (.tmp 12) (.agg #[.int .i64 p.c.ld, .string s1]) (.agg #[.int .i64 q.c.ld, .string s2])).run Tryz.prog w = .ok () w := fun w => by
    simp [eqGuard, go_sem]
  have G2 : ∀ w, (binOp .eql 142 (.agg #[.int .i64 p.c.ld, .string s1]) (.agg #[.int .i64 q.c.ld, .string s2])).run Tryz.prog w = .ok (.bool R) w := fun w => by
    simp [binOp, EQ, go_sem]
  clear HR2 EQ h hB hx hy
  go_enter Tryz.func154, Tryz.ntmps154
  go_wp2_with (first
    | (go_at_call 108; refine (HX.out _ _ (Below.refl _ _) (by rfl)).mono ?_; rintro e w1 ⟨rfl, hb⟩; have B1 : Hid (Below W.heap.size W w1) := hb; clear hb HX)
    | (go_at_call 108; refine (HY.out _ _ B1.out (by rfl)).mono ?_; rintro e w2 ⟨rfl, hb⟩; have B2 : Hid (Below W.heap.size W w2) := hb; clear hb HY))
  exact bodyPost_ret (results_tmp rfl _ _ _) rfl ⟨rfl, B2.out⟩
/-- is the class of q open to that of p? -/
def clsO (q p : Plc) : Bool := (openI q.c.fl == 1) || samePk q p
set_option maxRecDepth 100000 in
set_option maxHeartbeats 1000000 in
theorem aCls_c {b : Nat} {ps : List Plc} {W : World} (h : WAt b ps W) (hB : ∀ q ∈ ps, PlcB q) (d c : Nat) (p q : Plc) (hd : ps[d]? = some p) (hc : ps[c]? = some q) : Calls Tryz.prog 110 #[.pointer (some ⟨b, 0, none⟩), .int .i64 (d : Int), .int .i64 (c : Int)] W fun e w' => e = .returned (.bool (clsO q p)) ∧ Below W.heap.size W w' := by
  have HC : Hid (∀ w, Below W.heap.size W w → Calls Tryz.prog 18 #[.pointer (some ⟨b, 0, none⟩), .int .i64 (c : Int)] w fun e w' => ∃ vi vm qm, e = .returned (.tuple #[.agg #[.string q.c.nm, .string q.c.su, vi, .int .i64 q.c.fl, .int .i64 q.c.ld, vm], .int .i64 0]) ∧ OwnC w' w.heap.size vi q.c.ni q.c.xi vm qm ∧ qm.map Prod.fst = q.c.ms ∧ Below w.heap.size w w') := fun w hb => by
    obtain ⟨N, mb, vp, pv, h⟩ := h.below hb
    exact class_yes N b mb ps vp pv c q w h hc (hB q (List.mem_of_getElem? hc))
  have HO : Hid (∀ w : World, Calls Tryz.prog 153 #[.int .i64 q.c.fl] w fun e w' => e = .returned (.int .i64 (openI q.c.fl)) ∧ w' = w) := fun w => open_c q.c.fl w
  have HS : Hid (∀ w, Below W.heap.size W w → Calls Tryz.prog 154 #[.pointer (some ⟨b, 0, none⟩), .int .i64 (c : Int), .int .i64 (d : Int)] w fun e w' => e = .returned (.bool (samePk q p)) ∧ Below W.heap.size W w') := fun w hb => (aSame_c (h.below hb) hB c d q p hc hd).mono fun e w' zz => ⟨zz.1, bstep hb zz.2⟩
  have HR : Hid (clsO q p = ((openI q.c.fl == 1) || samePk q p)) := rfl
  generalize clsO q p = R at *
  generalize samePk q p = sp at *
  generalize openI q.c.fl = op at *
  clear h hB hd hc
  by_cases h1 : op = 1
  · have HR : Hid (R = true) := by rw [Hid, HR.out, h1]; rfl
    subst h1
    go_enter Tryz.func110, Tryz.ntmps110
    go_wp2_with (first
      | (go_at_call 18; refine (HC.out _ (by repeat (first | exact Below.refl _ _ | refine Below.setCell ?_ (by simp; try omega) _ | refine Below.alloc ?_ (by simp; try omega) _ | refine Below.drew ?_))).mono ?_; rintro e w1 ⟨vi, vm, qm, rfl, hown, _, hb⟩; obtain ⟨a1, c1, rfl⟩ := ownv hown.ifs; obtain ⟨a2, c2, rfl⟩ := ownv hown.ms; have B1 : Hid (Below W.heap.size W w1) := bstep (by repeat (first | exact Below.refl _ _ | refine Below.setCell ?_ (by simp; try omega) _ | refine Below.alloc ?_ (by simp; try omega) _ | refine Below.drew ?_)) hb; clear hown hb HC)
      | (go_at_call 153; refine (HO.out _).mono ?_; rintro e w9 ⟨rfl, hw9⟩; rw [hw9]; clear hw9 w9))
    exact bodyPost_ret (results_tmp rfl _ _ _) rfl ⟨by rw [HR.out]; rfl, B1.out.alloc B1.out.size _⟩
  · have HR : Hid (R = sp) := by rw [Hid, HR.out]; simp [h1]
    cases sp
    all_goals
      go_enter Tryz.func110, Tryz.ntmps110
      go_wp2_with (first
        | (go_at_call 18; refine (HC.out _ (by repeat (first | exact Below.refl _ _ | refine Below.setCell ?_ (by simp; try omega) _ | refine Below.alloc ?_ (by simp; try omega) _ | refine Below.drew ?_))).mono ?_; rintro e w1 ⟨vi, vm, qm, rfl, hown, _, hb⟩; obtain ⟨a1, c1, rfl⟩ := ownv hown.ifs; obtain ⟨a2, c2, rfl⟩ := ownv hown.ms; have B1 : Hid (Below W.heap.size W w1) := bstep (by repeat (first | exact Below.refl _ _ | refine Below.setCell ?_ (by simp; try omega) _ | refine Below.alloc ?_ (by simp; try omega) _ | refine Below.drew ?_)) hb; clear hown hb HC)
        | (go_at_call 153; refine (HO.out _).mono ?_; rintro e w9 ⟨rfl, hw9⟩; rw [hw9]; clear hw9 w9)
        | (go_at_call 154; refine (HS.out _ (B1.out.alloc B1.out.size _)).mono ?_; rintro e w2 ⟨rfl, hb⟩; have B2 : Hid (Below W.heap.size W w2) := hb; clear hb HS))
      exact bodyPost_ret (results_tmp rfl _ _ _) rfl ⟨by rw [HR.out]; rfl, B2.out⟩
theorem inNs_iff (ps : List Plc) (l : List Int) : inNs ps.length l = l.all fun i => (plcI ps i).isSome := by
  rw [inNs]
  congr 1
  funext i
  rcases plcI_cases ps i with ⟨h1, h2⟩ | ⟨k, q, rfl, h2, h1⟩
  · rw [h1]
    by_cases h0 : 0 ≤ i
    · have : ¬ i < (ps.length : Int) := fun h => h2 ⟨h0, h⟩
      simp [this]
    · simp [h0]
  · rw [h1]
    have := (List.getElem?_eq_some_iff.1 h2).1
    simp; omega
/-- what ClassOpen answers -/
def coI (ps : List Plc) (d c : Int) : Value := match plcI ps d, plcI ps c with
  | some p, some q => .tuple #[.bool (clsO q p), .int .i64 0]
  | _, _ => .tuple #[.bool false, .int .i64 3]
set_option maxRecDepth 100000 in
theorem classOpen_c {b : Nat} {ps : List Plc} {W : World} (h : WAt b ps W) (hB : ∀ q ∈ ps, PlcB q) (d c : Int) : Calls Tryz.prog 58 #[.pointer (some ⟨b, 0, none⟩), .int .i64 d, .int .i64 c] W fun e w' => e = .returned (coI ps d c) ∧ Below W.heap.size W w' := by
  have HC : Hid (∀ (w : World) (v : Value), Below W.heap.size W w → Rds w v 2 1 [.int .i64 d, .int .i64 c] → Calls Tryz.prog 107 #[.pointer (some ⟨b, 0, none⟩), v] w fun e w' => e = .returned (.int .i64 (if (plcI ps d).isSome && (plcI ps c).isSome then 0 else 3)) ∧ Below W.heap.size W w') := fun w v hb hv => (check_c (h.below hb) v [d, c] hv (by simp)).mono fun e w' zz => ⟨by rw [zz.1, inNs_iff]; simp, bstep hb zz.2⟩
  rcases plcI_cases ps d with ⟨d1, _⟩ | ⟨d, p, rfl, d2, d1⟩
  · have e : coI ps d c = .tuple #[.bool false, .int .i64 3] := by rw [coI, d1]
    rw [e]
    rw [d1] at HC
    simp only [Option.isSome_none, Bool.false_and, Bool.false_eq_true, if_false] at HC
    clear h d1 e
    go_enter Tryz.func58, Tryz.ntmps58
    go_wp2_with (first
      | (go_at_call 107; refine (HC.out _ _ (by repeat (first | exact Below.refl _ _ | refine Below.setCell ?_ (by simp; try omega) _ | refine Below.alloc ?_ (by simp; try omega) _ | refine Below.drew ?_)) (rds_at _ _ rfl _ 3 2 1 rfl (by decide))).mono ?_; rintro e w1 ⟨rfl, hb⟩; have B1 : Hid (Below W.heap.size W w1) := hb; clear hb HC))
    exact bodyPost_ret (results_tmp2 rfl _ _ _) rfl ⟨rfl, B1.out⟩
  · rcases plcI_cases ps c with ⟨c1, _⟩ | ⟨c, q, rfl, c2, c1⟩
    · have e : coI ps d c = .tuple #[.bool false, .int .i64 3] := by rw [coI, d1, c1]
      rw [e]
      rw [d1, c1] at HC
      simp only [Option.isSome_none, Bool.and_false, Bool.false_eq_true, if_false] at HC
      clear h d1 e
      go_enter Tryz.func58, Tryz.ntmps58
      go_wp2_with (first
        | (go_at_call 107; refine (HC.out _ _ (by repeat (first | exact Below.refl _ _ | refine Below.setCell ?_ (by simp; try omega) _ | refine Below.alloc ?_ (by simp; try omega) _ | refine Below.drew ?_)) (rds_at _ _ rfl _ 3 2 1 rfl (by decide))).mono ?_; rintro e w1 ⟨rfl, hb⟩; have B1 : Hid (Below W.heap.size W w1) := hb; clear hb HC))
      exact bodyPost_ret (results_tmp2 rfl _ _ _) rfl ⟨rfl, B1.out⟩
    · have e : coI ps d c = .tuple #[.bool (clsO q p), .int .i64 0] := by rw [coI, d1, c1]
      rw [e]
      rw [d1, c1] at HC
      simp only [Option.isSome_some, Bool.and_true, if_true] at HC
      have HI : Hid (∀ w, Below W.heap.size W w → Calls Tryz.prog 110 #[.pointer (some ⟨b, 0, none⟩), .int .i64 (d : Int), .int .i64 (c : Int)] w fun e w' => e = .returned (.bool (clsO q p)) ∧ Below W.heap.size W w') := fun w hb => (aCls_c (h.below hb) hB d c p q d2 c2).mono fun e w' zz => ⟨zz.1, bstep hb zz.2⟩
      clear h d1 e c1 d2 c2
      go_enter Tryz.func58, Tryz.ntmps58
      go_wp2_with (first
        | (go_at_call 107; refine (HC.out _ _ (by repeat (first | exact Below.refl _ _ | refine Below.setCell ?_ (by simp; try omega) _ | refine Below.alloc ?_ (by simp; try omega) _ | refine Below.drew ?_)) (rds_at _ _ rfl _ 3 2 1 rfl (by decide))).mono ?_; rintro e w1 ⟨rfl, hb⟩; have B1 : Hid (Below W.heap.size W w1) := hb; clear hb HC)
        | (go_at_call 110; refine (HI.out _ B1.out).mono ?_; rintro e w2 ⟨rfl, hb⟩; have B2 : Hid (Below W.heap.size W w2) := hb; clear hb HI))
      exact bodyPost_ret (results_tmp2 rfl _ _ _) rfl ⟨rfl, B2.out⟩


theorem retB {a b : Bool} (h : a = b) : Ending.returned (.bool a) = Ending.returned (.bool b) := by rw [h]


set_option maxRecDepth 100000 in
theorem isOverInt_c (d : Int) (s : ByteArray) (W : World) : Calls Tryz.prog 101 #[.agg #[.int .i64 d, .string s]] W fun e w' => e = .returned (.bool s.toList.isEmpty) ∧ Below W.heap.size W w' := by
  cases he : s.toList.isEmpty
  all_goals
    go_enter Tryz.func101, Tryz.ntmps101
    go_wp2
    go_ret
    exact ⟨by first | rfl | simp_all, (by repeat (first | exact Below.refl _ _ | refine Below.setCell ?_ (by simp; try omega) _ | refine Below.alloc ?_ (by simp; try omega) _ | refine Below.drew ?_))⟩
/-- is a type loaded? -/
def ldI (ps : List Plc) (d : Int) (s : ByteArray) : Int := if sndB d s.data.toList then (if s.toList.isEmpty then 0 else match lookL ps s.data.toList with
  | some _ => 0
  | none => 20) else 1
set_option maxRecDepth 100000 in
theorem loaded_c {b : Nat} {ps : List Plc} {W : World} (h : WAt b ps W) (d : Int) (s : ByteArray) (hs : s.size ≤ maxLen) : Calls Tryz.prog 50 #[.pointer (some ⟨b, 0, none⟩), .agg #[.int .i64 d, .string s]] W fun e w' => e = .returned (.int .i64 (ldI ps d s)) ∧ Below W.heap.size W w' := by
  have HC : Hid (∀ w : World, Calls Tryz.prog 100 #[.agg #[.int .i64 d, .string s]] w fun e w' => e = .returned (.int .i64 (chkI (sndB d s.data.toList))) ∧ Below w.heap.size w w') := tyCheck_any d s hs
  have HO : Hid (∀ w : World, Calls Tryz.prog 101 #[.agg #[.int .i64 d, .string s]] w fun e w' => e = .returned (.bool s.toList.isEmpty) ∧ Below w.heap.size w w') := isOverInt_c d s
  have HN : Hid (∀ w : World, Below W.heap.size W w → Calls Tryz.prog 21 #[.pointer (some ⟨b, 0, none⟩), .string s] w fun e w' => e = .returned (bnV (lookL ps s.data.toList)) ∧ Below w.heap.size w w') := fun w hb => byName_c (h.below hb) s hs
  obtain ⟨R, hR⟩ : ∃ R, ldI ps d s = R := ⟨_, rfl⟩
  rw [hR]
  have HR : Hid (ldI ps d s = R) := hR
  clear hR h
  unfold ldI at HR
  generalize sndB d s.data.toList = sn at *
  generalize s.toList.isEmpty = em at *
  generalize lookL ps s.data.toList = lk at *
  cases sn with
  | false =>
    have e : chkI false = 1 := rfl
    rw [e] at HC
    have HS : Hid (R = 1) := HR.out.symm
    clear HR
    go_enter Tryz.func50, Tryz.ntmps50
    go_wp2_with (go_at_call 100; refine (HC.out _).mono ?_; rintro e w1 ⟨rfl, hb⟩; have B1 : Hid (Below W.heap.size W w1) := bstep (by repeat (first | exact Below.refl _ _ | refine Below.setCell ?_ (by simp; try omega) _ | refine Below.alloc ?_ (by simp; try omega) _ | refine Below.drew ?_)) hb; clear hb HC)
    exact bodyPost_ret (results_tmp rfl _ _ _) rfl ⟨by rw [HS.out]; rfl, B1.out⟩
  | true =>
    have e : chkI true = 0 := rfl
    rw [e] at HC
    cases em with
    | true =>
      have HS : Hid (R = 0) := HR.out.symm
      clear HR
      go_enter Tryz.func50, Tryz.ntmps50
      go_wp2_with (first
        | (go_at_call 100; refine (HC.out _).mono ?_; rintro e w1 ⟨rfl, hb⟩; have h0 := (hb.block W.heap.size (by simp)).trans (halloc1 W _); have r0 := cell_of_row w1 W.heap.size 0 _ _ _ h0; have r1 := cell_of_row w1 W.heap.size 1 _ _ _ h0; simp only [List.getElem?_toArray, List.getElem?_cons_zero, List.getElem?_cons_succ] at r0 r1; have B1 : Hid (Below W.heap.size W w1) := bstep (by repeat (first | exact Below.refl _ _ | refine Below.setCell ?_ (by simp; try omega) _ | refine Below.alloc ?_ (by simp; try omega) _ | refine Below.drew ?_)) hb; clear hb HC h0)
        | (go_at_call 101; refine (HO.out _).mono ?_; rintro e w2 ⟨rfl, hb⟩; have B2 : Hid (Below W.heap.size W w2) := bstep B1.out hb; clear hb HO))
      exact bodyPost_ret (results_tmp rfl _ _ _) rfl ⟨by rw [HS.out]; rfl, B2.out⟩
    | false =>
      cases lk
      all_goals
        first | have HS : Hid (R = 20) := HR.out.symm | have HS : Hid (R = 0) := HR.out.symm
        clear HR
        simp only [bnV] at HN
        go_enter Tryz.func50, Tryz.ntmps50
        go_wp2_with (first
          | (go_at_call 100; refine (HC.out _).mono ?_; rintro e w1 ⟨rfl, hb⟩; have h0 := (hb.block W.heap.size (by simp)).trans (halloc1 W _); have r0 := cell_of_row w1 W.heap.size 0 _ _ _ h0; have r1 := cell_of_row w1 W.heap.size 1 _ _ _ h0; simp only [List.getElem?_toArray, List.getElem?_cons_zero, List.getElem?_cons_succ] at r0 r1; have hl : W.heap.size < w1.heap.size := (Array.getElem?_eq_some_iff.1 h0).1; have B1 : Hid (Below W.heap.size W w1) := bstep (by repeat (first | exact Below.refl _ _ | refine Below.setCell ?_ (by simp; try omega) _ | refine Below.alloc ?_ (by simp; try omega) _ | refine Below.drew ?_)) hb; clear hb HC h0)
          | (go_at_call 101; refine (HO.out _).mono ?_; rintro e w2 ⟨rfl, hb⟩; have B2 : Hid (Below W.heap.size W w2) := bstep B1.out hb; replace r0 := (hb.cell (p := ⟨W.heap.size, 0, none⟩) hl).trans r0; replace r1 := (hb.cell (p := ⟨W.heap.size, 1, none⟩) hl).trans r1; clear hb HO)
          | (go_at_call 21; refine (HN.out _ B2.out).mono ?_; rintro e w3 ⟨rfl, hb⟩; have B3 : Hid (Below W.heap.size W w3) := bstep B2.out hb; clear hb HN))
        exact bodyPost_ret (results_tmp rfl _ _ _) rfl ⟨by rw [HS.out]; rfl, B3.out⟩


/-- is a loaded type open to the class of p? -/
def tyO (ps : List Plc) (p : Plc) (s : ByteArray) : Bool := if s.toList.isEmpty then true else match lookL ps s.data.toList with
  | some k => (match ps[k]? with | some q => clsO q p | none => false)
  | none => false
set_option maxRecDepth 100000 in
theorem aTy_c {b : Nat} {ps : List Plc} {W : World} (h : WAt b ps W) (hB : ∀ q ∈ ps, PlcB q) (d : Nat) (p : Plc) (hd : ps[d]? = some p) (x : Int) (s : ByteArray) (hs : s.size ≤ maxLen) (hl : ldI ps x s = 0) : Calls Tryz.prog 111 #[.pointer (some ⟨b, 0, none⟩), .int .i64 (d : Int), .agg #[.int .i64 x, .string s]] W fun e w' => e = .returned (.bool (tyO ps p s)) ∧ Below W.heap.size W w' := by
  cases he : s.toList.isEmpty with
  | true =>
    have e : tyO ps p s = true := by rw [tyO, he]; rfl
    rw [e]
    clear h e hl
    go_enter Tryz.func111, Tryz.ntmps111
    go_wp2
    exact bodyPost_ret (results_tmp rfl _ _ _) rfl ⟨rfl, (by repeat (first | exact Below.refl _ _ | refine Below.setCell ?_ (by simp; try omega) _ | refine Below.alloc ?_ (by simp; try omega) _ | refine Below.drew ?_))⟩
  | false =>
    obtain ⟨k, hk⟩ : ∃ k, lookL ps s.data.toList = some k := by
      unfold ldI at hl
      rw [he] at hl
      cases hl2 : lookL ps s.data.toList with
      | some k => exact ⟨k, rfl⟩
      | none => rw [hl2] at hl; exfalso; revert hl; cases sndB x s.data.toList <;> simp
    obtain ⟨q, hq, _⟩ := look_place hk
    have e : tyO ps p s = clsO q p := by rw [tyO, he, hk]; simp only [hq]; rfl
    rw [e]
    have HN : Hid (∀ w : World, Below W.heap.size W w → Calls Tryz.prog 21 #[.pointer (some ⟨b, 0, none⟩), .string s] w fun e w' => e = .returned (.tuple #[.int .i64 (k : Int), .int .i64 0]) ∧ Below W.heap.size W w') := fun w hb => (byName_c (h.below hb) s hs).mono fun e w' zz => ⟨by rw [zz.1, hk]; rfl, bstep hb zz.2⟩
    have HI : Hid (∀ w, Below W.heap.size W w → Calls Tryz.prog 110 #[.pointer (some ⟨b, 0, none⟩), .int .i64 (d : Int), .int .i64 (k : Int)] w fun e w' => e = .returned (.bool (clsO q p)) ∧ Below W.heap.size W w') := fun w hb => (aCls_c (h.below hb) hB d k p q hd hq).mono fun e w' zz => ⟨zz.1, bstep hb zz.2⟩
    generalize clsO q p = R at *
    clear h hB hd hl hk hq e hs
    go_enter Tryz.func111, Tryz.ntmps111
    go_wp2_with (first
      | (go_at_call 21; refine (HN.out _ (by repeat (first | exact Below.refl _ _ | refine Below.setCell ?_ (by simp; try omega) _ | refine Below.alloc ?_ (by simp; try omega) _ | refine Below.drew ?_))).mono ?_; rintro e w1 ⟨rfl, hb⟩; have B1 : Hid (Below W.heap.size W w1) := hb; clear hb HN)
      | (go_at_call 110; refine (HI.out _ B1.out).mono ?_; rintro e w2 ⟨rfl, hb⟩; have B2 : Hid (Below W.heap.size W w2) := hb; clear hb HI))
    exact bodyPost_ret (results_tmp rfl _ _ _) rfl ⟨rfl, B2.out⟩
/-- what TypeOpen answers -/
def toI (ps : List Plc) (d x : Int) (s : ByteArray) : Value := match plcI ps d with
  | some p => if ldI ps x s = 0 then .tuple #[.bool (tyO ps p s), .int .i64 0] else .tuple #[.bool false, .int .i64 (ldI ps x s)]
  | none => .tuple #[.bool false, .int .i64 3]
set_option maxRecDepth 100000 in
theorem typeOpen_c {b : Nat} {ps : List Plc} {W : World} (h : WAt b ps W) (hB : ∀ q ∈ ps, PlcB q) (d x : Int) (s : ByteArray) (hs : s.size ≤ maxLen) : Calls Tryz.prog 60 #[.pointer (some ⟨b, 0, none⟩), .int .i64 d, .agg #[.int .i64 x, .string s]] W fun e w' => e = .returned (toI ps d x s) ∧ Below W.heap.size W w' := by
  have HC : Hid (∀ (w : World) (v : Value), Below W.heap.size W w → Rds w v 1 1 [.int .i64 d] → Calls Tryz.prog 107 #[.pointer (some ⟨b, 0, none⟩), v] w fun e w' => e = .returned (.int .i64 (if (plcI ps d).isSome then 0 else 3)) ∧ Below w.heap.size w w') := fun w v hb hv => (check_c (h.below hb) v [d] hv (by simp)).mono fun e w' zz => ⟨by rw [zz.1, inNs_iff]; simp, zz.2⟩
  have HL : Hid (∀ w, Below W.heap.size W w → Calls Tryz.prog 50 #[.pointer (some ⟨b, 0, none⟩), .agg #[.int .i64 x, .string s]] w fun e w' => e = .returned (.int .i64 (ldI ps x s)) ∧ Below w.heap.size w w') := fun w hb => loaded_c (h.below hb) x s hs
  rcases plcI_cases ps d with ⟨d1, _⟩ | ⟨d, p, rfl, d2, d1⟩
  · have e : toI ps d x s = .tuple #[.bool false, .int .i64 3] := by rw [toI, d1]
    rw [e]
    rw [d1] at HC
    simp only [Option.isSome_none, Bool.false_eq_true, if_false] at HC
    clear h d1 e HL
    go_enter Tryz.func60, Tryz.ntmps60
    go_wp2_with (first
      | (go_at_call 107; refine (HC.out _ _ (by repeat (first | exact Below.refl _ _ | refine Below.setCell ?_ (by simp; try omega) _ | refine Below.alloc ?_ (by simp; try omega) _ | refine Below.drew ?_)) (rds_at _ _ (by simp) _ 3 1 1 rfl (by decide))).mono ?_; rintro e w1 ⟨rfl, hb⟩; have B1 : Hid (Below W.heap.size W w1) := bstep (by repeat (first | exact Below.refl _ _ | refine Below.setCell ?_ (by simp; try omega) _ | refine Below.alloc ?_ (by simp; try omega) _ | refine Below.drew ?_)) hb; clear hb HC))
    exact bodyPost_ret (results_tmp2 rfl _ _ _) rfl ⟨rfl, B1.out⟩
  · rw [d1] at HC
    simp only [Option.isSome_some, if_true] at HC
    by_cases hl : ldI ps x s = 0
    · have e : toI ps d x s = .tuple #[.bool (tyO ps p s), .int .i64 0] := by rw [toI, d1]; simp only [if_pos hl]
      rw [e]
      have HT : Hid (∀ w, Below W.heap.size W w → Calls Tryz.prog 111 #[.pointer (some ⟨b, 0, none⟩), .int .i64 (d : Int), .agg #[.int .i64 x, .string s]] w fun e w' => e = .returned (.bool (tyO ps p s)) ∧ Below w.heap.size w w') := fun w hb => aTy_c (h.below hb) hB d p d2 x s hs hl
      rw [hl] at HL
      generalize tyO ps p s = R at *
      clear h d1 e d2 hl hB hs
      go_enter Tryz.func60, Tryz.ntmps60
      go_wp2_with (first
        | (go_at_call 107; refine (HC.out _ _ (by repeat (first | exact Below.refl _ _ | refine Below.setCell ?_ (by simp; try omega) _ | refine Below.alloc ?_ (by simp; try omega) _ | refine Below.drew ?_)) (rds_at _ _ (by simp) _ 3 1 1 rfl (by decide))).mono ?_; rintro e w1 ⟨rfl, hb⟩; have h0 := (hb.block W.heap.size (by simp; omega)).trans (heap_alloc2_old W _ _); have r0 := cell_of_row w1 W.heap.size 0 _ _ _ h0; have r1 := cell_of_row w1 W.heap.size 1 _ _ _ h0; simp only [List.getElem?_toArray, List.getElem?_cons_zero, List.getElem?_cons_succ] at r0 r1; have hl0 : W.heap.size < w1.heap.size := (Array.getElem?_eq_some_iff.1 h0).1; have B1 : Hid (Below W.heap.size W w1) := bstep (by repeat (first | exact Below.refl _ _ | refine Below.setCell ?_ (by simp; try omega) _ | refine Below.alloc ?_ (by simp; try omega) _ | refine Below.drew ?_)) hb; clear hb HC h0)
        | (go_at_call 50; refine (HL.out _ B1.out).mono ?_; rintro e w2 ⟨rfl, hb⟩; replace r0 := (hb.cell (p := ⟨W.heap.size, 0, none⟩) hl0).trans r0; replace r1 := (hb.cell (p := ⟨W.heap.size, 1, none⟩) hl0).trans r1; have B2 : Hid (Below W.heap.size W w2) := bstep B1.out hb; clear hb HL)
        | (go_at_call 111; refine (HT.out _ B2.out).mono ?_; rintro e w3 ⟨rfl, hb⟩; have B3 : Hid (Below W.heap.size W w3) := bstep B2.out hb; clear hb HT))
      exact bodyPost_ret (results_tmp2 rfl _ _ _) rfl ⟨rfl, B3.out⟩
    · have e : toI ps d x s = .tuple #[.bool false, .int .i64 (ldI ps x s)] := by rw [toI, d1]; simp only [if_neg hl]
      rw [e]
      generalize ldI ps x s = R at *
      clear h d1 e d2 hB hs
      go_enter Tryz.func60, Tryz.ntmps60
      go_wp2_with (first
        | (go_at_call 107; refine (HC.out _ _ (by repeat (first | exact Below.refl _ _ | refine Below.setCell ?_ (by simp; try omega) _ | refine Below.alloc ?_ (by simp; try omega) _ | refine Below.drew ?_)) (rds_at _ _ (by simp) _ 3 1 1 rfl (by decide))).mono ?_; rintro e w1 ⟨rfl, hb⟩; have h0 := (hb.block W.heap.size (by simp; omega)).trans (heap_alloc2_old W _ _); have r0 := cell_of_row w1 W.heap.size 0 _ _ _ h0; have r1 := cell_of_row w1 W.heap.size 1 _ _ _ h0; simp only [List.getElem?_toArray, List.getElem?_cons_zero, List.getElem?_cons_succ] at r0 r1; have hl0 : W.heap.size < w1.heap.size := (Array.getElem?_eq_some_iff.1 h0).1; have B1 : Hid (Below W.heap.size W w1) := bstep (by repeat (first | exact Below.refl _ _ | refine Below.setCell ?_ (by simp; try omega) _ | refine Below.alloc ?_ (by simp; try omega) _ | refine Below.drew ?_)) hb; clear hb HC h0)
        | (go_at_call 50; refine (HL.out _ B1.out).mono ?_; rintro e w2 ⟨rfl, hb⟩; have B2 : Hid (Below W.heap.size W w2) := bstep B1.out hb; clear hb HL))
      exact bodyPost_ret (results_tmp2 rfl _ _ _) rfl ⟨rfl, B2.out⟩
/-- what Package answers -/
def paI (ps : List Plc) (d : Int) : Value := match plcI ps d with
  | some p => .tuple #[.int .i64 p.c.ld, .string (pkB p.c.nm), .int .i64 0]
  | none => .tuple #[.int .i64 0, .string ⟨#[]⟩, .int .i64 3]
set_option maxRecDepth 100000 in
theorem package_c {b : Nat} {ps : List Plc} {W : World} (h : WAt b ps W) (hB : ∀ q ∈ ps, PlcB q) (d : Int) : Calls Tryz.prog 56 #[.pointer (some ⟨b, 0, none⟩), .int .i64 d] W fun e w' => e = .returned (paI ps d) ∧ Below W.heap.size W w' := by
  have HC : Hid (∀ (w : World) (v : Value), Below W.heap.size W w → Rds w v 1 1 [.int .i64 d] → Calls Tryz.prog 107 #[.pointer (some ⟨b, 0, none⟩), v] w fun e w' => e = .returned (.int .i64 (if (plcI ps d).isSome then 0 else 3)) ∧ Below w.heap.size w w') := fun w v hb hv => (check_c (h.below hb) v [d] hv (by simp)).mono fun e w' zz => ⟨by rw [zz.1, inNs_iff]; simp, zz.2⟩
  rcases plcI_cases ps d with ⟨d1, _⟩ | ⟨d, p, rfl, d2, d1⟩
  · have e : paI ps d = .tuple #[.int .i64 0, .string ⟨#[]⟩, .int .i64 3] := by rw [paI, d1]
    rw [e]
    rw [d1] at HC
    simp only [Option.isSome_none, Bool.false_eq_true, if_false] at HC
    clear h d1 e
    go_enter Tryz.func56, Tryz.ntmps56
    go_wp2_with (first
      | (go_at_call 107; refine (HC.out _ _ (by repeat (first | exact Below.refl _ _ | refine Below.setCell ?_ (by simp; try omega) _ | refine Below.alloc ?_ (by simp; try omega) _ | refine Below.drew ?_)) (rds_at _ _ (by simp) _ 3 1 1 rfl (by decide))).mono ?_; rintro e w1 ⟨rfl, hb⟩; have B1 : Hid (Below W.heap.size W w1) := bstep (by repeat (first | exact Below.refl _ _ | refine Below.setCell ?_ (by simp; try omega) _ | refine Below.alloc ?_ (by simp; try omega) _ | refine Below.drew ?_)) hb; clear hb HC))
    exact bodyPost_ret (v := .tuple #[.int .i64 0, .string ⟨#[]⟩, .int .i64 3]) (by simp [results, Tryz.results56, go_sem]) rfl ⟨rfl, B1.out⟩
  · rw [d1] at HC
    simp only [Option.isSome_some, if_true] at HC
    have e : paI ps d = .tuple #[.int .i64 p.c.ld, .string (pkB p.c.nm), .int .i64 0] := by rw [paI, d1]
    rw [e]
    have HP : Hid (∀ w, Below W.heap.size W w → Calls Tryz.prog 108 #[.pointer (some ⟨b, 0, none⟩), .int .i64 (d : Int)] w fun e w' => e = .returned (.agg #[.int .i64 p.c.ld, .string (pkB p.c.nm)]) ∧ Below w.heap.size w w') := fun w hb => aPkg_c (h.below hb) d p d2 (hB p (List.mem_of_getElem? d2))
    generalize pkB p.c.nm = pk at *
    clear h d1 e d2 hB
    go_enter Tryz.func56, Tryz.ntmps56
    go_wp2_with (first
      | (go_at_call 107; refine (HC.out _ _ (by repeat (first | exact Below.refl _ _ | refine Below.setCell ?_ (by simp; try omega) _ | refine Below.alloc ?_ (by simp; try omega) _ | refine Below.drew ?_)) (rds_at _ _ (by simp) _ 3 1 1 rfl (by decide))).mono ?_; rintro e w1 ⟨rfl, hb⟩; have B1 : Hid (Below W.heap.size W w1) := bstep (by repeat (first | exact Below.refl _ _ | refine Below.setCell ?_ (by simp; try omega) _ | refine Below.alloc ?_ (by simp; try omega) _ | refine Below.drew ?_)) hb; clear hb HC)
      | (go_at_call 108; refine (HP.out _ B1.out).mono ?_; rintro e w2 ⟨rfl, hb⟩; have B2 : Hid (Below W.heap.size W w2) := bstep B1.out hb; clear hb HP))
    go_region
    all_goals go_wp2
    all_goals exact bodyPost_ret (v := .tuple #[.int .i64 p.c.ld, .string pk, .int .i64 0]) (by simp [results, Tryz.results56, go_sem]) rfl ⟨rfl, (B2.out.alloc B2.out.size _).drew⟩


set_option maxRecDepth 100000 in
theorem awake8_c (W : World) : Calls Tryz.prog 54 #[] W fun e w' => e = .returned (.bool true) ∧ Below W.heap.size W w' := by
  have HN : Hid (∀ w : World, Calls Tryz.prog 43 #[] w fun e w' => e = .returned (.pointer (some ⟨w.heap.size + 1, 0, none⟩)) ∧ (∃ vp pv, HW w' w.heap.size (w.heap.size + 1) w.heap.size P3 vp pv) ∧ Below w.heap.size w w') := new_any
  have HO : Hid (∀ (w : World) (b : Nat), WAt b P3 w → Calls Tryz.prog 58 #[.pointer (some ⟨b, 0, none⟩), .int .i64 1, .int .i64 0] w fun e w' => e = .returned (.tuple #[.bool true, .int .i64 0]) ∧ Below w.heap.size w w') := fun w b h => classOpen_c h wi3.pb 1 0
  go_enter Tryz.func54, Tryz.ntmps54
  go_wp2_with (first
    | (go_at_call 43; refine (HN.out _).mono ?_; rintro e w1 ⟨rfl, ⟨vp, pv, hw⟩, hb⟩; have H1 : Hid (WAt (W.heap.size + 1) P3 w1) := hw.wat; have B1 : Hid (Below W.heap.size W w1) := hb; clear hw hb HN)
    | (go_at_call 58; refine (HO.out _ _ H1.out).mono ?_; rintro e w2 ⟨rfl, hb⟩; have B2 : Hid (Below W.heap.size W w2) := bstep B1.out hb; clear hb HO))
  exact bodyPost_ret (results_tmp rfl _ _ _) rfl ⟨rfl, B2.out⟩

theorem clss_keep {w w' : World} {v : Value} {l : List Cls} (h : IsClss w v l) (hb : Below w.heap.size w w') : IsClss w' v l := by
  obtain ⟨ao, cap, rfl, h1, h2, h3⟩ := h
  refine ⟨ao, cap, rfl, h1, h2, fun hne => ?_⟩
  obtain ⟨bk, o, e, hlt, hc⟩ := h3 hne
  refine ⟨bk, o, e, Nat.lt_of_lt_of_le hlt hb.size, fun k c hk => ?_⟩
  obtain ⟨vi, vm, h4, h5⟩ := hc k c hk
  exact ⟨vi, vm, fun j u hj => (hb.cell hlt).trans (h4 j u hj), h5.keep hb⟩
theorem samePk_self (q : Plc) : samePk q q = true := by simp [samePk]


def NmW (ps : List Plc) : Prop := ∀ k q, ps[k]? = some q → lookL ps (nameL q) = some k ∧ validL (nameL q) = true
theorem cls_name {c : Cls} (h : clsB c = true) : validL c.nm.data.toList = true := by
  unfold clsB at h
  simp only [Bool.and_eq_true] at h
  exact h.1.1.1.1.1.1.1.1.1
theorem nmW (l : List Cls) (hl : ∀ c ∈ l, ClsW c) : NmW (wld l) := by
  refine wld_ind (P := NmW) (fun k q hk => ?_) (fun ps c h hc => ?_) l hl
  · match k, hk with
    | 0, hk => simp [P3] at hk; subst hk; exact ⟨by decide, by decide⟩
    | 1, hk => simp [P3] at hk; subst hk; exact ⟨by decide, by decide⟩
    | 2, hk => simp [P3] at hk; subst hk; exact ⟨by decide, by decide⟩
    | (k + 3), hk => simp [P3] at hk
  · cases hd : defN ps c with
    | error e => exact h
    | ok p =>
      obtain ⟨h1, _, hn, s, l, _, _, rfl⟩ := def_ok hd
      intro k q hk
      have hk2 : (ps ++ [(⟨hcOf c, s, gathL (ps.map Plc.cl) s l⟩ : Plc)])[k]? = some q := hk
      show lookL (ps ++ [_]) (nameL q) = some k ∧ _
      by_cases hlt : k < ps.length
      · rw [List.getElem?_append_left hlt] at hk2
        obtain ⟨h2, h3⟩ := h k q hk2
        exact ⟨look_snoc h2 hn, h3⟩
      · rw [List.getElem?_append_right (by omega)] at hk2
        have he : k - ps.length = 0 := by
          have := (List.getElem?_eq_some_iff.1 hk2).1
          simp at this; omega
        rw [he] at hk2
        simp at hk2
        subst hk2
        refine ⟨?_, cls_name h1⟩
        rw [lookL, lookF_snoc, if_pos rfl]
        congr 1; omega
end Go.Proofs.YtpbnjmncjecobaaGreat
