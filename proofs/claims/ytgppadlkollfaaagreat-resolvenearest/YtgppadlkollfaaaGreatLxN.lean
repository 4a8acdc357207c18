/- The law ResolveNearest: the walk. (Written by genlxn.py.) -/
import Derived.Test.YtgppadlkollfaaaGreatRsD
import Derived.Test.YtgppadlkollfaaaGreatRsF
import Derived.Test.YtgppadlkollfaaaGreatRsA
namespace Go.Proofs.YtgppadlkollfaaaGreat
open Go.RowKit Go.Maps

theorem clss_keep {w w' : World} {v : Value} {l : List Cls} (h : IsClss w v l) (hb : Below w.heap.size w w') : IsClss w' v l := by
  obtain ⟨ao, cap, rfl, h1, h2, h3⟩ := h
  refine ⟨ao, cap, rfl, h1, h2, fun hne => ?_⟩
  obtain ⟨bk, o, e, hlt, hc⟩ := h3 hne
  refine ⟨bk, o, e, Nat.lt_of_lt_of_le hlt hb.size, fun k c hk => ?_⟩
  obtain ⟨vi, vm, h4, h5⟩ := hc k c hk
  exact ⟨vi, vm, fun j u hj => (hb.cell hlt).trans (h4 j u hj), h5.keep hb⟩


set_option maxRecDepth 100000 in
set_option maxHeartbeats 4000000 in
theorem built11_c (v : Value) (l : List Cls) (W : World) (h : IsClss W v l) : Calls Tryz.prog 48 #[v] W fun e w' => (∃ b, e = .returned (.pointer (some ⟨b, 0, none⟩)) ∧ WAt b (wld l) w') ∧ Below W.heap.size W w' := by
  have hCW := clss_w h
  obtain ⟨ao, cap, rfl, h1, h2, h3⟩ := h
  unfold maxLen at h2
  obtain ⟨L, hL⟩ : ∃ L, l.length = L := ⟨_, rfl⟩
  have HL : Hid (l.length = L) := hL
  have HI : Hid _ := h3
  have HCW : Hid (∀ c ∈ l, ClsW c) := hCW
  rw [hL] at h1 ⊢
  clear hL h3 hCW
  have HN : Hid (∀ w : World, Calls Tryz.prog 66 #[] w fun e w' => e = .returned (.pointer (some ⟨w.heap.size + 1, 0, none⟩)) ∧ (∃ vp pv, HW w' w.heap.size (w.heap.size + 1) w.heap.size P3 vp pv) ∧ Below w.heap.size w w') := new_any
  go_enter Tryz.func48, Tryz.ntmps48
  go_wp2_with (first
    | (go_at_call 66; refine (HN.out _).mono ?_; rintro e w2 ⟨rfl, hw, hb⟩; have H2 : Hid (∃ vp pv, HW w2 W.heap.size (W.heap.size + 1) W.heap.size P3 vp pv) := hw; have B2 : Hid (Below W.heap.size W w2) := hb; clear hb hw HN))
  go_loopw [4] (fun iv wr => ∃ (i : Nat), iv = .int .i64 i ∧ i ≤ L ∧ Hid (∃ vp pv, HW wr W.heap.size (W.heap.size + 1) W.heap.size (wld (l.take i)) vp pv) ∧ Hid (Below W.heap.size W wr)) (fun iv _ => L - (intOf iv).toNat)
  case atStart => exact ⟨0, rfl, Nat.zero_le _, H2, B2⟩
  case round =>
    clear H2 B2
    obtain ⟨i, rfl, hi, hHW, hB⟩ := hrel
    by_cases hlt : i < L
    · obtain ⟨c, hc⟩ : ∃ c, l[i]? = some c := ⟨_, List.getElem?_eq_getElem (by rw [HL.out]; exact hlt)⟩
      obtain ⟨bk, o, rfl, hbk, hcl⟩ := HI.out (fun e => by rw [e] at hc; simp at hc)
      obtain ⟨vi, vm, hcell, hin⟩ := hcl i c hc
      have bel : Below W.heap.size W wr := hB.out
      have p0 : wr.cell? ⟨bk, o + i * 6, none⟩ = some (.string c.nm) := (bel.cell (p := ⟨bk, o + i * 6, none⟩) hbk).trans (hcell 0 _ rfl)
      have p1 : wr.cell? ⟨bk, o + i * 6 + 1, none⟩ = some (.string c.su) := (bel.cell (p := ⟨bk, o + i * 6 + 1, none⟩) hbk).trans (hcell 1 _ rfl)
      have p2 : wr.cell? ⟨bk, o + i * 6 + 2, none⟩ = some vi := (bel.cell (p := ⟨bk, o + i * 6 + 2, none⟩) hbk).trans (hcell 2 _ rfl)
      have p3 : wr.cell? ⟨bk, o + i * 6 + 3, none⟩ = some (.int .i64 c.fl) := (bel.cell (p := ⟨bk, o + i * 6 + 3, none⟩) hbk).trans (hcell 3 _ rfl)
      have p4 : wr.cell? ⟨bk, o + i * 6 + 4, none⟩ = some (.int .i64 c.ld) := (bel.cell (p := ⟨bk, o + i * 6 + 4, none⟩) hbk).trans (hcell 4 _ rfl)
      have p5 : wr.cell? ⟨bk, o + i * 6 + 5, none⟩ = some vm := (bel.cell (p := ⟨bk, o + i * 6 + 5, none⟩) hbk).trans (hcell 5 _ rfl)
      have hWI : WI (wld (l.take i)) := wld_wi _ (fun c hc => HCW.out c (List.mem_of_mem_take hc))
      have HD : Hid (Calls Tryz.prog 60 #[.pointer (some ⟨W.heap.size + 1, 0, none⟩), .agg #[.string c.nm, .string c.su, vi, .int .i64 c.fl, .int .i64 c.ld, vm]] wr fun e w' => (∃ u, e = .returned u) ∧ Hid (∃ vp pv, HW w' W.heap.size (W.heap.size + 1) W.heap.size (wld (l.take (i + 1))) vp pv) ∧ Hid (Below W.heap.size W w')) := by
        obtain ⟨vp, pv, hw⟩ := hHW.out
        refine (define_any W.heap.size (W.heap.size + 1) W.heap.size _ vp pv c vi vm wr hw hB.out.size (hin.keep bel) hWI.nm).mono ?_
        rintro e w' ⟨rfl, hw', hb', _⟩
        rw [wld_at hc]
        exact ⟨⟨_, rfl⟩, hw', hB.out.trans hb'⟩
      clear hcl hcell hin hc bel hWI hHW hB HI
      go_wp2_with (go_at_call 60; refine HD.out.mono ?_; rintro e w3 ⟨⟨u3, rfl⟩, hw3, hb3⟩; clear HD)
      go_roundw
      case rel => exact ⟨i + 1, by go_num, by omega, hw3, hb3⟩
      case measure => simp [intOf]; omega
    · have e : i = L := by omega
      subst e
      have HF : Hid (WAt (W.heap.size + 1) (wld l) wr) := by
        obtain ⟨vp, pv, hw⟩ := hHW.out
        rw [List.take_of_length_le (by rw [HL.out]; exact Nat.le_refl _)] at hw
        exact hw.wat
      clear hHW HI
      go_wp2
      exact bodyPost_ret (results_tmp rfl _ _ _) rfl ⟨⟨_, rfl, HF.out⟩, hB.out⟩

def strObj : ByteArray := ⟨#[79, 98, 106, 101, 99, 116]⟩
def strId : ByteArray := ⟨#[105, 100]⟩
def strD : ByteArray := ⟨#[40, 41, 73]⟩
theorem met3 : metR P3 0 false strObj strId strD = ((0, 1), 0) := by kernel_rfl
set_option maxRecDepth 100000 in
theorem awake11_c (W : World) : Calls Tryz.prog 46 #[] W fun e w' => e = .returned (.bool true) ∧ Below W.heap.size W w' := by
  have HN : Hid (∀ w : World, Calls Tryz.prog 66 #[] w fun e w' => ∃ b, e = .returned (.pointer (some ⟨b, 0, none⟩)) ∧ WAt b P3 w' ∧ Below w.heap.size w w') := fun w => (new_any w).mono fun e w' zz => ⟨_, zz.1, by obtain ⟨vp, pv, hw⟩ := zz.2.1; exact hw.wat, zz.2.2⟩
  have HM : Hid (∀ (w : World) (b : Nat), WAt b P3 w → Calls Tryz.prog 47 #[.pointer (some ⟨b, 0, none⟩), .int .i64 0, .agg #[.bool false, .string ⟨#[79, 98, 106, 101, 99, 116]⟩, .string ⟨#[105, 100]⟩, .string ⟨#[40, 41, 73]⟩]] w fun e w' => e = .returned (.tuple #[.agg #[.int .i64 0, .int .i64 1], .int .i64 0]) ∧ Below w.heap.size w w') := fun w b h => (met_c h wi3 0 false strObj strId strD (by decide) (by decide) (by decide)).mono fun e w' zz => ⟨by rw [zz.1, met3]; rfl, zz.2⟩
  have BB : Hid (Below W.heap.size W W) := Below.refl _ _
  go_enter Tryz.func46, Tryz.ntmps46
  go_wp2_with (first
    | (go_at_call 66; refine (HN.out _).mono ?_; rintro e w1 ⟨b, rfl, hw, hb⟩; have BB2 : Below W.heap.size W w1 := bstep (by repeat (first | exact BB.out | exact Below.refl _ _ | refine Below.setCell ?_ (by simp; try omega) _ | refine Below.alloc ?_ (by have := BB.out.size; simp; try omega) _ | refine Below.drew ?_)) hb; clear BB; have BB : Hid (Below W.heap.size W w1) := BB2; (try clear HH); have HH : Hid (WAt b P3 w1) := hw; clear hw hb BB2)
    | (go_at_call 47; refine (HM.out _ _ HH.out).mono ?_; rintro e w2 ⟨rfl, hb⟩; have BB2 := bstep BB.out hb; clear BB; have BB : Hid (Below W.heap.size W w2) := BB2; clear hb BB2 HM))
  exact bodyPost_ret (results_tmp rfl _ _ _) rfl ⟨rfl, (by repeat (first | exact BB.out | exact Below.refl _ _ | refine Below.setCell ?_ (by simp; try omega) _ | refine Below.alloc ?_ (by have := BB.out.size; simp; try omega) _ | refine Below.drew ?_))⟩


theorem sameID_c (a b : Int × Int) (w : World) : Calls Tryz.prog 33 #[.agg #[.int .i64 a.1, .int .i64 a.2], .agg #[.int .i64 b.1, .int .i64 b.2]] w fun e w' => e = .returned (.bool ((a.1 == b.1) && (a.2 == b.2))) ∧ Below w.heap.size w w' := by
  obtain ⟨a1, a2⟩ := a
  obtain ⟨b1, b2⟩ := b
  by_cases h1 : a1 = b1
  · by_cases h2 : a2 = b2
    · subst h1 h2
      go_enter Tryz.func33, Tryz.ntmps33
      go_wp2
      exact bodyPost_ret (results_tmp rfl _ _ _) rfl ⟨by simp, (by repeat (first | exact Below.refl _ _ | refine Below.setCell ?_ (by simp; try omega) _ | refine Below.alloc ?_ (by simp; try omega) _ | refine Below.drew ?_))⟩
    · subst h1
      go_enter Tryz.func33, Tryz.ntmps33
      go_wp2
      exact bodyPost_ret (results_tmp rfl _ _ _) rfl ⟨by simp, (by repeat (first | exact Below.refl _ _ | refine Below.setCell ?_ (by simp; try omega) _ | refine Below.alloc ?_ (by simp; try omega) _ | refine Below.drew ?_))⟩
  · go_enter Tryz.func33, Tryz.ntmps33
    go_wp2
    exact bodyPost_ret (results_tmp rfl _ _ _) rfl ⟨by simp [h1], (by repeat (first | exact Below.refl _ _ | refine Below.setCell ?_ (by simp; try omega) _ | refine Below.alloc ?_ (by simp; try omega) _ | refine Below.drew ?_))⟩




theorem wi_sp {ps : List Plc} (hW : WI ps) {k : Nat} {q : Plc} (hq : ps[k]? = some q) (hk : 0 < k) : ∃ p, ps[q.sp]? = some p := by
  have hkl := (List.getElem?_eq_some_iff.1 hq).1
  have h1 := (hW.wo.sp k (nd q) hk (nd_at' hq)).1
  have e : (nd q).sp = q.sp := rfl
  rw [e] at h1
  exact ⟨_, List.getElem?_eq_getElem (by omega)⟩


theorem fir_facts {m : Int × Int} : ∀ {l : List ((Int × Int) × Int)}, firR l = (m, 0) → (m, 0) ∈ l
  | [], h => by simp [firR] at h
  | x :: r, h => by
    rw [firR] at h
    split at h
    · rename_i h0
      have e1 : x.1 = m := by have := congrArg Prod.fst h; exact this
      have : x = (m, 0) := Prod.ext e1 h0
      simp [this]
    · exact List.mem_cons_of_mem _ (fir_facts h)
theorem fir_err : ∀ (l : List ((Int × Int) × Int)), (firR l).2 = 0 ∨ firR l = ((0, 0), 21)
  | [] => .inr rfl
  | x :: r => by
    rw [firR]
    split
    · exact .inl rfl
    · exact fir_err r
theorem one_mem {ps : List Plc} {l : List (Int × Int)} {m : Int × Int} (h : oneV ps l = (m, 0)) : m ∈ l := by
  unfold oneV at h
  split at h
  · simp at h
  · rename_i x e
    have : x = m := congrArg Prod.fst h
    subst this
    have : x ∈ oneL ps l := by rw [e]; simp
    exact max_mem (List.mem_filter.1 this).1
  · simp at h
theorem some_mem {l : List (Int × Int)} {m : Int × Int} (h : someV l = (m, 0)) : m ∈ l := by
  cases l with
  | nil => simp [someV] at h
  | cons x r => simp [someV] at h; simp [h]


theorem own_hit {ps : List Plc} {nm ds : ByteArray} {c : Int} (h : (fndI ps c nm ds).2 = 0) : ownR ps nm ds c = ((c, (fndI ps c nm ds).1), 0) := by
  rw [ownR, if_pos h]
theorem near_iface {ps : List Plc} {k : Nat} {q : Plc} (hq : ps[k]? = some q) (hf : ifcI ps (k : Int) = true) (nm ds : ByteArray) : lookR ps nm ds (k : Int) = ((0, 0), 23) ∧ ((fndI ps (k : Int) nm ds).2 = 0 → lifR ps nm ds (k : Int) = (((k : Int), (fndI ps (k : Int) nm ds).1), 0)) := by
  have h1 : plcI ps (k : Int) = some q := by rw [plcI_nat]; exact hq
  refine ⟨?_, fun h => ?_⟩
  · rw [lookR, h1]; simp only; rw [hf, if_pos rfl]
  · rw [lifR, h1]; simp only; rw [hf, if_pos rfl, firR, own_hit h, if_pos rfl]
theorem near_look {ps : List Plc} {k : Nat} {q : Plc} (hq : ps[k]? = some q) (hf : ifcI ps (k : Int) = false) (nm ds : ByteArray) : lookR ps nm ds (k : Int) = firR [upR ps nm ds (chL (ps.map nd) k), oneV ps (candL ps nm ds q.cl), someV (candL ps nm ds q.cl)] := by
  have h1 : plcI ps (k : Int) = some q := by rw [plcI_nat]; exact hq
  rw [lookR, h1]; simp only; rw [hf]; rfl
theorem near_hit {x : (Int × Int)} {o s : (Int × Int) × Int} : firR [(x, 0), o, s] = (x, 0) := by rw [firR, if_pos rfl]
theorem near_miss {o s : (Int × Int) × Int} : firR [((0, 0), 6), o, s] = firR [o, s] := by rw [firR, if_neg (by decide)]
/-- none of the chain has it: what is answered is an interface's, or nothing -/
theorem near_ends {ps : List Plc} (hW : WI ps) {k : Nat} {q : Plc} (hq : ps[k]? = some q) (nm ds : ByteArray) : firR [oneV ps (candL ps nm ds q.cl), someV (candL ps nm ds q.cl)] = ((0, 0), 21) ∨ ∃ m, firR [oneV ps (candL ps nm ds q.cl), someV (candL ps nm ds q.cl)] = (m, 0) ∧ ifcI ps m.1 = true := by
  rcases fir_err [oneV ps (candL ps nm ds q.cl), someV (candL ps nm ds q.cl)] with h | h
  · refine .inr ⟨_, Prod.ext rfl h, ?_⟩
    have hm := fir_facts (m := (firR [oneV ps (candL ps nm ds q.cl), someV (candL ps nm ds q.cl)]).1) (Prod.ext rfl h)
    simp only [List.mem_cons, List.not_mem_nil, or_false] at hm
    rcases hm with hm | hm
    · exact (cand_facts hW hq (one_mem hm.symm)).2.1
    · exact (cand_facts hW hq (some_mem hm.symm)).2.1
  · exact .inl h
theorem nd_at2 {ps : List Plc} {k : Nat} {q : Plc} (h : ps[k]? = some q) : (ps.map nd)[k]? = some (nd q) := by rw [List.getElem?_map, h]; rfl
/-- a class that adds no interface has what its superclass has -/
theorem near_super {ps : List Plc} (hW : WI ps) (hJ : WJ ps) {k : Nat} {q : Plc} (hq : ps[k]? = some q) (hk : 0 < k) (h0 : q.c.ni = 0) (nm ds : ByteArray) (hu : upR ps nm ds (chL (ps.map nd) k) = ((0, 0), 6)) : lookR ps nm ds (q.sp : Int) = firR [oneV ps (candL ps nm ds q.cl), someV (candL ps nm ds q.cl)] := by
  obtain ⟨p, hp⟩ := wi_sp hW hq hk
  have hkl := (List.getElem?_eq_some_iff.1 hq).1
  have hns := nd_at2 hq
  have hs : spO (ps.map nd) k = q.sp := by rw [spO, hns]; rfl
  have hf : ifcI ps (q.sp : Int) = false := by
    have := ((hW.wo.sp k (nd q) hk hns).2.1 (nd p) (nd_at2 hp)).1
    rw [ifcI, plcI_nat, hp]; exact this
  rw [near_look hp hf]
  have hcl : p.cl = q.cl := by rw [cl_same hW hJ hq h0, clO, nd_at2 hp]; rfl
  rw [hcl]
  rw [chL_cons hW.wo (by simpa using hkl) hk, hs, upR] at hu
  split at hu
  · exact absurd (congrArg Prod.snd hu) (by show ¬ (0 : Int) = 6; decide)
  · rw [hu, near_miss]


theorem cls_form4 {n : Nat} {q : Plc} {e : Ending} {w : World} (h : ClsR n (some q) e w) : ∃ nm su a1 c1 fl ld a2 n2 c2, e = .returned (.tuple #[.agg #[.string nm, .string su, .slice a1 q.c.ni c1, .int .i64 fl, .int .i64 ld, .slice a2 n2 c2], .int .i64 0]) := by
  obtain ⟨vi, vm, qm, rfl, hown, _⟩ := h
  obtain ⟨a1, c1, rfl⟩ := ownv hown.ifs
  obtain ⟨a2, c2, rfl⟩ := ownv hown.ms
  exact ⟨_, _, _, _, _, _, _, _, _, rfl⟩
set_option maxRecDepth 100000 in
theorem chain_none {b : Nat} {ps : List Plc} {W : World} (h : WAt b ps W) (c : Int) (hc : plcI ps c = none) : Calls Tryz.prog 61 #[.pointer (some ⟨b, 0, none⟩), .int .i64 c] W fun e w' => e = .returned (.tuple #[.slice none 0 0, .int .i64 3]) ∧ Below W.heap.size W w' := by
  have HX : Hid (Calls Tryz.prog 96 #[.pointer (some ⟨b, 0, none⟩), .int .i64 c] W fun e w' => e = .returned (.bool false) ∧ w' = W) := (has_c h c).mono fun e w' zz => ⟨by rw [zz.1, hc]; rfl, zz.2⟩
  clear h hc
  go_enter Tryz.func61, Tryz.ntmps61
  go_wp2_with (go_at_call 96; refine HX.out.mono ?_; rintro e w9 ⟨rfl, hw9⟩; rw [hw9]; clear hw9 w9)
  exact bodyPost_ret (results_tmp2 rfl _ _ _) rfl ⟨rfl, Below.refl _ _⟩
set_option maxRecDepth 100000 in
set_option maxHeartbeats 1000000 in
theorem near_law_none (v : Value) (l : List Cls) (ps : List Plc) (hps : ps = wld l) (c : Int) (nm ds : ByteArray) (W : World) (h : IsClss W v l) (hc : plcI ps c = none) : Calls Tryz.prog 12 #[v, .int .i64 c, .string nm, .string ds] W fun e w' => e = .returned (.bool true) ∧ Below W.heap.size W w' := by
  have hCW := clss_w h
  obtain ⟨hWI, hWJ⟩ : WI ps ∧ WJ ps := by rw [hps]; exact wld_wj l hCW
  have HA : Hid (∀ w : World, Calls Tryz.prog 46 #[] w fun e w' => e = .returned (.bool true) ∧ Below w.heap.size w w') := awake11_c
  have HB : Hid (∀ w : World, Below W.heap.size W w → Calls Tryz.prog 48 #[v] w fun e w' => (∃ b, e = .returned (.pointer (some ⟨b, 0, none⟩)) ∧ WAt b ps w') ∧ Below w.heap.size w w') := fun w hb => by rw [hps]; exact built11_c v l w (clss_keep h hb)
  have HL : Hid (∀ b w, WAt b ps w → Calls Tryz.prog 53 #[.pointer (some ⟨b, 0, none⟩), .int .i64 c, .string nm, .string ds] w fun e w' => e = .returned (.tuple #[.agg #[.int .i64 0, .int .i64 0], .int .i64 3]) ∧ Below w.heap.size w w') := fun b w hw => (look_c hw hWI c nm ds).mono fun e w' zz => ⟨by rw [zz.1, lookR, hc]; rfl, zz.2⟩
  have HC : Hid (∀ b w, WAt b ps w → Calls Tryz.prog 61 #[.pointer (some ⟨b, 0, none⟩), .int .i64 c] w fun e w' => e = .returned (.tuple #[.slice none 0 0, .int .i64 3]) ∧ Below w.heap.size w w') := fun b w hw => chain_none hw c hc
  clear h hCW hWI hWJ hps hc
  have BB : Hid (Below W.heap.size W W) := Below.refl _ _
  go_enter Tryz.func12, Tryz.ntmps12
  go_wp2_with (first
    | (go_at_call 46; refine (HA.out _).mono ?_; rintro e w1 ⟨rfl, hb⟩; have BB2 : Below W.heap.size W w1 := bstep ((by repeat (first | exact BB.out | exact Below.refl _ _ | refine Below.setCell ?_ (by simp; try omega) _ | refine Below.alloc ?_ (by have := BB.out.size; simp; try omega) _ | refine Below.drew ?_))) hb; clear BB; have BB : Hid (Below W.heap.size W w1) := BB2; clear hb BB2; clear HA)
    | (go_at_call 48; refine (HB.out _ BB.out).mono ?_; rintro e w2 ⟨⟨b, rfl, hw⟩, hb⟩; have HH : Hid (WAt b ps w2) := hw; have BB2 : Below W.heap.size W w2 := bstep (BB.out) hb; clear BB; have BB : Hid (Below W.heap.size W w2) := BB2; clear hb BB2; clear HB hw)
    | (go_at_call 53; refine (HL.out _ _ HH.out).mono ?_; rintro e w3 ⟨rfl, hb⟩; have HH2 := (HH.out).below hb; clear HH; have HH : Hid (WAt b ps w3) := HH2; have BB2 : Below W.heap.size W w3 := bstep (BB.out) hb; clear BB; have BB : Hid (Below W.heap.size W w3) := BB2; clear hb BB2 HH2; clear HL)
    | (go_at_call 61; refine (HC.out _ _ (HH.out.below ((Below.refl _ w3).alloc (Nat.le_refl _) _))).mono ?_; rintro e w4 ⟨rfl, hb⟩; have BB2 : Below W.heap.size W w4 := bstep (BB.out.alloc BB.out.size _) hb; clear BB; have BB : Hid (Below W.heap.size W w4) := BB2; clear hb BB2; clear HC))
  all_goals go_ret
  all_goals exact ⟨retB (by simp [*]), (by repeat (first | exact BB.out | exact Below.refl _ _ | refine Below.setCell ?_ (by simp; try omega) _ | refine Below.alloc ?_ (by have := BB.out.size; simp; try omega) _ | refine Below.drew ?_))⟩
set_option maxRecDepth 100000 in
set_option maxHeartbeats 1000000 in
theorem near_law_if (v : Value) (l : List Cls) (ps : List Plc) (hps : ps = wld l) (k : Nat) (q : Plc) (nm ds : ByteArray) (W : World) (h : IsClss W v l) (hq : ps[k]? = some q) (hf : ifcI ps (k : Int) = true) : Calls Tryz.prog 12 #[v, .int .i64 (k : Int), .string nm, .string ds] W fun e w' => e = .returned (.bool true) ∧ Below W.heap.size W w' := by
  have hCW := clss_w h
  obtain ⟨hWI, hWJ⟩ : WI ps ∧ WJ ps := by rw [hps]; exact wld_wj l hCW
  have HA : Hid (∀ w : World, Calls Tryz.prog 46 #[] w fun e w' => e = .returned (.bool true) ∧ Below w.heap.size w w') := awake11_c
  have HB : Hid (∀ w : World, Below W.heap.size W w → Calls Tryz.prog 48 #[v] w fun e w' => (∃ b, e = .returned (.pointer (some ⟨b, 0, none⟩)) ∧ WAt b ps w') ∧ Below w.heap.size w w') := fun w hb => by rw [hps]; exact built11_c v l w (clss_keep h hb)
  obtain ⟨e1, e2⟩ := near_iface hq hf nm ds
  have HL : Hid (∀ b w, WAt b ps w → Calls Tryz.prog 53 #[.pointer (some ⟨b, 0, none⟩), .int .i64 (k : Int), .string nm, .string ds] w fun e w' => e = .returned (.tuple #[.agg #[.int .i64 0, .int .i64 0], .int .i64 23]) ∧ Below w.heap.size w w') := fun b w hw => (look_c hw hWI k nm ds).mono fun e w' zz => ⟨by rw [zz.1, e1]; rfl, zz.2⟩
  have HC : Hid (∀ b w, WAt b ps w → Calls Tryz.prog 61 #[.pointer (some ⟨b, 0, none⟩), .int .i64 (k : Int)] w fun e w' => (∃ ac nc cc, e = .returned (.tuple #[.slice ac nc cc, .int .i64 0])) ∧ Below w.heap.size w w') := fun b w hw => by
    obtain ⟨N, mb, vp, pv, hw⟩ := hw
    refine (chain_yes N b mb ps vp pv k (List.getElem?_eq_some_iff.1 hq).1 hWI.wo hWI.hi w hw).mono ?_
    rintro e w' ⟨vv, rfl, ho, hb⟩
    obtain ⟨ac, cc, rfl⟩ := ownv ho
    exact ⟨⟨ac, _, cc, rfl⟩, hb⟩
  have HF : Hid (∀ b w, WAt b ps w → Calls Tryz.prog 58 #[.pointer (some ⟨b, 0, none⟩), .int .i64 (k : Int)] w fun e w' => e = .returned (.bool true) ∧ Below w.heap.size w w') := fun b w hw => (isIface_c hw k).mono fun e w' zz => ⟨by rw [zz.1, hf], zz.2⟩
  have HI : Hid (∀ b w, WAt b ps w → Calls Tryz.prog 55 #[.pointer (some ⟨b, 0, none⟩), .int .i64 (k : Int), .string nm, .string ds] w fun e w' => e = .returned (idE (lifR ps nm ds (k : Int))) ∧ Below w.heap.size w w') := fun b w hw => lif_c hw hWI k nm ds
  have HN : Hid (∀ b w, WAt b ps w → Calls Tryz.prog 62 #[.pointer (some ⟨b, 0, none⟩), .int .i64 (k : Int), .string nm, .string ds] w fun e w' => e = .returned (.tuple #[.int .i64 (fndI ps (k : Int) nm ds).1, .int .i64 (fndI ps (k : Int) nm ds).2]) ∧ Below w.heap.size w w') := fun b w hw => find_c hw hWI.pb k nm ds
  generalize lifR ps nm ds (k : Int) = L at *
  obtain ⟨⟨l1, l2⟩, l3⟩ := L
  generalize fndI ps (k : Int) nm ds = F at *
  obtain ⟨f1, f2⟩ := F
  simp only [idE, Prod.mk.injEq] at HI HN e2
  clear h hCW hWI hWJ hps hq hf e1
  by_cases h0 : f2 = 0
  · obtain ⟨⟨rfl, rfl⟩, rfl⟩ := e2 h0
    subst h0
    clear e2
    have BB : Hid (Below W.heap.size W W) := Below.refl _ _
    go_enter Tryz.func12, Tryz.ntmps12
    go_wp2_with (first
      | (go_at_call 46; refine (HA.out _).mono ?_; rintro e w1 ⟨rfl, hb⟩; have BB2 : Below W.heap.size W w1 := bstep ((by repeat (first | exact BB.out | exact Below.refl _ _ | refine Below.setCell ?_ (by simp; try omega) _ | refine Below.alloc ?_ (by have := BB.out.size; simp; try omega) _ | refine Below.drew ?_))) hb; clear BB; have BB : Hid (Below W.heap.size W w1) := BB2; clear hb BB2; clear HA)
      | (go_at_call 48; refine (HB.out _ BB.out).mono ?_; rintro e w2 ⟨⟨b, rfl, hw⟩, hb⟩; have HH : Hid (WAt b ps w2) := hw; have BB2 : Below W.heap.size W w2 := bstep (BB.out) hb; clear BB; have BB : Hid (Below W.heap.size W w2) := BB2; clear hb BB2; clear HB hw)
      | (go_at_call 53; refine (HL.out _ _ HH.out).mono ?_; rintro e w3 ⟨rfl, hb⟩; have HH2 := (HH.out).below hb; clear HH; have HH : Hid (WAt b ps w3) := HH2; have BB2 : Below W.heap.size W w3 := bstep (BB.out) hb; clear BB; have BB : Hid (Below W.heap.size W w3) := BB2; clear hb BB2 HH2; clear HL)
      | (go_at_call 61; refine (HC.out _ _ (HH.out.below ((Below.refl _ w3).alloc (Nat.le_refl _) _))).mono ?_; rintro e w4 ⟨⟨ac, nc, cc, rfl⟩, hb⟩; have HH2 := (HH.out.below ((Below.refl _ w3).alloc (Nat.le_refl _) _)).below hb; clear HH; have HH : Hid (WAt b ps w4) := HH2; have BB2 : Below W.heap.size W w4 := bstep (BB.out.alloc BB.out.size _) hb; clear BB; have BB : Hid (Below W.heap.size W w4) := BB2; clear hb BB2 HH2; clear HC)
      | (go_at_call 58; refine (HF.out _ _ HH.out).mono ?_; rintro e w5 ⟨rfl, hb⟩; have HH2 := (HH.out).below hb; clear HH; have HH : Hid (WAt b ps w5) := HH2; have BB2 : Below W.heap.size W w5 := bstep (BB.out) hb; clear BB; have BB : Hid (Below W.heap.size W w5) := BB2; clear hb BB2 HH2; clear HF)
      | (go_at_call 55; refine (HI.out _ _ HH.out).mono ?_; rintro e w6 ⟨rfl, hb⟩; have HH2 := (HH.out).below hb; clear HH; have HH : Hid (WAt b ps w6) := HH2; have BB2 : Below W.heap.size W w6 := bstep (BB.out) hb; clear BB; have BB : Hid (Below W.heap.size W w6) := BB2; clear hb BB2 HH2; clear HI)
      | (go_at_call 62; refine (HN.out _ _ (HH.out.below ((Below.refl _ w6).alloc (Nat.le_refl _) _))).mono ?_; rintro e w7 ⟨rfl, hb⟩; have nnd : w7.heap[w6.heap.size]? = some (.cells #[.int .i64 (k : Int), .int .i64 l2] 38 (0, 0)) := (hb.block (w6.heap.size) (by first | omega | (simp; try omega))).trans (by first | exact nnB.out | exact hkeep nnB.out | exact hkeep (hkeep nnB.out) | exact halloc2 _ _ rfl | exact heap_alloc2_old _ _ _ | exact heap_alloc2_new _ _ _ | exact hkeep (halloc2 _ _ rfl) | exact hkeep (hkeep (halloc2 _ _ rfl)) | exact halloc2 _ _ (by simp; done)); (try clear nnB nnL nnN nn0 nn1 nnf0 nnf1); have nnB : Hid (w7.heap[w6.heap.size]? = some (.cells #[.int .i64 (k : Int), .int .i64 l2] 38 (0, 0))) := nnd; have nn0 : w7.cell? ⟨w6.heap.size, 0, none⟩ = some (.int .i64 (k : Int)) := (cell_of_row w7 (w6.heap.size) 0 _ _ _ nnd).trans rfl; have nnf0 := frozen_of_row w7 (w6.heap.size) 0 _ _ nnd; have nn1 : w7.cell? ⟨w6.heap.size, 1, none⟩ = some (.int .i64 l2) := (cell_of_row w7 (w6.heap.size) 1 _ _ _ nnd).trans rfl; have nnf1 := frozen_of_row w7 (w6.heap.size) 1 _ _ nnd; have nnL : w6.heap.size < w7.heap.size := (Array.getElem?_eq_some_iff.1 nnd).1; have nnN : ¬ w6.heap.size = w7.heap.size := (by omega); clear nnd; have BB2 : Below W.heap.size W w7 := bstep (BB.out.alloc BB.out.size _) hb; clear BB; have BB : Hid (Below W.heap.size W w7) := BB2; clear hb BB2; clear HN))
    all_goals go_ret
    all_goals exact ⟨retB (by simp [*]), (by repeat (first | exact BB.out | exact Below.refl _ _ | refine Below.setCell ?_ (by simp; try omega) _ | refine Below.alloc ?_ (by have := BB.out.size; simp; try omega) _ | refine Below.drew ?_))⟩
  · clear e2
    have BB : Hid (Below W.heap.size W W) := Below.refl _ _
    go_enter Tryz.func12, Tryz.ntmps12
    go_wp2_with (first
      | (go_at_call 46; refine (HA.out _).mono ?_; rintro e w1 ⟨rfl, hb⟩; have BB2 : Below W.heap.size W w1 := bstep ((by repeat (first | exact BB.out | exact Below.refl _ _ | refine Below.setCell ?_ (by simp; try omega) _ | refine Below.alloc ?_ (by have := BB.out.size; simp; try omega) _ | refine Below.drew ?_))) hb; clear BB; have BB : Hid (Below W.heap.size W w1) := BB2; clear hb BB2; clear HA)
      | (go_at_call 48; refine (HB.out _ BB.out).mono ?_; rintro e w2 ⟨⟨b, rfl, hw⟩, hb⟩; have HH : Hid (WAt b ps w2) := hw; have BB2 : Below W.heap.size W w2 := bstep (BB.out) hb; clear BB; have BB : Hid (Below W.heap.size W w2) := BB2; clear hb BB2; clear HB hw)
      | (go_at_call 53; refine (HL.out _ _ HH.out).mono ?_; rintro e w3 ⟨rfl, hb⟩; have HH2 := (HH.out).below hb; clear HH; have HH : Hid (WAt b ps w3) := HH2; have BB2 : Below W.heap.size W w3 := bstep (BB.out) hb; clear BB; have BB : Hid (Below W.heap.size W w3) := BB2; clear hb BB2 HH2; clear HL)
      | (go_at_call 61; refine (HC.out _ _ (HH.out.below ((Below.refl _ w3).alloc (Nat.le_refl _) _))).mono ?_; rintro e w4 ⟨⟨ac, nc, cc, rfl⟩, hb⟩; have HH2 := (HH.out.below ((Below.refl _ w3).alloc (Nat.le_refl _) _)).below hb; clear HH; have HH : Hid (WAt b ps w4) := HH2; have BB2 : Below W.heap.size W w4 := bstep (BB.out.alloc BB.out.size _) hb; clear BB; have BB : Hid (Below W.heap.size W w4) := BB2; clear hb BB2 HH2; clear HC)
      | (go_at_call 58; refine (HF.out _ _ HH.out).mono ?_; rintro e w5 ⟨rfl, hb⟩; have HH2 := (HH.out).below hb; clear HH; have HH : Hid (WAt b ps w5) := HH2; have BB2 : Below W.heap.size W w5 := bstep (BB.out) hb; clear BB; have BB : Hid (Below W.heap.size W w5) := BB2; clear hb BB2 HH2; clear HF)
      | (go_at_call 55; refine (HI.out _ _ HH.out).mono ?_; rintro e w6 ⟨rfl, hb⟩; have HH2 := (HH.out).below hb; clear HH; have HH : Hid (WAt b ps w6) := HH2; have BB2 : Below W.heap.size W w6 := bstep (BB.out) hb; clear BB; have BB : Hid (Below W.heap.size W w6) := BB2; clear hb BB2 HH2; clear HI)
      | (go_at_call 62; refine (HN.out _ _ (HH.out.below ((Below.refl _ w6).alloc (Nat.le_refl _) _))).mono ?_; rintro e w7 ⟨rfl, hb⟩; have nnd : w7.heap[w6.heap.size]? = some (.cells #[.int .i64 l1, .int .i64 l2] 38 (0, 0)) := (hb.block (w6.heap.size) (by first | omega | (simp; try omega))).trans (by first | exact nnB.out | exact hkeep nnB.out | exact hkeep (hkeep nnB.out) | exact halloc2 _ _ rfl | exact heap_alloc2_old _ _ _ | exact heap_alloc2_new _ _ _ | exact hkeep (halloc2 _ _ rfl) | exact hkeep (hkeep (halloc2 _ _ rfl)) | exact halloc2 _ _ (by simp; done)); (try clear nnB nnL nnN nn0 nn1 nnf0 nnf1); have nnB : Hid (w7.heap[w6.heap.size]? = some (.cells #[.int .i64 l1, .int .i64 l2] 38 (0, 0))) := nnd; have nn0 : w7.cell? ⟨w6.heap.size, 0, none⟩ = some (.int .i64 l1) := (cell_of_row w7 (w6.heap.size) 0 _ _ _ nnd).trans rfl; have nnf0 := frozen_of_row w7 (w6.heap.size) 0 _ _ nnd; have nn1 : w7.cell? ⟨w6.heap.size, 1, none⟩ = some (.int .i64 l2) := (cell_of_row w7 (w6.heap.size) 1 _ _ _ nnd).trans rfl; have nnf1 := frozen_of_row w7 (w6.heap.size) 1 _ _ nnd; have nnL : w6.heap.size < w7.heap.size := (Array.getElem?_eq_some_iff.1 nnd).1; have nnN : ¬ w6.heap.size = w7.heap.size := (by omega); clear nnd; have BB2 : Below W.heap.size W w7 := bstep (BB.out.alloc BB.out.size _) hb; clear BB; have BB : Hid (Below W.heap.size W w7) := BB2; clear hb BB2; clear HN))
    all_goals go_ret
    all_goals exact ⟨retB (by simp [*]), (by repeat (first | exact BB.out | exact Below.refl _ _ | refine Below.setCell ?_ (by simp; try omega) _ | refine Below.alloc ?_ (by have := BB.out.size; simp; try omega) _ | refine Below.drew ?_))⟩
set_option maxRecDepth 100000 in
set_option maxHeartbeats 4000000 in
theorem near_law_cls (v : Value) (l : List Cls) (ps : List Plc) (hps : ps = wld l) (k : Nat) (q : Plc) (nm ds : ByteArray) (W : World) (h : IsClss W v l) (hq : ps[k]? = some q) (hf : ifcI ps (k : Int) = false) : Calls Tryz.prog 12 #[v, .int .i64 (k : Int), .string nm, .string ds] W fun e w' => e = .returned (.bool true) ∧ Below W.heap.size W w' := by
  have hCW := clss_w h
  obtain ⟨hWI, hWJ⟩ : WI ps ∧ WJ ps := by rw [hps]; exact wld_wj l hCW
  have HA : Hid (∀ w : World, Calls Tryz.prog 46 #[] w fun e w' => e = .returned (.bool true) ∧ Below w.heap.size w w') := awake11_c
  have HB : Hid (∀ w : World, Below W.heap.size W w → Calls Tryz.prog 48 #[v] w fun e w' => (∃ b, e = .returned (.pointer (some ⟨b, 0, none⟩)) ∧ WAt b ps w') ∧ Below w.heap.size w w') := fun w hb => by rw [hps]; exact built11_c v l w (clss_keep h hb)
  have hKb := chL_len hWI (List.getElem?_eq_some_iff.1 hq).1
  have HL : Hid (∀ b w, WAt b ps w → Calls Tryz.prog 53 #[.pointer (some ⟨b, 0, none⟩), .int .i64 (k : Int), .string nm, .string ds] w fun e w' => e = .returned (idE (lookR ps nm ds (k : Int))) ∧ Below w.heap.size w w') := fun b w hw => look_c hw hWI k nm ds
  have HC : Hid (∀ b w, WAt b ps w → Calls Tryz.prog 61 #[.pointer (some ⟨b, 0, none⟩), .int .i64 (k : Int)] w fun e w' => ∃ v, e = .returned (.tuple #[v, .int .i64 0]) ∧ w'.ownsRow w.heap.size 3 1 v (chL (ps.map nd) k).length ((chL (ps.map nd) k).map numV) ∧ Below w.heap.size w w') := fun b w hw => by
    obtain ⟨N, mb, vp, pv, hw⟩ := hw
    exact chain_yes N b mb ps vp pv k (List.getElem?_eq_some_iff.1 hq).1 hWI.wo hWI.hi w hw
  have HF : Hid (∀ b w (i : Int), WAt b ps w → i = (k : Int) → Calls Tryz.prog 58 #[.pointer (some ⟨b, 0, none⟩), .int .i64 i] w fun e w' => e = .returned (.bool false) ∧ Below w.heap.size w w') := fun b w i hw hi => by rw [hi]; exact (isIface_c hw k).mono fun e w' zz => ⟨by rw [zz.1, hf], zz.2⟩
  have HN : Hid (∀ (i : Nat) b w, WAt b ps w → Calls Tryz.prog 62 #[.pointer (some ⟨b, 0, none⟩), .int .i64 (i : Int), .string nm, .string ds] w fun e w' => e = .returned (.tuple #[.int .i64 (fndI ps (i : Int) nm ds).1, .int .i64 (fndI ps (i : Int) nm ds).2]) ∧ Below w.heap.size w w') := fun i b w hw => find_c hw hWI.pb i nm ds
  have HK : Hid (∀ b w, WAt b ps w → Calls Tryz.prog 63 #[.pointer (some ⟨b, 0, none⟩), .int .i64 (k : Int)] w fun e w' => (∃ nm su a1 c1 fl ld a2 n2 c2, e = .returned (.tuple #[.agg #[.string nm, .string su, .slice a1 q.c.ni c1, .int .i64 fl, .int .i64 ld, .slice a2 n2 c2], .int .i64 0])) ∧ Below w.heap.size w w') := fun b w hw => by
    have := class_c hw hWI.pb (k : Int)
    rw [plcI_nat, hq] at this
    exact this.mono fun e w' zz => ⟨cls_form4 zz.1, zz.2⟩
  have HS : Hid (∀ b w, WAt b ps w → Calls Tryz.prog 64 #[.pointer (some ⟨b, 0, none⟩), .int .i64 (k : Int)] w fun e w' => e = .returned (if k = 0 then .tuple #[.int .i64 0, .int .i64 6] else .tuple #[.int .i64 (q.sp : Int), .int .i64 0]) ∧ w' = w) := fun b w hw => by
    obtain ⟨N, mb, vp, pv, hw⟩ := hw
    exact super_yes N b mb ps vp pv k q w hw hq
  have HL2 : Hid (0 < k → q.c.ni = 0 → upR ps nm ds (chL (ps.map nd) k) = ((0, 0), 6) → ∀ b w (i : Int), WAt b ps w → i = (q.sp : Int) → Calls Tryz.prog 53 #[.pointer (some ⟨b, 0, none⟩), .int .i64 i, .string nm, .string ds] w fun e w' => e = .returned (idE (firR [oneV ps (candL ps nm ds q.cl), someV (candL ps nm ds q.cl)])) ∧ Below w.heap.size w w') := fun hk h0 hu b w i hw hi => by
    rw [hi]
    exact (look_c hw hWI (q.sp : Int) nm ds).mono fun e w' zz => ⟨by rw [zz.1, near_super hWI hWJ hq hk h0 nm ds hu], zz.2⟩
  have HG : Hid (∀ b w (i : Int), WAt b ps w → ifcI ps i = true → Calls Tryz.prog 58 #[.pointer (some ⟨b, 0, none⟩), .int .i64 i] w fun e w' => e = .returned (.bool true) ∧ Below w.heap.size w w') := fun b w i hw hi => (isIface_c hw i).mono fun e w' zz => ⟨by rw [zz.1, hi], zz.2⟩
  have HSM : Hid (∀ (a b : Int) (w : World), Calls Tryz.prog 33 #[.agg #[.int .i64 a, .int .i64 b], .agg #[.int .i64 a, .int .i64 b]] w fun e w' => e = .returned (.bool true) ∧ Below w.heap.size w w') := fun a b w => (sameID_c (a, b) (a, b) w).mono fun e w' zz => ⟨by rw [zz.1]; simp, zz.2⟩
  have HE := near_ends hWI hq nm ds
  have HLE : Hid (lookR ps nm ds (k : Int) = firR [upR ps nm ds (chL (ps.map nd) k), oneV ps (candL ps nm ds q.cl), someV (candL ps nm ds q.cl)]) := near_look hq hf nm ds
  have HMS : Hid (∀ s : (Int × Int) × Int, s = s) := fun _ => rfl
  generalize oneV ps (candL ps nm ds q.cl) = oV at *
  generalize someV (candL ps nm ds q.cl) = sV at *
  generalize chL (ps.map nd) k = lc at *
  generalize hRR : lookR ps nm ds (k : Int) = RR at *
  obtain ⟨⟨R1, R2⟩, R3⟩ := RR
  obtain ⟨U, hU0⟩ : ∃ U, upR ps nm ds lc = U := ⟨_, rfl⟩
  have HU0 : Hid (upR ps nm ds (lc.drop 0) = U) := hU0
  have HU1 : Hid (upR ps nm ds lc = U) := hU0
  obtain ⟨K, hK⟩ : ∃ K, lc.length = K := ⟨_, rfl⟩
  have HKK : Hid (lc.length = K) := hK
  have HEN : Hid (firR [oV, sV] = ((0, 0), 21) ∨ ∃ m, firR [oV, sV] = (m, 0) ∧ ifcI ps m.1 = true) := HE
  rw [hK] at hKb HC
  simp only [idE] at HL
  generalize q.c.ni = ni at *
  generalize q.sp = sp at *
  clear h hCW hWI hWJ hps hq hf hRR hU0 hK HE HMS
  have BB : Hid (Below W.heap.size W W) := Below.refl _ _
  go_enter Tryz.func12, Tryz.ntmps12
  go_wp2_with (first
    | (go_at_call 46; refine (HA.out _).mono ?_; rintro e w1 ⟨rfl, hb⟩; have BB2 : Below W.heap.size W w1 := bstep ((by repeat (first | exact BB.out | exact Below.refl _ _ | refine Below.setCell ?_ (by simp; try omega) _ | refine Below.alloc ?_ (by have := BB.out.size; simp; try omega) _ | refine Below.drew ?_))) hb; clear BB; have BB : Hid (Below W.heap.size W w1) := BB2; clear hb BB2; clear HA)
    | (go_at_call 48; refine (HB.out _ BB.out).mono ?_; rintro e w2 ⟨⟨b, rfl, hw⟩, hb⟩; have HH : Hid (WAt b ps w2) := hw; have BB2 : Below W.heap.size W w2 := bstep (BB.out) hb; clear BB; have BB : Hid (Below W.heap.size W w2) := BB2; clear hb BB2; clear HB hw)
    | (go_at_call 53; refine (HL.out _ _ HH.out).mono ?_; rintro e w3 ⟨rfl, hb⟩; have HH2 := (HH.out).below hb; clear HH; have HH : Hid (WAt b ps w3) := HH2; have BB2 : Below W.heap.size W w3 := bstep (BB.out) hb; clear BB; have BB : Hid (Below W.heap.size W w3) := BB2; clear hb BB2 HH2; clear HL)
    | (go_at_call 61; refine (HC.out _ _ (HH.out.below ((Below.refl _ w3).alloc (Nat.le_refl _) _))).mono ?_; rintro e w4 ⟨vv, rfl, ho, hb⟩; obtain ⟨ca, cc, rfl⟩ := ownv ho; have O4 : Hid (w4.ownsRow w3.heap.size 3 1 (.slice ca K cc) K (lc.map numV)) := Go.Joins.ownsRow_le ho (by simp); have mmd : w4.heap[w3.heap.size]? = some (.cells #[.int .i64 R1, .int .i64 R2] 38 (0, 0)) := (hb.block (w3.heap.size) (by first | omega | (simp; try omega))).trans (by first | exact mmB.out | exact hkeep mmB.out | exact hkeep (hkeep mmB.out) | exact halloc2 _ _ rfl | exact heap_alloc2_old _ _ _ | exact heap_alloc2_new _ _ _ | exact hkeep (halloc2 _ _ rfl) | exact hkeep (hkeep (halloc2 _ _ rfl)) | exact halloc2 _ _ (by simp; done)); (try clear mmB mmL mmN mm0 mm1 mmf0 mmf1); have mmB : Hid (w4.heap[w3.heap.size]? = some (.cells #[.int .i64 R1, .int .i64 R2] 38 (0, 0))) := mmd; have mm0 : w4.cell? ⟨w3.heap.size, 0, none⟩ = some (.int .i64 R1) := (cell_of_row w4 (w3.heap.size) 0 _ _ _ mmd).trans rfl; have mmf0 := frozen_of_row w4 (w3.heap.size) 0 _ _ mmd; have mm1 : w4.cell? ⟨w3.heap.size, 1, none⟩ = some (.int .i64 R2) := (cell_of_row w4 (w3.heap.size) 1 _ _ _ mmd).trans rfl; have mmf1 := frozen_of_row w4 (w3.heap.size) 1 _ _ mmd; have mmL : w3.heap.size < w4.heap.size := (Array.getElem?_eq_some_iff.1 mmd).1; have mmN : ¬ w3.heap.size = w4.heap.size := (by omega); clear mmd; have HH2 := (HH.out.below ((Below.refl _ w3).alloc (Nat.le_refl _) _)).below hb; clear HH; have HH : Hid (WAt b ps w4) := HH2; have BB2 : Below W.heap.size W w4 := bstep (BB.out.alloc BB.out.size _) hb; clear BB; have BB : Hid (Below W.heap.size W w4) := BB2; clear hb BB2 HH2; clear HC ho)
    | (go_at_call 58; refine (HF.out _ _ _ HH.out (by rfl)).mono ?_; rintro e w5 ⟨rfl, hb⟩; have O5 : Hid (w5.ownsRow w3.heap.size 3 1 (.slice ca K cc) K (lc.map numV)) := rowBelow O4.out hb; have mmd : w5.heap[w3.heap.size]? = some (.cells #[.int .i64 R1, .int .i64 R2] 38 (0, 0)) := (hb.block (w3.heap.size) (by first | omega | (simp; try omega))).trans (by first | exact mmB.out | exact hkeep mmB.out | exact hkeep (hkeep mmB.out) | exact halloc2 _ _ rfl | exact heap_alloc2_old _ _ _ | exact heap_alloc2_new _ _ _ | exact hkeep (halloc2 _ _ rfl) | exact hkeep (hkeep (halloc2 _ _ rfl)) | exact halloc2 _ _ (by simp; done)); (try clear mmB mmL mmN mm0 mm1 mmf0 mmf1); have mmB : Hid (w5.heap[w3.heap.size]? = some (.cells #[.int .i64 R1, .int .i64 R2] 38 (0, 0))) := mmd; have mm0 : w5.cell? ⟨w3.heap.size, 0, none⟩ = some (.int .i64 R1) := (cell_of_row w5 (w3.heap.size) 0 _ _ _ mmd).trans rfl; have mmf0 := frozen_of_row w5 (w3.heap.size) 0 _ _ mmd; have mm1 : w5.cell? ⟨w3.heap.size, 1, none⟩ = some (.int .i64 R2) := (cell_of_row w5 (w3.heap.size) 1 _ _ _ mmd).trans rfl; have mmf1 := frozen_of_row w5 (w3.heap.size) 1 _ _ mmd; have mmL : w3.heap.size < w5.heap.size := (Array.getElem?_eq_some_iff.1 mmd).1; have mmN : ¬ w3.heap.size = w5.heap.size := (by omega); clear mmd; have HH2 := (HH.out).below hb; clear HH; have HH : Hid (WAt b ps w5) := HH2; have BB2 : Below W.heap.size W w5 := bstep (BB.out) hb; clear BB; have BB : Hid (Below W.heap.size W w5) := BB2; clear hb BB2 HH2; clear HF O4))
  go_loopw [18] (fun kv wr => ∃ (j : Nat), kv = .int .i64 j ∧ j ≤ K ∧ Hid (upR ps nm ds (lc.drop j) = U) ∧ Hid (Below w5.heap.size w5 wr)) (fun kv _ => K - (intOf kv).toNat)
  case atStart => exact ⟨0, rfl, Nat.zero_le _, HU0, Below.refl _ _⟩
  case round =>
    obtain ⟨j, rfl, hj, hU, hB⟩ := hrel
    have hb := hB.out
    have HH2 : Hid (WAt b ps wr) := HH.out.below hb
    have BB2 : Hid (Below W.heap.size W wr) := bstep BB.out hb
    have mmd : wr.heap[w3.heap.size]? = some (.cells #[.int .i64 R1, .int .i64 R2] 38 (0, 0)) := (hb.block (w3.heap.size) (by first | omega | (simp; try omega))).trans (by first | exact mmB.out | exact hkeep mmB.out | exact hkeep (hkeep mmB.out) | exact halloc2 _ _ rfl | exact heap_alloc2_old _ _ _ | exact heap_alloc2_new _ _ _ | exact hkeep (halloc2 _ _ rfl) | exact hkeep (hkeep (halloc2 _ _ rfl)) | exact halloc2 _ _ (by simp; done)); (try clear mmB mmL mmN mm0 mm1 mmf0 mmf1); have mmB : Hid (wr.heap[w3.heap.size]? = some (.cells #[.int .i64 R1, .int .i64 R2] 38 (0, 0))) := mmd; have mm0 : wr.cell? ⟨w3.heap.size, 0, none⟩ = some (.int .i64 R1) := (cell_of_row wr (w3.heap.size) 0 _ _ _ mmd).trans rfl; have mmf0 := frozen_of_row wr (w3.heap.size) 0 _ _ mmd; have mm1 : wr.cell? ⟨w3.heap.size, 1, none⟩ = some (.int .i64 R2) := (cell_of_row wr (w3.heap.size) 1 _ _ _ mmd).trans rfl; have mmf1 := frozen_of_row wr (w3.heap.size) 1 _ _ mmd; have mmL : w3.heap.size < wr.heap.size := (Array.getElem?_eq_some_iff.1 mmd).1; have mmN : ¬ w3.heap.size = wr.heap.size := (by omega); clear mmd
    clear hb
    by_cases hlt : j < K
    · have hjl : j < lc.length := by rw [HKK.out]; exact hlt
      obtain ⟨i, hi⟩ : ∃ i, lc[j]? = some i := ⟨_, List.getElem?_eq_getElem hjl⟩
      obtain ⟨g, c2, hform⟩ := Go.Joins.ownsRow_form O5.out (by omega)
      have hce : w5.cell? ⟨g, j, none⟩ = some (.int .i64 (i : Int)) := by
        have hrow := O5.out
        rw [hform] at hrow
        rw [hrow.cellAt j (by omega), List.getElem?_map, hi]; rfl
      injection hform with hca _ hcc
      subst hca hcc
      have hgl : g < w5.heap.size := World.block_lt_of_cell? w5 _ hce
      have hcr := (hB.out.cell (p := ⟨g, j, none⟩) hgl).trans hce
      have hgr : g < wr.heap.size := Nat.lt_of_lt_of_le hgl hB.out.size
      have HF1 := HN.out i _ _ HH2.out
      have hst := upR_at (ps := ps) (nm := nm) (ds := ds) hi
      rw [hU.out] at hst
      have HO : Hid (ownR ps nm ds (i : Int) = if (fndI ps (i : Int) nm ds).2 = 0 then (((i : Int), (fndI ps (i : Int) nm ds).1), 0) else ((0, 0), (fndI ps (i : Int) nm ds).2)) := rfl
      have HST : Hid (U = if (ownR ps nm ds (i : Int)).2 = 0 then ((ownR ps nm ds (i : Int)).1, 0) else upR ps nm ds (lc.drop (j + 1))) := hst
      generalize ownR ps nm ds (i : Int) = OW at *
      generalize fndI ps (i : Int) nm ds = F at *
      obtain ⟨F1, F2⟩ := F
      simp only at HF1 HO
      have HFF : Hid (Calls Tryz.prog 62 #[.pointer (some ⟨b, 0, none⟩), .int .i64 (i : Int), .string nm, .string ds] wr fun e w' => e = .returned (.tuple #[.int .i64 F1, .int .i64 F2]) ∧ Below wr.heap.size wr w') := HF1
      clear hce hi hjl hst HF1 HN HK HS HL2 HG HSM HEN hU
      by_cases hF : F2 = 0
      · subst hF
        have eU : U = (((i : Int), F1), 0) := by rw [HST.out, HO.out, if_pos rfl, if_pos rfl]
        have eR : ((R1, R2), R3) = (((i : Int), F1), 0) := by rw [HLE.out, HU1.out, eU, near_hit]
        simp only [Prod.mk.injEq] at eR
        obtain ⟨⟨e1, e2⟩, e3⟩ := eR
        subst e1 e2 e3
        clear HST HO eU HLE HU0 HU1
        go_wp2_with (first
          | (go_at_call 62; refine HFF.out.mono ?_; rintro e w6 ⟨rfl, hb⟩; have mmd : w6.heap[w3.heap.size]? = some (.cells #[.int .i64 (i : Int), .int .i64 R2] 38 (0, 0)) := (hb.block (w3.heap.size) (by first | omega | (simp; try omega))).trans (by first | exact mmB.out | exact hkeep mmB.out | exact hkeep (hkeep mmB.out) | exact halloc2 _ _ rfl | exact heap_alloc2_old _ _ _ | exact heap_alloc2_new _ _ _ | exact hkeep (halloc2 _ _ rfl) | exact hkeep (hkeep (halloc2 _ _ rfl)) | exact halloc2 _ _ (by simp; done)); (try clear mmB mmL mmN mm0 mm1 mmf0 mmf1); have mmB : Hid (w6.heap[w3.heap.size]? = some (.cells #[.int .i64 (i : Int), .int .i64 R2] 38 (0, 0))) := mmd; have mm0 : w6.cell? ⟨w3.heap.size, 0, none⟩ = some (.int .i64 (i : Int)) := (cell_of_row w6 (w3.heap.size) 0 _ _ _ mmd).trans rfl; have mmf0 := frozen_of_row w6 (w3.heap.size) 0 _ _ mmd; have mm1 : w6.cell? ⟨w3.heap.size, 1, none⟩ = some (.int .i64 R2) := (cell_of_row w6 (w3.heap.size) 1 _ _ _ mmd).trans rfl; have mmf1 := frozen_of_row w6 (w3.heap.size) 1 _ _ mmd; have mmL : w3.heap.size < w6.heap.size := (Array.getElem?_eq_some_iff.1 mmd).1; have mmN : ¬ w3.heap.size = w6.heap.size := (by omega); clear mmd; replace hcr := (hb.cell (p := ⟨g, j, none⟩) hgr).trans hcr; have B6 : Hid (Below W.heap.size W w6) := bstep BB2.out hb; clear hb HFF))
        go_region
        go_wp2
        all_goals go_ret
        all_goals exact ⟨retB (by simp [*]), B6.out.drew⟩
      · have HU2 : Hid (upR ps nm ds (lc.drop (j + 1)) = U) := by
          rw [Hid, HST.out, HO.out, if_neg hF, if_neg hF]
        clear HST HO
        go_wp2_with (first
          | (go_at_call 62; refine HFF.out.mono ?_; rintro e w6 ⟨rfl, hb⟩; have B6 : Hid (Below w5.heap.size w5 w6) := bstep hB.out hb; clear hb HFF))
        go_roundw
        case rel => exact ⟨j + 1, by go_num, by omega, HU2, B6⟩
        case measure => simp [intOf]; omega
    · have e : j = K := by omega
      subst e
      have eU : U = ((0, 0), 6) := by rw [← hU.out, List.drop_of_length_le (by rw [HKK.out]; exact Nat.le_refl _)]; rfl
      subst eU
      have eR : ((R1, R2), R3) = firR [oV, sV] := by rw [HLE.out, HU1.out, near_miss]
      replace HL2 : Hid (0 < k → ni = 0 → ∀ b w (i : Int), WAt b ps w → i = (sp : Int) → Calls Tryz.prog 53 #[.pointer (some ⟨b, 0, none⟩), .int .i64 i, .string nm, .string ds] w fun e w' => e = .returned (.tuple #[.agg #[.int .i64 R1, .int .i64 R2], .int .i64 R3]) ∧ Below w.heap.size w w') := fun h1 h2 b w i hw hi => (HL2.out h1 h2 HU1.out b w i hw hi).mono fun e w' zz => ⟨by rw [zz.1, ← eR]; rfl, zz.2⟩
      have hEN := HEN.out
      rw [← eR] at hEN
      clear HEN HLE HU0 HU1 hU eR HN HH BB
      have HH := HH2
      have BB := BB2
      clear HH2 BB2 hB
      by_cases hk : k = 0
      · rw [if_pos hk] at HS
        clear HL2 HSM hk
        rcases hEN with hEN | ⟨⟨x1, x2⟩, hEN, hEI0⟩
        · simp only [Prod.mk.injEq] at hEN
          obtain ⟨⟨rfl, rfl⟩, rfl⟩ := hEN
          go_wp2_with (first
            | (go_at_call 63; refine (HK.out _ _ HH.out).mono ?_; rintro e w6 ⟨⟨n9, s9, a1, c1, f9, l9, a2, n2, c2, rfl⟩, hb⟩; have mmd : w6.heap[w3.heap.size]? = some (.cells #[.int .i64 0, .int .i64 0] 38 (0, 0)) := (hb.block (w3.heap.size) (by first | omega | (simp; try omega))).trans (by first | exact mmB.out | exact hkeep mmB.out | exact hkeep (hkeep mmB.out) | exact halloc2 _ _ rfl | exact heap_alloc2_old _ _ _ | exact heap_alloc2_new _ _ _ | exact hkeep (halloc2 _ _ rfl) | exact hkeep (hkeep (halloc2 _ _ rfl)) | exact halloc2 _ _ (by simp; done)); (try clear mmB mmL mmN mm0 mm1 mmf0 mmf1); have mmB : Hid (w6.heap[w3.heap.size]? = some (.cells #[.int .i64 0, .int .i64 0] 38 (0, 0))) := mmd; have mm0 : w6.cell? ⟨w3.heap.size, 0, none⟩ = some (.int .i64 0) := (cell_of_row w6 (w3.heap.size) 0 _ _ _ mmd).trans rfl; have mmf0 := frozen_of_row w6 (w3.heap.size) 0 _ _ mmd; have mm1 : w6.cell? ⟨w3.heap.size, 1, none⟩ = some (.int .i64 0) := (cell_of_row w6 (w3.heap.size) 1 _ _ _ mmd).trans rfl; have mmf1 := frozen_of_row w6 (w3.heap.size) 1 _ _ mmd; have mmL : w3.heap.size < w6.heap.size := (Array.getElem?_eq_some_iff.1 mmd).1; have mmN : ¬ w3.heap.size = w6.heap.size := (by omega); clear mmd; have HH2 := (HH.out).below hb; clear HH; have HH : Hid (WAt b ps w6) := HH2; have BB2 : Below W.heap.size W w6 := bstep (BB.out) hb; clear BB; have BB : Hid (Below W.heap.size W w6) := BB2; clear hb BB2 HH2; clear HK)
            | (go_at_call 64; refine (HS.out _ _ (HH.out.below ((Below.refl _ w6).alloc (Nat.le_refl _) _))).mono ?_; rintro e w9 ⟨rfl, hw9⟩; rw [hw9]; clear hw9 w9))
          all_goals go_ret
          all_goals exact ⟨retB (by simp [*]), (by repeat (first | exact BB.out | exact Below.refl _ _ | refine Below.setCell ?_ (by simp; try omega) _ | refine Below.alloc ?_ (by have := BB.out.size; simp; try omega) _ | refine Below.drew ?_))⟩
        · simp only [Prod.mk.injEq] at hEN
          obtain ⟨⟨rfl, rfl⟩, rfl⟩ := hEN
          have hEI : Hid (ifcI ps R1 = true) := hEI0
          clear hEI0
          go_wp2_with (first
            | (go_at_call 63; refine (HK.out _ _ HH.out).mono ?_; rintro e w6 ⟨⟨n9, s9, a1, c1, f9, l9, a2, n2, c2, rfl⟩, hb⟩; have mmd : w6.heap[w3.heap.size]? = some (.cells #[.int .i64 R1, .int .i64 R2] 38 (0, 0)) := (hb.block (w3.heap.size) (by first | omega | (simp; try omega))).trans (by first | exact mmB.out | exact hkeep mmB.out | exact hkeep (hkeep mmB.out) | exact halloc2 _ _ rfl | exact heap_alloc2_old _ _ _ | exact heap_alloc2_new _ _ _ | exact hkeep (halloc2 _ _ rfl) | exact hkeep (hkeep (halloc2 _ _ rfl)) | exact halloc2 _ _ (by simp; done)); (try clear mmB mmL mmN mm0 mm1 mmf0 mmf1); have mmB : Hid (w6.heap[w3.heap.size]? = some (.cells #[.int .i64 R1, .int .i64 R2] 38 (0, 0))) := mmd; have mm0 : w6.cell? ⟨w3.heap.size, 0, none⟩ = some (.int .i64 R1) := (cell_of_row w6 (w3.heap.size) 0 _ _ _ mmd).trans rfl; have mmf0 := frozen_of_row w6 (w3.heap.size) 0 _ _ mmd; have mm1 : w6.cell? ⟨w3.heap.size, 1, none⟩ = some (.int .i64 R2) := (cell_of_row w6 (w3.heap.size) 1 _ _ _ mmd).trans rfl; have mmf1 := frozen_of_row w6 (w3.heap.size) 1 _ _ mmd; have mmL : w3.heap.size < w6.heap.size := (Array.getElem?_eq_some_iff.1 mmd).1; have mmN : ¬ w3.heap.size = w6.heap.size := (by omega); clear mmd; have HH2 := (HH.out).below hb; clear HH; have HH : Hid (WAt b ps w6) := HH2; have BB2 : Below W.heap.size W w6 := bstep (BB.out) hb; clear BB; have BB : Hid (Below W.heap.size W w6) := BB2; clear hb BB2 HH2; clear HK)
            | (go_at_call 64; refine (HS.out _ _ (HH.out.below ((Below.refl _ w6).alloc (Nat.le_refl _) _))).mono ?_; rintro e w9 ⟨rfl, hw9⟩; rw [hw9]; clear hw9 w9)
            | (go_at_call 58; refine (HG.out _ _ _ (HH.out.below ((Below.refl _ w6).alloc (Nat.le_refl _) _)) hEI.out).mono ?_; rintro e w8 ⟨rfl, hb⟩; have BB2 : Below W.heap.size W w8 := bstep (BB.out.alloc BB.out.size _) hb; clear BB; have BB : Hid (Below W.heap.size W w8) := BB2; clear hb BB2; clear HG))
          all_goals go_ret
          all_goals exact ⟨retB (by simp [*]), (by repeat (first | exact BB.out | exact Below.refl _ _ | refine Below.setCell ?_ (by simp; try omega) _ | refine Below.alloc ?_ (by have := BB.out.size; simp; try omega) _ | refine Below.drew ?_))⟩
      · rw [if_neg hk] at HS
        by_cases hni : ni = 0
        · subst hni
          replace HL2 : Hid (∀ b w (i : Int), WAt b ps w → i = (sp : Int) → Calls Tryz.prog 53 #[.pointer (some ⟨b, 0, none⟩), .int .i64 i, .string nm, .string ds] w fun e w' => e = .returned (.tuple #[.agg #[.int .i64 R1, .int .i64 R2], .int .i64 R3]) ∧ Below w.heap.size w w') := HL2.out (by omega) rfl
          clear hEN HG
          go_wp2_with (first
            | (go_at_call 63; refine (HK.out _ _ HH.out).mono ?_; rintro e w6 ⟨⟨n9, s9, a1, c1, f9, l9, a2, n2, c2, rfl⟩, hb⟩; have mmd : w6.heap[w3.heap.size]? = some (.cells #[.int .i64 R1, .int .i64 R2] 38 (0, 0)) := (hb.block (w3.heap.size) (by first | omega | (simp; try omega))).trans (by first | exact mmB.out | exact hkeep mmB.out | exact hkeep (hkeep mmB.out) | exact halloc2 _ _ rfl | exact heap_alloc2_old _ _ _ | exact heap_alloc2_new _ _ _ | exact hkeep (halloc2 _ _ rfl) | exact hkeep (hkeep (halloc2 _ _ rfl)) | exact halloc2 _ _ (by simp; done)); (try clear mmB mmL mmN mm0 mm1 mmf0 mmf1); have mmB : Hid (w6.heap[w3.heap.size]? = some (.cells #[.int .i64 R1, .int .i64 R2] 38 (0, 0))) := mmd; have mm0 : w6.cell? ⟨w3.heap.size, 0, none⟩ = some (.int .i64 R1) := (cell_of_row w6 (w3.heap.size) 0 _ _ _ mmd).trans rfl; have mmf0 := frozen_of_row w6 (w3.heap.size) 0 _ _ mmd; have mm1 : w6.cell? ⟨w3.heap.size, 1, none⟩ = some (.int .i64 R2) := (cell_of_row w6 (w3.heap.size) 1 _ _ _ mmd).trans rfl; have mmf1 := frozen_of_row w6 (w3.heap.size) 1 _ _ mmd; have mmL : w3.heap.size < w6.heap.size := (Array.getElem?_eq_some_iff.1 mmd).1; have mmN : ¬ w3.heap.size = w6.heap.size := (by omega); clear mmd; have HH2 := (HH.out).below hb; clear HH; have HH : Hid (WAt b ps w6) := HH2; have BB2 : Below W.heap.size W w6 := bstep (BB.out) hb; clear BB; have BB : Hid (Below W.heap.size W w6) := BB2; clear hb BB2 HH2; clear HK)
            | (go_at_call 64; refine (HS.out _ _ (HH.out.below ((Below.refl _ w6).alloc (Nat.le_refl _) _))).mono ?_; rintro e w9 ⟨rfl, hw9⟩; rw [hw9]; clear hw9 w9)
            | (go_at_call 53; refine (HL2.out _ _ _ (HH.out.below ((Below.refl _ w6).alloc (Nat.le_refl _) _)) (by rfl)).mono ?_; rintro e w7 ⟨rfl, hb⟩; have mmd : w7.heap[w3.heap.size]? = some (.cells #[.int .i64 R1, .int .i64 R2] 38 (0, 0)) := (hb.block (w3.heap.size) (by first | omega | (simp; try omega))).trans (by first | exact mmB.out | exact hkeep mmB.out | exact hkeep (hkeep mmB.out) | exact halloc2 _ _ rfl | exact heap_alloc2_old _ _ _ | exact heap_alloc2_new _ _ _ | exact hkeep (halloc2 _ _ rfl) | exact hkeep (hkeep (halloc2 _ _ rfl)) | exact halloc2 _ _ (by simp; done)); (try clear mmB mmL mmN mm0 mm1 mmf0 mmf1); have mmB : Hid (w7.heap[w3.heap.size]? = some (.cells #[.int .i64 R1, .int .i64 R2] 38 (0, 0))) := mmd; have mm0 : w7.cell? ⟨w3.heap.size, 0, none⟩ = some (.int .i64 R1) := (cell_of_row w7 (w3.heap.size) 0 _ _ _ mmd).trans rfl; have mmf0 := frozen_of_row w7 (w3.heap.size) 0 _ _ mmd; have mm1 : w7.cell? ⟨w3.heap.size, 1, none⟩ = some (.int .i64 R2) := (cell_of_row w7 (w3.heap.size) 1 _ _ _ mmd).trans rfl; have mmf1 := frozen_of_row w7 (w3.heap.size) 1 _ _ mmd; have mmL : w3.heap.size < w7.heap.size := (Array.getElem?_eq_some_iff.1 mmd).1; have mmN : ¬ w3.heap.size = w7.heap.size := (by omega); clear mmd; have BB2 : Below W.heap.size W w7 := bstep (BB.out.alloc BB.out.size _) hb; clear BB; have BB : Hid (Below W.heap.size W w7) := BB2; clear hb BB2; clear HL2)
            | (go_at_call 33; refine (HSM.out _ _ _).mono ?_; rintro e w8 ⟨rfl, hb⟩; have BB2 : Below W.heap.size W w8 := bstep (BB.out.alloc BB.out.size _) hb; clear BB; have BB : Hid (Below W.heap.size W w8) := BB2; clear hb BB2; clear HSM))
          all_goals go_ret
          all_goals exact ⟨retB (by simp [*]), (by repeat (first | exact BB.out | exact Below.refl _ _ | refine Below.setCell ?_ (by simp; try omega) _ | refine Below.alloc ?_ (by have := BB.out.size; simp; try omega) _ | refine Below.drew ?_))⟩
        · have hn1 : (0 : Int) < (ni : Int) := by omega
          have hn2 : ¬ (ni : Int) ≤ 0 := by omega
          have hn3 : 0 < ni := by omega
          clear HL2 HSM
          rcases hEN with hEN | ⟨⟨x1, x2⟩, hEN, hEI0⟩
          · simp only [Prod.mk.injEq] at hEN
            obtain ⟨⟨rfl, rfl⟩, rfl⟩ := hEN
            go_wp2_with (first
              | (go_at_call 63; refine (HK.out _ _ HH.out).mono ?_; rintro e w6 ⟨⟨n9, s9, a1, c1, f9, l9, a2, n2, c2, rfl⟩, hb⟩; have mmd : w6.heap[w3.heap.size]? = some (.cells #[.int .i64 0, .int .i64 0] 38 (0, 0)) := (hb.block (w3.heap.size) (by first | omega | (simp; try omega))).trans (by first | exact mmB.out | exact hkeep mmB.out | exact hkeep (hkeep mmB.out) | exact halloc2 _ _ rfl | exact heap_alloc2_old _ _ _ | exact heap_alloc2_new _ _ _ | exact hkeep (halloc2 _ _ rfl) | exact hkeep (hkeep (halloc2 _ _ rfl)) | exact halloc2 _ _ (by simp; done)); (try clear mmB mmL mmN mm0 mm1 mmf0 mmf1); have mmB : Hid (w6.heap[w3.heap.size]? = some (.cells #[.int .i64 0, .int .i64 0] 38 (0, 0))) := mmd; have mm0 : w6.cell? ⟨w3.heap.size, 0, none⟩ = some (.int .i64 0) := (cell_of_row w6 (w3.heap.size) 0 _ _ _ mmd).trans rfl; have mmf0 := frozen_of_row w6 (w3.heap.size) 0 _ _ mmd; have mm1 : w6.cell? ⟨w3.heap.size, 1, none⟩ = some (.int .i64 0) := (cell_of_row w6 (w3.heap.size) 1 _ _ _ mmd).trans rfl; have mmf1 := frozen_of_row w6 (w3.heap.size) 1 _ _ mmd; have mmL : w3.heap.size < w6.heap.size := (Array.getElem?_eq_some_iff.1 mmd).1; have mmN : ¬ w3.heap.size = w6.heap.size := (by omega); clear mmd; have HH2 := (HH.out).below hb; clear HH; have HH : Hid (WAt b ps w6) := HH2; have BB2 : Below W.heap.size W w6 := bstep (BB.out) hb; clear BB; have BB : Hid (Below W.heap.size W w6) := BB2; clear hb BB2 HH2; clear HK)
              | (go_at_call 64; refine (HS.out _ _ (HH.out.below ((Below.refl _ w6).alloc (Nat.le_refl _) _))).mono ?_; rintro e w9 ⟨rfl, hw9⟩; rw [hw9]; clear hw9 w9))
            all_goals go_ret
            all_goals exact ⟨retB (by simp [*]), (by repeat (first | exact BB.out | exact Below.refl _ _ | refine Below.setCell ?_ (by simp; try omega) _ | refine Below.alloc ?_ (by have := BB.out.size; simp; try omega) _ | refine Below.drew ?_))⟩
          · simp only [Prod.mk.injEq] at hEN
            obtain ⟨⟨rfl, rfl⟩, rfl⟩ := hEN
            have hEI : Hid (ifcI ps R1 = true) := hEI0
            clear hEI0
            go_wp2_with (first
              | (go_at_call 63; refine (HK.out _ _ HH.out).mono ?_; rintro e w6 ⟨⟨n9, s9, a1, c1, f9, l9, a2, n2, c2, rfl⟩, hb⟩; have mmd : w6.heap[w3.heap.size]? = some (.cells #[.int .i64 R1, .int .i64 R2] 38 (0, 0)) := (hb.block (w3.heap.size) (by first | omega | (simp; try omega))).trans (by first | exact mmB.out | exact hkeep mmB.out | exact hkeep (hkeep mmB.out) | exact halloc2 _ _ rfl | exact heap_alloc2_old _ _ _ | exact heap_alloc2_new _ _ _ | exact hkeep (halloc2 _ _ rfl) | exact hkeep (hkeep (halloc2 _ _ rfl)) | exact halloc2 _ _ (by simp; done)); (try clear mmB mmL mmN mm0 mm1 mmf0 mmf1); have mmB : Hid (w6.heap[w3.heap.size]? = some (.cells #[.int .i64 R1, .int .i64 R2] 38 (0, 0))) := mmd; have mm0 : w6.cell? ⟨w3.heap.size, 0, none⟩ = some (.int .i64 R1) := (cell_of_row w6 (w3.heap.size) 0 _ _ _ mmd).trans rfl; have mmf0 := frozen_of_row w6 (w3.heap.size) 0 _ _ mmd; have mm1 : w6.cell? ⟨w3.heap.size, 1, none⟩ = some (.int .i64 R2) := (cell_of_row w6 (w3.heap.size) 1 _ _ _ mmd).trans rfl; have mmf1 := frozen_of_row w6 (w3.heap.size) 1 _ _ mmd; have mmL : w3.heap.size < w6.heap.size := (Array.getElem?_eq_some_iff.1 mmd).1; have mmN : ¬ w3.heap.size = w6.heap.size := (by omega); clear mmd; have HH2 := (HH.out).below hb; clear HH; have HH : Hid (WAt b ps w6) := HH2; have BB2 : Below W.heap.size W w6 := bstep (BB.out) hb; clear BB; have BB : Hid (Below W.heap.size W w6) := BB2; clear hb BB2 HH2; clear HK)
              | (go_at_call 64; refine (HS.out _ _ (HH.out.below ((Below.refl _ w6).alloc (Nat.le_refl _) _))).mono ?_; rintro e w9 ⟨rfl, hw9⟩; rw [hw9]; clear hw9 w9)
              | (go_at_call 58; refine (HG.out _ _ _ (HH.out.below ((Below.refl _ w6).alloc (Nat.le_refl _) _)) hEI.out).mono ?_; rintro e w8 ⟨rfl, hb⟩; have BB2 : Below W.heap.size W w8 := bstep (BB.out.alloc BB.out.size _) hb; clear BB; have BB : Hid (Below W.heap.size W w8) := BB2; clear hb BB2; clear HG))
            all_goals go_ret
            all_goals exact ⟨retB (by simp [*]), (by repeat (first | exact BB.out | exact Below.refl _ _ | refine Below.setCell ?_ (by simp; try omega) _ | refine Below.alloc ?_ (by have := BB.out.size; simp; try omega) _ | refine Below.drew ?_))⟩
theorem ResolveNearest_any (v : Value) (l : List Cls) (c : Int) (nm ds : ByteArray) (W : World) (h : IsClss W v l) (_ : nm.size ≤ maxLen) (_ : ds.size ≤ maxLen) : Calls Tryz.prog 12 #[v, .int .i64 c, .string nm, .string ds] W fun e w' => e = .returned (.bool true) ∧ Below W.heap.size W w' := by
  rcases plcI_cases (wld l) c with ⟨h1, _⟩ | ⟨k, q, rfl, h2, h1⟩
  · exact near_law_none v l _ rfl c nm ds W h h1
  · cases hf : ifcI (wld l) (k : Int) with
    | true => exact near_law_if v l _ rfl k q nm ds W h h2 hf
    | false => exact near_law_cls v l _ rfl k q nm ds W h h2 hf
end Go.Proofs.YtgppadlkollfaaaGreat
