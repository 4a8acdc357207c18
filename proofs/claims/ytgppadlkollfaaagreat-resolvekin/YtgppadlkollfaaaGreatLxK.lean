/- Two classes of one run-time package resolve alike, plainly. -/
import Derived.Test.YtgppadlkollfaaaGreatRsD
import Derived.Test.YtgppadlkollfaaaGreatRsF
import Derived.Test.YtgppadlkollfaaaGreatRsA
namespace Go.Proofs.YtgppadlkollfaaaGreat
open Go.RowKit Go.Maps

theorem clss_keep {w w' : World} {v : Value} {l : List Cls} (h : IsClss w v l) (hb : Below w.heap.size w w') : IsClss w' v l := by
  obtain ⟨ao, cap, rfl, h1, h2, h3⟩ := h
  refine ⟨ao, cap, rfl, h1, h2, fun hne => ?_⟩
  obtain ⟨bk, o, e, hlt, hc⟩ := h3 hne
  refine ⟨bk, o, e, Nat.lt_of_lt_of_le hlt hb.size, fun k c hk => ?_⟩
  obtain ⟨vi, vm, h4, h5⟩ := hc k c hk
  exact ⟨vi, vm, fun j u hj => (hb.cell hlt).trans (h4 j u hj), h5.keep hb⟩
theorem samePk_comm (p q : Plc) : samePk p q = samePk q p := by
  unfold samePk
  rw [Bool.beq_comm (a := p.c.ld), Bool.beq_comm (a := pkgL p.c.nm.data.toList)]
theorem samePk_trans {p q r : Plc} (h1 : samePk p q = true) (h2 : samePk q r = true) : samePk p r = true := by
  simp only [samePk, Bool.and_eq_true, beq_iff_eq] at *
  exact ⟨h1.1.trans h2.1, h1.2.trans h2.2⟩


set_option maxRecDepth 100000 in
set_option maxHeartbeats 4000000 in
theorem built11_c (v : Value) (l : List Cls) (W : World) (h : IsClss W v l) : Calls Tryz.prog 48 #[v] W fun e w' => (∃ b, e = .returned (.pointer (some ⟨b, 0, none⟩)) ∧ WAt b (wld l) w') ∧ Below W.heap.size W w' := by
  have hCW := clss_w h
  obtain ⟨ao, cap, rfl, h1, h2, h3⟩ := h
  unfold maxLen at h2
  obtain ⟨L, hL⟩ : ∃ L, l.length = L := ⟨_, rfl⟩
  have HL : Hid (l.length = L) := hL
  have HI : Hid _ := h3
  have HCW : Hid (∀ c ∈ l, ClsW c) := hCW
  rw [hL] at h1 ⊢
  clear hL h3 hCW
  have HN : Hid (∀ w : World, Calls Tryz.prog 66 #[] w fun e w' => e = .returned (.pointer (some ⟨w.heap.size + 1, 0, none⟩)) ∧ (∃ vp pv, HW w' w.heap.size (w.heap.size + 1) w.heap.size P3 vp pv) ∧ Below w.heap.size w w') := new_any
  go_enter Tryz.func48, Tryz.ntmps48
  go_wp2_with (first
    | (go_at_call 66; refine (HN.out _).mono ?_; rintro e w2 ⟨rfl, hw, hb⟩; have H2 : Hid (∃ vp pv, HW w2 W.heap.size (W.heap.size + 1) W.heap.size P3 vp pv) := hw; have B2 : Hid (Below W.heap.size W w2) := hb; clear hb hw HN))
  go_loopw [4] (fun iv wr => ∃ (i : Nat), iv = .int .i64 i ∧ i ≤ L ∧ Hid (∃ vp pv, HW wr W.heap.size (W.heap.size + 1) W.heap.size (wld (l.take i)) vp pv) ∧ Hid (Below W.heap.size W wr)) (fun iv _ => L - (intOf iv).toNat)
  case atStart => exact ⟨0, rfl, Nat.zero_le _, H2, B2⟩
  case round =>
    clear H2 B2
    obtain ⟨i, rfl, hi, hHW, hB⟩ := hrel
    by_cases hlt : i < L
    · obtain ⟨c, hc⟩ : ∃ c, l[i]? = some c := ⟨_, List.getElem?_eq_getElem (by rw [HL.out]; exact hlt)⟩
      obtain ⟨bk, o, rfl, hbk, hcl⟩ := HI.out (fun e => by rw [e] at hc; simp at hc)
      obtain ⟨vi, vm, hcell, hin⟩ := hcl i c hc
      have bel : Below W.heap.size W wr := hB.out
      have p0 : wr.cell? ⟨bk, o + i * 6, none⟩ = some (.string c.nm) := (bel.cell (p := ⟨bk, o + i * 6, none⟩) hbk).trans (hcell 0 _ rfl)
      have p1 : wr.cell? ⟨bk, o + i * 6 + 1, none⟩ = some (.string c.su) := (bel.cell (p := ⟨bk, o + i * 6 + 1, none⟩) hbk).trans (hcell 1 _ rfl)
      have p2 : wr.cell? ⟨bk, o + i * 6 + 2, none⟩ = some vi := (bel.cell (p := ⟨bk, o + i * 6 + 2, none⟩) hbk).trans (hcell 2 _ rfl)
      have p3 : wr.cell? ⟨bk, o + i * 6 + 3, none⟩ = some (.int .i64 c.fl) := (bel.cell (p := ⟨bk, o + i * 6 + 3, none⟩) hbk).trans (hcell 3 _ rfl)
      have p4 : wr.cell? ⟨bk, o + i * 6 + 4, none⟩ = some (.int .i64 c.ld) := (bel.cell (p := ⟨bk, o + i * 6 + 4, none⟩) hbk).trans (hcell 4 _ rfl)
      have p5 : wr.cell? ⟨bk, o + i * 6 + 5, none⟩ = some vm := (bel.cell (p := ⟨bk, o + i * 6 + 5, none⟩) hbk).trans (hcell 5 _ rfl)
      have hWI : WI (wld (l.take i)) := wld_wi _ (fun c hc => HCW.out c (List.mem_of_mem_take hc))
      have HD : Hid (Calls Tryz.prog 60 #[.pointer (some ⟨W.heap.size + 1, 0, none⟩), .agg #[.string c.nm, .string c.su, vi, .int .i64 c.fl, .int .i64 c.ld, vm]] wr fun e w' => (∃ u, e = .returned u) ∧ Hid (∃ vp pv, HW w' W.heap.size (W.heap.size + 1) W.heap.size (wld (l.take (i + 1))) vp pv) ∧ Hid (Below W.heap.size W w')) := by
        obtain ⟨vp, pv, hw⟩ := hHW.out
        refine (define_any W.heap.size (W.heap.size + 1) W.heap.size _ vp pv c vi vm wr hw hB.out.size (hin.keep bel) hWI.nm).mono ?_
        rintro e w' ⟨rfl, hw', hb', _⟩
        rw [wld_at hc]
        exact ⟨⟨_, rfl⟩, hw', hB.out.trans hb'⟩
      clear hcl hcell hin hc bel hWI hHW hB HI
      go_wp2_with (go_at_call 60; refine HD.out.mono ?_; rintro e w3 ⟨⟨u3, rfl⟩, hw3, hb3⟩; clear HD)
      go_roundw
      case rel => exact ⟨i + 1, by go_num, by omega, hw3, hb3⟩
      case measure => simp [intOf]; omega
    · have e : i = L := by omega
      subst e
      have HF : Hid (WAt (W.heap.size + 1) (wld l) wr) := by
        obtain ⟨vp, pv, hw⟩ := hHW.out
        rw [List.take_of_length_le (by rw [HL.out]; exact Nat.le_refl _)] at hw
        exact hw.wat
      clear hHW HI
      go_wp2
      exact bodyPost_ret (results_tmp rfl _ _ _) rfl ⟨⟨_, rfl, HF.out⟩, hB.out⟩

def strObj : ByteArray := ⟨#[79, 98, 106, 101, 99, 116]⟩
def strId : ByteArray := ⟨#[105, 100]⟩
def strD : ByteArray := ⟨#[40, 41, 73]⟩
theorem met3 : metR P3 0 false strObj strId strD = ((0, 1), 0) := by kernel_rfl
set_option maxRecDepth 100000 in
theorem awake11_c (W : World) : Calls Tryz.prog 46 #[] W fun e w' => e = .returned (.bool true) ∧ Below W.heap.size W w' := by
  have HN : Hid (∀ w : World, Calls Tryz.prog 66 #[] w fun e w' => ∃ b, e = .returned (.pointer (some ⟨b, 0, none⟩)) ∧ WAt b P3 w' ∧ Below w.heap.size w w') := fun w => (new_any w).mono fun e w' zz => ⟨_, zz.1, by obtain ⟨vp, pv, hw⟩ := zz.2.1; exact hw.wat, zz.2.2⟩
  have HM : Hid (∀ (w : World) (b : Nat), WAt b P3 w → Calls Tryz.prog 47 #[.pointer (some ⟨b, 0, none⟩), .int .i64 0, .agg #[.bool false, .string ⟨#[79, 98, 106, 101, 99, 116]⟩, .string ⟨#[105, 100]⟩, .string ⟨#[40, 41, 73]⟩]] w fun e w' => e = .returned (.tuple #[.agg #[.int .i64 0, .int .i64 1], .int .i64 0]) ∧ Below w.heap.size w w') := fun w b h => (met_c h wi3 0 false strObj strId strD (by decide) (by decide) (by decide)).mono fun e w' zz => ⟨by rw [zz.1, met3]; rfl, zz.2⟩
  have BB : Hid (Below W.heap.size W W) := Below.refl _ _
  go_enter Tryz.func46, Tryz.ntmps46
  go_wp2_with (first
    | (go_at_call 66; refine (HN.out _).mono ?_; rintro e w1 ⟨b, rfl, hw, hb⟩; have BB2 : Below W.heap.size W w1 := bstep (by repeat (first | exact BB.out | exact Below.refl _ _ | refine Below.setCell ?_ (by simp; try omega) _ | refine Below.alloc ?_ (by have := BB.out.size; simp; try omega) _ | refine Below.drew ?_)) hb; clear BB; have BB : Hid (Below W.heap.size W w1) := BB2; (try clear HH); have HH : Hid (WAt b P3 w1) := hw; clear hw hb BB2)
    | (go_at_call 47; refine (HM.out _ _ HH.out).mono ?_; rintro e w2 ⟨rfl, hb⟩; have BB2 := bstep BB.out hb; clear BB; have BB : Hid (Below W.heap.size W w2) := BB2; clear hb BB2 HM))
  exact bodyPost_ret (results_tmp rfl _ _ _) rfl ⟨rfl, (by repeat (first | exact BB.out | exact Below.refl _ _ | refine Below.setCell ?_ (by simp; try omega) _ | refine Below.alloc ?_ (by have := BB.out.size; simp; try omega) _ | refine Below.drew ?_))⟩


theorem sameID_c (a b : Int × Int) (w : World) : Calls Tryz.prog 33 #[.agg #[.int .i64 a.1, .int .i64 a.2], .agg #[.int .i64 b.1, .int .i64 b.2]] w fun e w' => e = .returned (.bool ((a.1 == b.1) && (a.2 == b.2))) ∧ Below w.heap.size w w' := by
  obtain ⟨a1, a2⟩ := a
  obtain ⟨b1, b2⟩ := b
  by_cases h1 : a1 = b1
  · by_cases h2 : a2 = b2
    · subst h1 h2
      go_enter Tryz.func33, Tryz.ntmps33
      go_wp2
      exact bodyPost_ret (results_tmp rfl _ _ _) rfl ⟨by simp, (by repeat (first | exact Below.refl _ _ | refine Below.setCell ?_ (by simp; try omega) _ | refine Below.alloc ?_ (by simp; try omega) _ | refine Below.drew ?_))⟩
    · subst h1
      go_enter Tryz.func33, Tryz.ntmps33
      go_wp2
      exact bodyPost_ret (results_tmp rfl _ _ _) rfl ⟨by simp, (by repeat (first | exact Below.refl _ _ | refine Below.setCell ?_ (by simp; try omega) _ | refine Below.alloc ?_ (by simp; try omega) _ | refine Below.drew ?_))⟩
  · go_enter Tryz.func33, Tryz.ntmps33
    go_wp2
    exact bodyPost_ret (results_tmp rfl _ _ _) rfl ⟨by simp [h1], (by repeat (first | exact Below.refl _ _ | refine Below.setCell ?_ (by simp; try omega) _ | refine Below.alloc ?_ (by simp; try omega) _ | refine Below.drew ?_))⟩






/-- a method of this name and descriptor -/
def FndF (ps : List Plc) (nm ds : ByteArray) (m : Int × Int) : Prop := ∃ x, methI ps m.1 m.2 = some x ∧ x.nm.toList = nm.toList ∧ x.ds.toList = ds.toList
theorem fnd_facts {ps : List Plc} {c : Int} {nm ds : ByteArray} (h : (fndI ps c nm ds).2 = 0) : FndF ps nm ds (c, (fndI ps c nm ds).1) ∧ ∃ (k : Nat) (q : Plc), c = (k : Int) ∧ ps[k]? = some q := by
  rcases plcI_cases ps c with ⟨h1, h2⟩ | ⟨k, q, rfl, h2, h1⟩
  · rw [fndI, h1] at h; exact absurd h (by show ¬ (3 : Int) = 0; decide)
  · have e : fndI ps k nm ds = if findH nm ds q.c.ms 0 < 0 then (0, 6) else (findH nm ds q.c.ms 0, 0) := by rw [fndI, h1]
    refine ⟨?_, k, q, rfl, h2⟩
    rw [e] at h ⊢
    rcases findH_range nm ds q.c.ms 0 with e2 | ⟨j, x, e2, hj, hn, hd⟩
    · rw [e2, if_pos (by decide)] at h; exact absurd h (by decide)
    · rw [e2, if_neg (by omega)]
      refine ⟨x, ?_, hn, hd⟩
      rw [methI, h1]
      show methP q ((0 + j : Nat) : Int) = some x
      rw [methP, if_pos (Int.natCast_nonneg _)]
      simpa using hj
theorem own_facts2 {ps : List Plc} {c : Int} {nm ds : ByteArray} {m : Int × Int} (h : ownR ps nm ds c = (m, 0)) : m = (c, (fndI ps c nm ds).1) ∧ (fndI ps c nm ds).2 = 0 := by
  unfold ownR at h
  split at h
  · rename_i h0
    exact ⟨(congrArg Prod.fst h).symm, h0⟩
  · rename_i h0
    exact absurd (congrArg Prod.snd h) h0
theorem up_facts {ps : List Plc} {nm ds : ByteArray} {m : Int × Int} : ∀ {l : List Nat}, upR ps nm ds l = (m, 0) → ∃ i ∈ l, ownR ps nm ds (i : Int) = (m, 0)
  | [], h => by simp [upR] at h
  | i :: r, h => by
    rw [upR] at h
    split at h
    · rename_i h0
      refine ⟨i, by simp, ?_⟩
      have e1 : (ownR ps nm ds (i : Int)).1 = m := by have := congrArg Prod.fst h; exact this
      exact Prod.ext e1 h0
    · obtain ⟨j, hj, e⟩ := up_facts h
      exact ⟨j, by simp [hj], e⟩
theorem fir_facts {m : Int × Int} : ∀ {l : List ((Int × Int) × Int)}, firR l = (m, 0) → (m, 0) ∈ l
  | [], h => by simp [firR] at h
  | x :: r, h => by
    rw [firR] at h
    split at h
    · rename_i h0
      have e1 : x.1 = m := by have := congrArg Prod.fst h; exact this
      have : x = (m, 0) := Prod.ext e1 h0
      simp [this]
    · exact List.mem_cons_of_mem _ (fir_facts h)
theorem one_mem {ps : List Plc} {l : List (Int × Int)} {m : Int × Int} (h : oneV ps l = (m, 0)) : m ∈ l := by
  unfold oneV at h
  split at h
  · simp at h
  · rename_i x e
    have : x = m := congrArg Prod.fst h
    subst this
    have : x ∈ oneL ps l := by rw [e]; simp
    exact max_mem (List.mem_filter.1 this).1
  · simp at h
theorem some_mem {l : List (Int × Int)} {m : Int × Int} (h : someV l = (m, 0)) : m ∈ l := by
  cases l with
  | nil => simp [someV] at h
  | cons x r => simp [someV] at h; simp [h]
theorem look_facts {ps : List Plc} (hW : WI ps) {c : Int} {nm ds : ByteArray} {m : Int × Int} (h : lookR ps nm ds c = (m, 0)) : FndF ps nm ds m ∧ extI ps c m.1 = true ∧ ifcI ps c = false := by
  rcases plcI_cases ps c with ⟨h1, h2⟩ | ⟨k, q, rfl, h2, h1⟩
  · rw [lookR, h1] at h; exact absurd (congrArg Prod.snd h) (by show ¬ (3 : Int) = 0; decide)
  · have hk := (List.getElem?_eq_some_iff.1 h2).1
    rw [lookR, h1] at h
    simp only at h
    cases hf : ifcI ps (k : Int) with
    | true => rw [hf, if_pos rfl] at h; exact absurd (congrArg Prod.snd h) (by show ¬ (23 : Int) = 0; decide)
    | false =>
      rw [hf, if_neg (by simp)] at h
      have hm := fir_facts h
      simp only [List.mem_cons, List.not_mem_nil, or_false] at hm
      rcases hm with hm | hm | hm
      · obtain ⟨i, hi, hio⟩ := up_facts hm.symm
        obtain ⟨rfl, h0⟩ := own_facts2 hio
        obtain ⟨hF, j, p, hj, hp⟩ := fnd_facts h0
        have hij : i = j := by omega
        subst hij
        have hil := (List.getElem?_eq_some_iff.1 hp).1
        refine ⟨hF, ?_, rfl⟩
        show extI ps (k : Int) (i : Int) = true
        rw [extI_nat hk hil, ext_iff]
        exact .inl hi
      · obtain ⟨_, _, he, x, h3, h4, h5, _⟩ := cand_facts hW h2 (one_mem hm.symm)
        exact ⟨⟨x, h3, h4, h5⟩, he, rfl⟩
      · obtain ⟨_, _, he, x, h3, h4, h5, _⟩ := cand_facts hW h2 (some_mem hm.symm)
        exact ⟨⟨x, h3, h4, h5⟩, he, rfl⟩
theorem top_facts {ps : List Plc} {nm ds : ByteArray} {m : Int × Int} (h : topR ps nm ds = (m, 0)) : ownR ps nm ds 0 = (m, 0) := by
  unfold topR at h
  split at h
  · split at h
    · split at h
      · exact h
      · exact absurd (congrArg Prod.snd h) (by show ¬ (6 : Int) = 0; decide)
    · exact absurd (congrArg Prod.snd h) (by show ¬ (3 : Int) = 0; decide)
  · rename_i h0
    exact absurd (congrArg Prod.snd h) h0
theorem lif_facts {ps : List Plc} (hW : WI ps) {c : Int} {nm ds : ByteArray} {m : Int × Int} (h : lifR ps nm ds c = (m, 0)) : FndF ps nm ds m ∧ extI ps c m.1 = true ∧ ifcI ps c = true := by
  rcases plcI_cases ps c with ⟨h1, h2⟩ | ⟨k, q, rfl, h2, h1⟩
  · rw [lifR, h1] at h; exact absurd (congrArg Prod.snd h) (by show ¬ (3 : Int) = 0; decide)
  · have hk := (List.getElem?_eq_some_iff.1 h2).1
    rw [lifR, h1] at h
    simp only at h
    cases hf : ifcI ps (k : Int) with
    | false => rw [hf, if_neg (by simp)] at h; exact absurd (congrArg Prod.snd h) (by show ¬ (23 : Int) = 0; decide)
    | true =>
      rw [hf, if_pos rfl] at h
      have hm := fir_facts h
      simp only [List.mem_cons, List.not_mem_nil, or_false] at hm
      rcases hm with hm | hm | hm | hm
      · obtain ⟨rfl, h0⟩ := own_facts2 hm.symm
        obtain ⟨hF, _⟩ := fnd_facts h0
        refine ⟨hF, ?_, rfl⟩
        show extI ps (k : Int) (k : Int) = true
        rw [extI_nat hk hk]; exact ext_self _ _
      · obtain ⟨rfl, h0⟩ := own_facts2 (top_facts hm.symm)
        obtain ⟨hF, _⟩ := fnd_facts h0
        refine ⟨hF, ?_, rfl⟩
        have := hW.lo
        show extI ps (k : Int) ((0 : Nat) : Int) = true
        rw [extI_nat hk (by omega)]; exact ext_top hW.wo (by simpa using hk)
      · obtain ⟨_, _, he, x, h3, h4, h5, _⟩ := cand_facts hW h2 (one_mem hm.symm)
        exact ⟨⟨x, h3, h4, h5⟩, he, rfl⟩
      · obtain ⟨_, _, he, x, h3, h4, h5, _⟩ := cand_facts hW h2 (some_mem hm.symm)
        exact ⟨⟨x, h3, h4, h5⟩, he, rfl⟩
theorem lby_facts {ps : List Plc} (hW : WI ps) {y : Bool} {c : Int} {nm ds : ByteArray} {m : Int × Int} (h : lbyR ps y nm ds c = (m, 0)) : FndF ps nm ds m ∧ extI ps c m.1 = true ∧ ifcI ps c = y := by
  cases y with
  | true => exact lif_facts hW h
  | false => exact look_facts hW h


theorem has6 {f : Int} (h : hasI f 6 = false) : hasI f 2 = false ∧ hasI f 4 = false := by
  have h5 : (BitVec.ofInt 64 f).toNat &&& 6 = 0 := by
    have e : bits .and .i64 f 6 = IntKind.wrap .i64 (((BitVec.ofInt 64 f).toNat &&& 6 : Nat) : Int) := rfl
    have h1 : (BitVec.ofInt 64 f).toNat &&& 6 ≤ 6 := Nat.and_le_right
    unfold hasI at h
    rw [e] at h
    generalize (BitVec.ofInt 64 f).toNat &&& 6 = m at h1 h
    have : m = 0 ∨ m = 1 ∨ m = 2 ∨ m = 3 ∨ m = 4 ∨ m = 5 ∨ m = 6 := by omega
    rcases this with rfl | rfl | rfl | rfl | rfl | rfl | rfl
    · rfl
    all_goals (exfalso; revert h; decide)
  have k1 : (BitVec.ofInt 64 f).toNat &&& 2 = 0 := by
    have : (BitVec.ofInt 64 f).toNat &&& 2 = ((BitVec.ofInt 64 f).toNat &&& 6) &&& 2 := by rw [Nat.and_assoc]; rfl
    rw [this, h5]; rfl
  have k4 : (BitVec.ofInt 64 f).toNat &&& 4 = 0 := by
    have : (BitVec.ofInt 64 f).toNat &&& 4 = ((BitVec.ofInt 64 f).toNat &&& 6) &&& 4 := by rw [Nat.and_assoc]; rfl
    rw [this, h5]; rfl
  have e1 : bits .and .i64 f 2 = IntKind.wrap .i64 (((BitVec.ofInt 64 f).toNat &&& 2 : Nat) : Int) := rfl
  have e4 : bits .and .i64 f 4 = IntKind.wrap .i64 (((BitVec.ofInt 64 f).toNat &&& 4 : Nat) : Int) := rfl
  unfold hasI
  rw [e1, e4, k1, k4]
  decide
theorem kin_same {p p' : Plc} (h : samePk p p' = true) (q : Plc) : samePk q p = samePk q p' := by
  rw [Bool.eq_iff_iff]
  exact ⟨fun h1 => samePk_trans h1 h, fun h1 => samePk_trans h1 (by rw [samePk_comm]; exact h)⟩
theorem kin_open {ps : List Plc} {d e c n f : Int} {sp : Bool} (h : hasI f 6 = false) : mOpen ps d c n f sp = mOpen ps e c n f sp := by
  obtain ⟨h2, h4⟩ := has6 h
  unfold mOpen openI
  rw [h2, h4]
  cases hasI f 1 <;> rfl
theorem kin_cls {ps : List Plc} {d e : Int} {p p' : Plc} (hd : plcI ps d = some p) (he : plcI ps e = some p') (hs : samePk p p' = true) (l : List UInt8) : clsR ps d l = clsR ps e l := by
  have ht : ∀ s, tyO ps p s = tyO ps p' s := fun s => by
    unfold tyO clsO
    simp only [kin_same hs]
  have hp : ∀ x s, toP ps d x s = toP ps e x s := fun x s => by
    unfold toP
    rw [hd, he]
    simp only [ht]
  unfold clsR tyX
  rw [rck_some hd, rck_some he]
  simp only [hp]
/-- what two classes of one run-time package have in common -/
theorem kin_met {ps : List Plc} (hW : WI ps) {d e : Int} (hs : spI ps d e = true) (y : Bool) (c n ds : ByteArray) :
    ((metR ps d y c n ds).2 ≠ 0 → (metR ps e y c n ds).2 ≠ 0 → (metR ps d y c n ds).2 = (metR ps e y c n ds).2) ∧
    ((metR ps d y c n ds).2 = 0 → (metR ps e y c n ds).2 = 0 → (metR ps d y c n ds).1 = (metR ps e y c n ds).1 ∧ ∃ x, methI ps (metR ps d y c n ds).1.1 (metR ps d y c n ds).1.2 = some x) ∧
    ((metR ps d y c n ds).2 = 0 → (metR ps e y c n ds).2 ≠ 0 → ∃ x, methI ps (metR ps d y c n ds).1.1 (metR ps d y c n ds).1.2 = some x ∧ hasI x.fl 6 = true) ∧
    ((metR ps d y c n ds).2 ≠ 0 → (metR ps e y c n ds).2 = 0 → ∃ x, methI ps (metR ps e y c n ds).1.1 (metR ps e y c n ds).1.2 = some x ∧ hasI x.fl 6 = true) := by
  obtain ⟨p, p', hd, he, hpp⟩ : ∃ p p', plcI ps d = some p ∧ plcI ps e = some p' ∧ samePk p p' = true := by
    unfold spI at hs
    cases h1 : plcI ps d with
    | none => rw [h1] at hs; cases hs
    | some p => cases h2 : plcI ps e with
      | none => rw [h1, h2] at hs; cases hs
      | some p' => rw [h1, h2] at hs; exact ⟨p, p', rfl, rfl, hs⟩
  unfold metR
  rw [rck_some hd, rck_some he, if_pos rfl, if_pos rfl]
  by_cases hrc : rckE c.data.toList n.data.toList ds.data.toList = 0
  · rw [if_pos hrc, if_pos hrc]
    unfold metS
    rw [← kin_cls hd he hpp]
    generalize clsR ps d c.data.toList = K
    by_cases hk : K.2 = 0
    · rw [if_pos hk, if_pos hk]
      generalize hldR ps K.1.1 K.1.2 = H
      by_cases hh : H.2 = 0
      · rw [if_pos hh, if_pos hh]
        by_cases hl : (lbyR ps y n ds H.1).2 = 0
        · rw [if_pos hl, if_pos hl]
          obtain ⟨⟨x, hx, _, _⟩, _, _⟩ := lby_facts hW (m := (lbyR ps y n ds H.1).1) (Prod.ext rfl hl)
          generalize (lbyR ps y n ds H.1).1 = m at *
          obtain ⟨k, q, hk1, hk2, hk3, _⟩ := meth_plc hx
          have hm : (moP ps d m.1 m.2 H.1 = (false, 3) ∧ moP ps e m.1 m.2 H.1 = (false, 3)) ∨ (moP ps d m.1 m.2 H.1 = (mOpen ps d m.1 H.1 x.fl (samePk q p), 0) ∧ moP ps e m.1 m.2 H.1 = (mOpen ps e m.1 H.1 x.fl (samePk q p), 0)) := by
            unfold moP
            rw [hd, he, hx, hk3]
            cases plcI ps H.1 with
            | none => exact .inl ⟨rfl, rfl⟩
            | some _ => exact .inr ⟨rfl, by simp only [kin_same hpp]⟩
          rcases hm with ⟨h1, h2⟩ | ⟨h1, h2⟩
          · rw [h1, h2]
            simp [shuI]
          · rw [h1, h2]
            have hop := fun h => kin_open (ps := ps) (d := d) (e := e) (c := m.1) (n := H.1) (f := x.fl) (sp := samePk q p) h
            generalize mOpen ps d m.1 H.1 x.fl (samePk q p) = A at *
            generalize mOpen ps e m.1 H.1 x.fl (samePk q p) = B at *
            cases hf : hasI x.fl 6 with
            | true => cases A <;> cases B <;> simp [shuI, hx, hf]
            | false =>
              have hAB := hop hf
              subst hAB
              cases A <;> simp [shuI, hx]
        · rw [if_neg hl, if_neg hl]; simp [hl]
      · rw [if_neg hh, if_neg hh]; simp [hh]
    · rw [if_neg hk, if_neg hk]; simp [hk]
  · rw [if_neg hrc, if_neg hrc]; simp
end Go.Proofs.YtgppadlkollfaaaGreat
