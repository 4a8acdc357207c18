/- The law ResolveSound: the walk. (Written by genlxs.py.) -/
import Derived.Test.YtgppadlkollfaaaGreatRsD
import Derived.Test.YtgppadlkollfaaaGreatRsF
import Derived.Test.YtgppadlkollfaaaGreatRsA
namespace Go.Proofs.YtgppadlkollfaaaGreat
open Go.RowKit Go.Maps

theorem clss_keep {w w' : World} {v : Value} {l : List Cls} (h : IsClss w v l) (hb : Below w.heap.size w w') : IsClss w' v l := by
  obtain ⟨ao, cap, rfl, h1, h2, h3⟩ := h
  refine ⟨ao, cap, rfl, h1, h2, fun hne => ?_⟩
  obtain ⟨bk, o, e, hlt, hc⟩ := h3 hne
  refine ⟨bk, o, e, Nat.lt_of_lt_of_le hlt hb.size, fun k c hk => ?_⟩
  obtain ⟨vi, vm, h4, h5⟩ := hc k c hk
  exact ⟨vi, vm, fun j u hj => (hb.cell hlt).trans (h4 j u hj), h5.keep hb⟩


set_option maxRecDepth 100000 in
set_option maxHeartbeats 4000000 in
theorem built11_c (v : Value) (l : List Cls) (W : World) (h : IsClss W v l) : Calls Tryz.prog 48 #[v] W fun e w' => (∃ b, e = .returned (.pointer (some ⟨b, 0, none⟩)) ∧ WAt b (wld l) w') ∧ Below W.heap.size W w' := by
  have hCW := clss_w h
  obtain ⟨ao, cap, rfl, h1, h2, h3⟩ := h
  unfold maxLen at h2
  obtain ⟨L, hL⟩ : ∃ L, l.length = L := ⟨_, rfl⟩
  have HL : Hid (l.length = L) := hL
  have HI : Hid _ := h3
  have HCW : Hid (∀ c ∈ l, ClsW c) := hCW
  rw [hL] at h1 ⊢
  clear hL h3 hCW
  have HN : Hid (∀ w : World, Calls Tryz.prog 66 #[] w fun e w' => e = .returned (.pointer (some ⟨w.heap.size + 1, 0, none⟩)) ∧ (∃ vp pv, HW w' w.heap.size (w.heap.size + 1) w.heap.size P3 vp pv) ∧ Below w.heap.size w w') := new_any
  go_enter Tryz.func48, Tryz.ntmps48
  go_wp2_with (first
    | (go_at_call 66; refine (HN.out _).mono ?_; rintro e w2 ⟨rfl, hw, hb⟩; have H2 : Hid (∃ vp pv, HW w2 W.heap.size (W.heap.size + 1) W.heap.size P3 vp pv) := hw; have B2 : Hid (Below W.heap.size W w2) := hb; clear hb hw HN))
  go_loopw [4] (fun iv wr => ∃ (i : Nat), iv = .int .i64 i ∧ i ≤ L ∧ Hid (∃ vp pv, HW wr W.heap.size (W.heap.size + 1) W.heap.size (wld (l.take i)) vp pv) ∧ Hid (Below W.heap.size W wr)) (fun iv _ => L - (intOf iv).toNat)
  case atStart => exact ⟨0, rfl, Nat.zero_le _, H2, B2⟩
  case round =>
    clear H2 B2
    obtain ⟨i, rfl, hi, hHW, hB⟩ := hrel
    by_cases hlt : i < L
    · obtain ⟨c, hc⟩ : ∃ c, l[i]? = some c := ⟨_, List.getElem?_eq_getElem (by rw [HL.out]; exact hlt)⟩
      obtain ⟨bk, o, rfl, hbk, hcl⟩ := HI.out (fun e => by rw [e] at hc; simp at hc)
      obtain ⟨vi, vm, hcell, hin⟩ := hcl i c hc
      have bel : Below W.heap.size W wr := hB.out
      have p0 : wr.cell? ⟨bk, o + i * 6, none⟩ = some (.string c.nm) := (bel.cell (p := ⟨bk, o + i * 6, none⟩) hbk).trans (hcell 0 _ rfl)
      have p1 : wr.cell? ⟨bk, o + i * 6 + 1, none⟩ = some (.string c.su) := (bel.cell (p := ⟨bk, o + i * 6 + 1, none⟩) hbk).trans (hcell 1 _ rfl)
      have p2 : wr.cell? ⟨bk, o + i * 6 + 2, none⟩ = some vi := (bel.cell (p := ⟨bk, o + i * 6 + 2, none⟩) hbk).trans (hcell 2 _ rfl)
      have p3 : wr.cell? ⟨bk, o + i * 6 + 3, none⟩ = some (.int .i64 c.fl) := (bel.cell (p := ⟨bk, o + i * 6 + 3, none⟩) hbk).trans (hcell 3 _ rfl)
      have p4 : wr.cell? ⟨bk, o + i * 6 + 4, none⟩ = some (.int .i64 c.ld) := (bel.cell (p := ⟨bk, o + i * 6 + 4, none⟩) hbk).trans (hcell 4 _ rfl)
      have p5 : wr.cell? ⟨bk, o + i * 6 + 5, none⟩ = some vm := (bel.cell (p := ⟨bk, o + i * 6 + 5, none⟩) hbk).trans (hcell 5 _ rfl)
      have hWI : WI (wld (l.take i)) := wld_wi _ (fun c hc => HCW.out c (List.mem_of_mem_take hc))
      have HD : Hid (Calls Tryz.prog 60 #[.pointer (some ⟨W.heap.size + 1, 0, none⟩), .agg #[.string c.nm, .string c.su, vi, .int .i64 c.fl, .int .i64 c.ld, vm]] wr fun e w' => (∃ u, e = .returned u) ∧ Hid (∃ vp pv, HW w' W.heap.size (W.heap.size + 1) W.heap.size (wld (l.take (i + 1))) vp pv) ∧ Hid (Below W.heap.size W w')) := by
        obtain ⟨vp, pv, hw⟩ := hHW.out
        refine (define_any W.heap.size (W.heap.size + 1) W.heap.size _ vp pv c vi vm wr hw hB.out.size (hin.keep bel) hWI.nm).mono ?_
        rintro e w' ⟨rfl, hw', hb', _⟩
        rw [wld_at hc]
        exact ⟨⟨_, rfl⟩, hw', hB.out.trans hb'⟩
      clear hcl hcell hin hc bel hWI hHW hB HI
      go_wp2_with (go_at_call 60; refine HD.out.mono ?_; rintro e w3 ⟨⟨u3, rfl⟩, hw3, hb3⟩; clear HD)
      go_roundw
      case rel => exact ⟨i + 1, by go_num, by omega, hw3, hb3⟩
      case measure => simp [intOf]; omega
    · have e : i = L := by omega
      subst e
      have HF : Hid (WAt (W.heap.size + 1) (wld l) wr) := by
        obtain ⟨vp, pv, hw⟩ := hHW.out
        rw [List.take_of_length_le (by rw [HL.out]; exact Nat.le_refl _)] at hw
        exact hw.wat
      clear hHW HI
      go_wp2
      exact bodyPost_ret (results_tmp rfl _ _ _) rfl ⟨⟨_, rfl, HF.out⟩, hB.out⟩

def strObj : ByteArray := ⟨#[79, 98, 106, 101, 99, 116]⟩
def strId : ByteArray := ⟨#[105, 100]⟩
def strD : ByteArray := ⟨#[40, 41, 73]⟩
theorem met3 : metR P3 0 false strObj strId strD = ((0, 1), 0) := by kernel_rfl
set_option maxRecDepth 100000 in
theorem awake11_c (W : World) : Calls Tryz.prog 46 #[] W fun e w' => e = .returned (.bool true) ∧ Below W.heap.size W w' := by
  have HN : Hid (∀ w : World, Calls Tryz.prog 66 #[] w fun e w' => ∃ b, e = .returned (.pointer (some ⟨b, 0, none⟩)) ∧ WAt b P3 w' ∧ Below w.heap.size w w') := fun w => (new_any w).mono fun e w' zz => ⟨_, zz.1, by obtain ⟨vp, pv, hw⟩ := zz.2.1; exact hw.wat, zz.2.2⟩
  have HM : Hid (∀ (w : World) (b : Nat), WAt b P3 w → Calls Tryz.prog 47 #[.pointer (some ⟨b, 0, none⟩), .int .i64 0, .agg #[.bool false, .string ⟨#[79, 98, 106, 101, 99, 116]⟩, .string ⟨#[105, 100]⟩, .string ⟨#[40, 41, 73]⟩]] w fun e w' => e = .returned (.tuple #[.agg #[.int .i64 0, .int .i64 1], .int .i64 0]) ∧ Below w.heap.size w w') := fun w b h => (met_c h wi3 0 false strObj strId strD (by decide) (by decide) (by decide)).mono fun e w' zz => ⟨by rw [zz.1, met3]; rfl, zz.2⟩
  have BB : Hid (Below W.heap.size W W) := Below.refl _ _
  go_enter Tryz.func46, Tryz.ntmps46
  go_wp2_with (first
    | (go_at_call 66; refine (HN.out _).mono ?_; rintro e w1 ⟨b, rfl, hw, hb⟩; have BB2 : Below W.heap.size W w1 := bstep (by repeat (first | exact BB.out | exact Below.refl _ _ | refine Below.setCell ?_ (by simp; try omega) _ | refine Below.alloc ?_ (by have := BB.out.size; simp; try omega) _ | refine Below.drew ?_)) hb; clear BB; have BB : Hid (Below W.heap.size W w1) := BB2; (try clear HH); have HH : Hid (WAt b P3 w1) := hw; clear hw hb BB2)
    | (go_at_call 47; refine (HM.out _ _ HH.out).mono ?_; rintro e w2 ⟨rfl, hb⟩; have BB2 := bstep BB.out hb; clear BB; have BB : Hid (Below W.heap.size W w2) := BB2; clear hb BB2 HM))
  exact bodyPost_ret (results_tmp rfl _ _ _) rfl ⟨rfl, (by repeat (first | exact BB.out | exact Below.refl _ _ | refine Below.setCell ?_ (by simp; try omega) _ | refine Below.alloc ?_ (by have := BB.out.size; simp; try omega) _ | refine Below.drew ?_))⟩


theorem sameID_c (a b : Int × Int) (w : World) : Calls Tryz.prog 33 #[.agg #[.int .i64 a.1, .int .i64 a.2], .agg #[.int .i64 b.1, .int .i64 b.2]] w fun e w' => e = .returned (.bool ((a.1 == b.1) && (a.2 == b.2))) ∧ Below w.heap.size w w' := by
  obtain ⟨a1, a2⟩ := a
  obtain ⟨b1, b2⟩ := b
  by_cases h1 : a1 = b1
  · by_cases h2 : a2 = b2
    · subst h1 h2
      go_enter Tryz.func33, Tryz.ntmps33
      go_wp2
      exact bodyPost_ret (results_tmp rfl _ _ _) rfl ⟨by simp, (by repeat (first | exact Below.refl _ _ | refine Below.setCell ?_ (by simp; try omega) _ | refine Below.alloc ?_ (by simp; try omega) _ | refine Below.drew ?_))⟩
    · subst h1
      go_enter Tryz.func33, Tryz.ntmps33
      go_wp2
      exact bodyPost_ret (results_tmp rfl _ _ _) rfl ⟨by simp, (by repeat (first | exact Below.refl _ _ | refine Below.setCell ?_ (by simp; try omega) _ | refine Below.alloc ?_ (by simp; try omega) _ | refine Below.drew ?_))⟩
  · go_enter Tryz.func33, Tryz.ntmps33
    go_wp2
    exact bodyPost_ret (results_tmp rfl _ _ _) rfl ⟨by simp [h1], (by repeat (first | exact Below.refl _ _ | refine Below.setCell ?_ (by simp; try omega) _ | refine Below.alloc ?_ (by simp; try omega) _ | refine Below.drew ?_))⟩






/-- a method of this name and descriptor -/
def FndF (ps : List Plc) (nm ds : ByteArray) (m : Int × Int) : Prop := ∃ x, methI ps m.1 m.2 = some x ∧ x.nm.toList = nm.toList ∧ x.ds.toList = ds.toList
theorem fnd_facts {ps : List Plc} {c : Int} {nm ds : ByteArray} (h : (fndI ps c nm ds).2 = 0) : FndF ps nm ds (c, (fndI ps c nm ds).1) ∧ ∃ (k : Nat) (q : Plc), c = (k : Int) ∧ ps[k]? = some q := by
  rcases plcI_cases ps c with ⟨h1, h2⟩ | ⟨k, q, rfl, h2, h1⟩
  · rw [fndI, h1] at h; exact absurd h (by show ¬ (3 : Int) = 0; decide)
  · have e : fndI ps k nm ds = if findH nm ds q.c.ms 0 < 0 then (0, 6) else (findH nm ds q.c.ms 0, 0) := by rw [fndI, h1]
    refine ⟨?_, k, q, rfl, h2⟩
    rw [e] at h ⊢
    rcases findH_range nm ds q.c.ms 0 with e2 | ⟨j, x, e2, hj, hn, hd⟩
    · rw [e2, if_pos (by decide)] at h; exact absurd h (by decide)
    · rw [e2, if_neg (by omega)]
      refine ⟨x, ?_, hn, hd⟩
      rw [methI, h1]
      show methP q ((0 + j : Nat) : Int) = some x
      rw [methP, if_pos (Int.natCast_nonneg _)]
      simpa using hj
theorem own_facts2 {ps : List Plc} {c : Int} {nm ds : ByteArray} {m : Int × Int} (h : ownR ps nm ds c = (m, 0)) : m = (c, (fndI ps c nm ds).1) ∧ (fndI ps c nm ds).2 = 0 := by
  unfold ownR at h
  split at h
  · rename_i h0
    exact ⟨(congrArg Prod.fst h).symm, h0⟩
  · rename_i h0
    exact absurd (congrArg Prod.snd h) h0
theorem up_facts {ps : List Plc} {nm ds : ByteArray} {m : Int × Int} : ∀ {l : List Nat}, upR ps nm ds l = (m, 0) → ∃ i ∈ l, ownR ps nm ds (i : Int) = (m, 0)
  | [], h => by simp [upR] at h
  | i :: r, h => by
    rw [upR] at h
    split at h
    · rename_i h0
      refine ⟨i, by simp, ?_⟩
      have e1 : (ownR ps nm ds (i : Int)).1 = m := by have := congrArg Prod.fst h; exact this
      exact Prod.ext e1 h0
    · obtain ⟨j, hj, e⟩ := up_facts h
      exact ⟨j, by simp [hj], e⟩
theorem fir_facts {m : Int × Int} : ∀ {l : List ((Int × Int) × Int)}, firR l = (m, 0) → (m, 0) ∈ l
  | [], h => by simp [firR] at h
  | x :: r, h => by
    rw [firR] at h
    split at h
    · rename_i h0
      have e1 : x.1 = m := by have := congrArg Prod.fst h; exact this
      have : x = (m, 0) := Prod.ext e1 h0
      simp [this]
    · exact List.mem_cons_of_mem _ (fir_facts h)
theorem one_mem {ps : List Plc} {l : List (Int × Int)} {m : Int × Int} (h : oneV ps l = (m, 0)) : m ∈ l := by
  unfold oneV at h
  split at h
  · simp at h
  · rename_i x e
    have : x = m := congrArg Prod.fst h
    subst this
    have : x ∈ oneL ps l := by rw [e]; simp
    exact max_mem (List.mem_filter.1 this).1
  · simp at h
theorem some_mem {l : List (Int × Int)} {m : Int × Int} (h : someV l = (m, 0)) : m ∈ l := by
  cases l with
  | nil => simp [someV] at h
  | cons x r => simp [someV] at h; simp [h]
theorem look_facts {ps : List Plc} (hW : WI ps) {c : Int} {nm ds : ByteArray} {m : Int × Int} (h : lookR ps nm ds c = (m, 0)) : FndF ps nm ds m ∧ extI ps c m.1 = true ∧ ifcI ps c = false := by
  rcases plcI_cases ps c with ⟨h1, h2⟩ | ⟨k, q, rfl, h2, h1⟩
  · rw [lookR, h1] at h; exact absurd (congrArg Prod.snd h) (by show ¬ (3 : Int) = 0; decide)
  · have hk := (List.getElem?_eq_some_iff.1 h2).1
    rw [lookR, h1] at h
    simp only at h
    cases hf : ifcI ps (k : Int) with
    | true => rw [hf, if_pos rfl] at h; exact absurd (congrArg Prod.snd h) (by show ¬ (23 : Int) = 0; decide)
    | false =>
      rw [hf, if_neg (by simp)] at h
      have hm := fir_facts h
      simp only [List.mem_cons, List.not_mem_nil, or_false] at hm
      rcases hm with hm | hm | hm
      · obtain ⟨i, hi, hio⟩ := up_facts hm.symm
        obtain ⟨rfl, h0⟩ := own_facts2 hio
        obtain ⟨hF, j, p, hj, hp⟩ := fnd_facts h0
        have hij : i = j := by omega
        subst hij
        have hil := (List.getElem?_eq_some_iff.1 hp).1
        refine ⟨hF, ?_, rfl⟩
        show extI ps (k : Int) (i : Int) = true
        rw [extI_nat hk hil, ext_iff]
        exact .inl hi
      · obtain ⟨_, _, he, x, h3, h4, h5, _⟩ := cand_facts hW h2 (one_mem hm.symm)
        exact ⟨⟨x, h3, h4, h5⟩, he, rfl⟩
      · obtain ⟨_, _, he, x, h3, h4, h5, _⟩ := cand_facts hW h2 (some_mem hm.symm)
        exact ⟨⟨x, h3, h4, h5⟩, he, rfl⟩
theorem top_facts {ps : List Plc} {nm ds : ByteArray} {m : Int × Int} (h : topR ps nm ds = (m, 0)) : ownR ps nm ds 0 = (m, 0) := by
  unfold topR at h
  split at h
  · split at h
    · split at h
      · exact h
      · exact absurd (congrArg Prod.snd h) (by show ¬ (6 : Int) = 0; decide)
    · exact absurd (congrArg Prod.snd h) (by show ¬ (3 : Int) = 0; decide)
  · rename_i h0
    exact absurd (congrArg Prod.snd h) h0
theorem lif_facts {ps : List Plc} (hW : WI ps) {c : Int} {nm ds : ByteArray} {m : Int × Int} (h : lifR ps nm ds c = (m, 0)) : FndF ps nm ds m ∧ extI ps c m.1 = true ∧ ifcI ps c = true := by
  rcases plcI_cases ps c with ⟨h1, h2⟩ | ⟨k, q, rfl, h2, h1⟩
  · rw [lifR, h1] at h; exact absurd (congrArg Prod.snd h) (by show ¬ (3 : Int) = 0; decide)
  · have hk := (List.getElem?_eq_some_iff.1 h2).1
    rw [lifR, h1] at h
    simp only at h
    cases hf : ifcI ps (k : Int) with
    | false => rw [hf, if_neg (by simp)] at h; exact absurd (congrArg Prod.snd h) (by show ¬ (23 : Int) = 0; decide)
    | true =>
      rw [hf, if_pos rfl] at h
      have hm := fir_facts h
      simp only [List.mem_cons, List.not_mem_nil, or_false] at hm
      rcases hm with hm | hm | hm | hm
      · obtain ⟨rfl, h0⟩ := own_facts2 hm.symm
        obtain ⟨hF, _⟩ := fnd_facts h0
        refine ⟨hF, ?_, rfl⟩
        show extI ps (k : Int) (k : Int) = true
        rw [extI_nat hk hk]; exact ext_self _ _
      · obtain ⟨rfl, h0⟩ := own_facts2 (top_facts hm.symm)
        obtain ⟨hF, _⟩ := fnd_facts h0
        refine ⟨hF, ?_, rfl⟩
        have := hW.lo
        show extI ps (k : Int) ((0 : Nat) : Int) = true
        rw [extI_nat hk (by omega)]; exact ext_top hW.wo (by simpa using hk)
      · obtain ⟨_, _, he, x, h3, h4, h5, _⟩ := cand_facts hW h2 (one_mem hm.symm)
        exact ⟨⟨x, h3, h4, h5⟩, he, rfl⟩
      · obtain ⟨_, _, he, x, h3, h4, h5, _⟩ := cand_facts hW h2 (some_mem hm.symm)
        exact ⟨⟨x, h3, h4, h5⟩, he, rfl⟩
theorem shu_zero {o : Bool} {e : Int} (h : shuI o e = 0) : o = true ∧ e = 0 := by
  unfold shuI at h
  split at h
  · rename_i h0
    split at h
    · rename_i h1; exact ⟨h1, h0⟩
    · exact absurd h (by decide)
  · rename_i h0; exact absurd h h0
/-- all that is known of a method that was resolved -/
structure MetF (ps : List Plc) (d : Int) (y : Bool) (c n ds : ByteArray) (m : Int × Int) : Prop where
  ck : rckI ps d = 0
  rc : rckE c.data.toList n.data.toList ds.data.toList = 0
  cl : (clsR ps d c.data.toList).2 = 0
  hl : (hldR ps (clsR ps d c.data.toList).1.1 (clsR ps d c.data.toList).1.2).2 = 0
  lb : lbyR ps y n ds (hldR ps (clsR ps d c.data.toList).1.1 (clsR ps d c.data.toList).1.2).1 = (m, 0)
  mo : moP ps d m.1 m.2 (hldR ps (clsR ps d c.data.toList).1.1 (clsR ps d c.data.toList).1.2).1 = (true, 0)
theorem met_facts {ps : List Plc} {d : Int} {y : Bool} {c n ds : ByteArray} {m : Int × Int} (h : metR ps d y c n ds = (m, 0)) : MetF ps d y c n ds m := by
  unfold metR at h
  split at h
  · rename_i hck
    split at h
    · rename_i hrc
      unfold metS at h
      split at h
      · rename_i hcl
        split at h
        · rename_i hhl
          split at h
          · rename_i hlb
            split at h
            · rename_i hsh
              have hm : (lbyR ps y n ds (hldR ps (clsR ps d c.data.toList).1.1 (clsR ps d c.data.toList).1.2).1).1 = m := congrArg Prod.fst h
              obtain ⟨h1, h2⟩ := shu_zero hsh
              rw [hm] at h1 h2
              exact ⟨hck, hrc, hcl, hhl, Prod.ext hm hlb, Prod.ext h1 h2⟩
            · rename_i h0; exact absurd (congrArg Prod.snd h) h0
          · rename_i h0; exact absurd (congrArg Prod.snd h) h0
        · rename_i h0; exact absurd (congrArg Prod.snd h) h0
      · rename_i h0; exact absurd (congrArg Prod.snd h) h0
    · exact absurd (congrArg Prod.snd h) (by show ¬ (1 : Int) = 0; decide)
  · rename_i h0; exact absurd (congrArg Prod.snd h) h0
theorem met_err {ps : List Plc} {d : Int} {y : Bool} {c n ds : ByteArray} (h : (metR ps d y c n ds).2 ≠ 0) : (metR ps d y c n ds).1 = (0, 0) ∧ ((clsR ps d c.data.toList).2 = 0 ∨ (metR ps d y c n ds).2 = 1 ∨ (metR ps d y c n ds).2 = (clsR ps d c.data.toList).2) := by
  unfold metR at h ⊢
  by_cases hck : rckI ps d = 0
  · rw [if_pos hck] at h ⊢
    by_cases hrc : rckE c.data.toList n.data.toList ds.data.toList = 0
    · rw [if_pos hrc] at h ⊢
      unfold metS at h ⊢
      split
      · rename_i hcl
        rw [if_pos hcl] at h
        refine ⟨?_, .inl hcl⟩
        split
        · rename_i h1
          rw [if_pos h1] at h
          split
          · rename_i h2
            rw [if_pos h2] at h
            split
            · rename_i h3; rw [if_pos h3] at h; exact absurd rfl h
            · rfl
          · rfl
        · rfl
      · exact ⟨rfl, .inr (.inr rfl)⟩
    · rw [if_neg hrc]; exact ⟨rfl, .inr (.inl rfl)⟩
  · rw [if_neg hck]
    refine ⟨rfl, .inr (.inr ?_)⟩
    unfold clsR
    rw [if_neg hck]
theorem cls_facts {ps : List Plc} {d : Int} {l : List UInt8} (h : (clsR ps d l).2 = 0) : toP ps d (clsR ps d l).1.1 (clsR ps d l).1.2 = (true, 0) := by
  unfold clsR at h ⊢
  split at h
  · rename_i h0
    rw [if_pos h0]
    split at h
    · rename_i h1
      rw [if_pos h1]
      split at h
      · rename_i h2
        rw [if_pos h2]
        obtain ⟨h3, h4⟩ := shu_zero h2
        exact Prod.ext h3 h4
      · rename_i h2; exact absurd h h2
    · exact absurd h (by decide)
  · rename_i h0; exact absurd h h0
theorem lby_facts {ps : List Plc} (hW : WI ps) {y : Bool} {c : Int} {nm ds : ByteArray} {m : Int × Int} (h : lbyR ps y nm ds c = (m, 0)) : FndF ps nm ds m ∧ extI ps c m.1 = true ∧ ifcI ps c = y := by
  cases y with
  | true => exact lif_facts hW h
  | false => exact look_facts hW h


set_option maxRecDepth 100000 in
set_option maxHeartbeats 1000000 in
theorem sound_err (v : Value) (l : List Cls) (ps : List Plc) (hps : ps = wld l) (d : Int) (y : Bool) (c n ds : ByteArray) (W : World) (h : IsClss W v l) (hc : c.size ≤ maxLen) (hn : n.size ≤ maxLen) (hd : ds.size ≤ maxLen) (he : (metR ps d y c n ds).2 ≠ 0) : Calls Tryz.prog 10 #[v, .int .i64 d, .agg #[.bool y, .string c, .string n, .string ds]] W fun e w' => e = .returned (.bool true) ∧ Below W.heap.size W w' := by
  have hCW := clss_w h
  have hWI : WI ps := by rw [hps]; exact wld_wi l hCW
  have HA : Hid (∀ w : World, Calls Tryz.prog 46 #[] w fun e w' => e = .returned (.bool true) ∧ Below w.heap.size w w') := awake11_c
  have HB : Hid (∀ w : World, Below W.heap.size W w → Calls Tryz.prog 48 #[v] w fun e w' => (∃ b, e = .returned (.pointer (some ⟨b, 0, none⟩)) ∧ WAt b ps w') ∧ Below w.heap.size w w') := fun w hb => by rw [hps]; exact built11_c v l w (clss_keep h hb)
  have HM : Hid (∀ b w, WAt b ps w → Calls Tryz.prog 47 #[.pointer (some ⟨b, 0, none⟩), .int .i64 d, .agg #[.bool y, .string c, .string n, .string ds]] w fun e w' => e = .returned (idE (metR ps d y c n ds)) ∧ Below w.heap.size w w') := fun b w hw => met_c hw hWI d y c n ds hc hn hd
  have HC : Hid (∀ b w, WAt b ps w → Calls Tryz.prog 50 #[.pointer (some ⟨b, 0, none⟩), .int .i64 d, .string c] w fun e w' => e = .returned (tyE (clsR ps d c.data.toList)) ∧ Below w.heap.size w w') := fun b w hw => cls_c hw hWI d c hc
  have HI : Hid (∀ w : World, Calls Tryz.prog 33 #[.agg #[.int .i64 0, .int .i64 0], .agg #[.int .i64 0, .int .i64 0]] w fun e w' => e = .returned (.bool true) ∧ Below w.heap.size w w') := fun w => sameID_c (0, 0) (0, 0) w
  obtain ⟨e1, e2⟩ := met_err he
  generalize metR ps d y c n ds = M at *
  obtain ⟨⟨m1, m2⟩, m3⟩ := M
  simp only [Prod.mk.injEq] at e1 e2 he
  obtain ⟨rfl, rfl⟩ := e1
  generalize clsR ps d c.data.toList = T at *
  obtain ⟨⟨t1, t2⟩, t3⟩ := T
  simp only [idE, tyE] at HM HC e2
  clear h hCW hWI hps hc hn hd
  rcases e2 with rfl | rfl | rfl
  all_goals
    have BB : Hid (Below W.heap.size W W) := Below.refl _ _
    go_enter Tryz.func10, Tryz.ntmps10
    go_wp2_with (first
    | (go_at_call 46; refine (HA.out _).mono ?_; rintro e w1 ⟨rfl, hb⟩; have rrd : w1.heap[W.heap.size]? = some (.cells #[.bool y, .string c, .string n, .string ds] 63 (0, 0)) := (hb.block (W.heap.size) (by first | omega | (simp; try omega))).trans (by first | exact halloc2 _ _ (by simp; done) | exact heap_alloc2_old _ _ _ | exact heap_alloc2_new _ _ _ | exact rrB.out | exact hkeep rrB.out | exact hkeep (hkeep rrB.out) | exact hkeep (halloc2 _ _ (by simp; done)) | exact hkeep (hkeep (halloc2 _ _ (by simp; done)))); (try clear rrB rrL rrN rr0 rr1 rr2 rr3 rrf0 rrf1 rrf2 rrf3); have rrB : Hid (w1.heap[W.heap.size]? = some (.cells #[.bool y, .string c, .string n, .string ds] 63 (0, 0))) := rrd; have rr0 : w1.cell? ⟨W.heap.size, 0, none⟩ = some (.bool y) := (cell_of_row w1 (W.heap.size) 0 _ _ _ rrd).trans rfl; have rrf0 := frozen_of_row w1 (W.heap.size) 0 _ _ rrd; have rr1 : w1.cell? ⟨W.heap.size, 1, none⟩ = some (.string c) := (cell_of_row w1 (W.heap.size) 1 _ _ _ rrd).trans rfl; have rrf1 := frozen_of_row w1 (W.heap.size) 1 _ _ rrd; have rr2 : w1.cell? ⟨W.heap.size, 2, none⟩ = some (.string n) := (cell_of_row w1 (W.heap.size) 2 _ _ _ rrd).trans rfl; have rrf2 := frozen_of_row w1 (W.heap.size) 2 _ _ rrd; have rr3 : w1.cell? ⟨W.heap.size, 3, none⟩ = some (.string ds) := (cell_of_row w1 (W.heap.size) 3 _ _ _ rrd).trans rfl; have rrf3 := frozen_of_row w1 (W.heap.size) 3 _ _ rrd; have rrL : W.heap.size < w1.heap.size := (Array.getElem?_eq_some_iff.1 rrd).1; have rrN : ¬ W.heap.size = w1.heap.size := (by omega); clear rrd; have BB2 : Below W.heap.size W w1 := bstep ((by repeat (first | exact BB.out | exact Below.refl _ _ | refine Below.setCell ?_ (by simp; try omega) _ | refine Below.alloc ?_ (by have := BB.out.size; simp; try omega) _ | refine Below.drew ?_))) hb; clear BB; have BB : Hid (Below W.heap.size W w1) := BB2; clear hb BB2; clear HA)
    | (go_at_call 48; refine (HB.out _ BB.out).mono ?_; rintro e w2 ⟨⟨b, rfl, hw⟩, hb⟩; have HH : Hid (WAt b ps w2) := hw; have rrd : w2.heap[W.heap.size]? = some (.cells #[.bool y, .string c, .string n, .string ds] 63 (0, 0)) := (hb.block (W.heap.size) (by first | omega | (simp; try omega))).trans (by first | exact halloc2 _ _ (by simp; done) | exact heap_alloc2_old _ _ _ | exact heap_alloc2_new _ _ _ | exact rrB.out | exact hkeep rrB.out | exact hkeep (hkeep rrB.out) | exact hkeep (halloc2 _ _ (by simp; done)) | exact hkeep (hkeep (halloc2 _ _ (by simp; done)))); (try clear rrB rrL rrN rr0 rr1 rr2 rr3 rrf0 rrf1 rrf2 rrf3); have rrB : Hid (w2.heap[W.heap.size]? = some (.cells #[.bool y, .string c, .string n, .string ds] 63 (0, 0))) := rrd; have rr0 : w2.cell? ⟨W.heap.size, 0, none⟩ = some (.bool y) := (cell_of_row w2 (W.heap.size) 0 _ _ _ rrd).trans rfl; have rrf0 := frozen_of_row w2 (W.heap.size) 0 _ _ rrd; have rr1 : w2.cell? ⟨W.heap.size, 1, none⟩ = some (.string c) := (cell_of_row w2 (W.heap.size) 1 _ _ _ rrd).trans rfl; have rrf1 := frozen_of_row w2 (W.heap.size) 1 _ _ rrd; have rr2 : w2.cell? ⟨W.heap.size, 2, none⟩ = some (.string n) := (cell_of_row w2 (W.heap.size) 2 _ _ _ rrd).trans rfl; have rrf2 := frozen_of_row w2 (W.heap.size) 2 _ _ rrd; have rr3 : w2.cell? ⟨W.heap.size, 3, none⟩ = some (.string ds) := (cell_of_row w2 (W.heap.size) 3 _ _ _ rrd).trans rfl; have rrf3 := frozen_of_row w2 (W.heap.size) 3 _ _ rrd; have rrL : W.heap.size < w2.heap.size := (Array.getElem?_eq_some_iff.1 rrd).1; have rrN : ¬ W.heap.size = w2.heap.size := (by omega); clear rrd; have BB2 : Below W.heap.size W w2 := bstep (BB.out) hb; clear BB; have BB : Hid (Below W.heap.size W w2) := BB2; clear hb BB2; clear HB hw)
    | (go_at_call 47; refine (HM.out _ _ HH.out).mono ?_; rintro e w3 ⟨rfl, hb⟩; have rrd : w3.heap[W.heap.size]? = some (.cells #[.bool y, .string c, .string n, .string ds] 63 (0, 0)) := (hb.block (W.heap.size) (by first | omega | (simp; try omega))).trans (by first | exact halloc2 _ _ (by simp; done) | exact heap_alloc2_old _ _ _ | exact heap_alloc2_new _ _ _ | exact rrB.out | exact hkeep rrB.out | exact hkeep (hkeep rrB.out) | exact hkeep (halloc2 _ _ (by simp; done)) | exact hkeep (hkeep (halloc2 _ _ (by simp; done)))); (try clear rrB rrL rrN rr0 rr1 rr2 rr3 rrf0 rrf1 rrf2 rrf3); have rrB : Hid (w3.heap[W.heap.size]? = some (.cells #[.bool y, .string c, .string n, .string ds] 63 (0, 0))) := rrd; have rr0 : w3.cell? ⟨W.heap.size, 0, none⟩ = some (.bool y) := (cell_of_row w3 (W.heap.size) 0 _ _ _ rrd).trans rfl; have rrf0 := frozen_of_row w3 (W.heap.size) 0 _ _ rrd; have rr1 : w3.cell? ⟨W.heap.size, 1, none⟩ = some (.string c) := (cell_of_row w3 (W.heap.size) 1 _ _ _ rrd).trans rfl; have rrf1 := frozen_of_row w3 (W.heap.size) 1 _ _ rrd; have rr2 : w3.cell? ⟨W.heap.size, 2, none⟩ = some (.string n) := (cell_of_row w3 (W.heap.size) 2 _ _ _ rrd).trans rfl; have rrf2 := frozen_of_row w3 (W.heap.size) 2 _ _ rrd; have rr3 : w3.cell? ⟨W.heap.size, 3, none⟩ = some (.string ds) := (cell_of_row w3 (W.heap.size) 3 _ _ _ rrd).trans rfl; have rrf3 := frozen_of_row w3 (W.heap.size) 3 _ _ rrd; have rrL : W.heap.size < w3.heap.size := (Array.getElem?_eq_some_iff.1 rrd).1; have rrN : ¬ W.heap.size = w3.heap.size := (by omega); clear rrd; have HH2 := (HH.out).below hb; clear HH; have HH : Hid (WAt b ps w3) := HH2; have BB2 : Below W.heap.size W w3 := bstep (BB.out) hb; clear BB; have BB : Hid (Below W.heap.size W w3) := BB2; clear hb BB2 HH2; clear HM)
    | (go_at_call 50; refine (HC.out _ _ (HH.out.below ((Below.refl _ w3).alloc (Nat.le_refl _) _))).mono ?_; rintro e w4 ⟨rfl, hb⟩; have rrd : w4.heap[W.heap.size]? = some (.cells #[.bool y, .string c, .string n, .string ds] 63 (0, 0)) := (hb.block (W.heap.size) (by first | omega | (simp; try omega))).trans (by first | exact halloc2 _ _ (by simp; done) | exact heap_alloc2_old _ _ _ | exact heap_alloc2_new _ _ _ | exact rrB.out | exact hkeep rrB.out | exact hkeep (hkeep rrB.out) | exact hkeep (halloc2 _ _ (by simp; done)) | exact hkeep (hkeep (halloc2 _ _ (by simp; done)))); (try clear rrB rrL rrN rr0 rr1 rr2 rr3 rrf0 rrf1 rrf2 rrf3); have rrB : Hid (w4.heap[W.heap.size]? = some (.cells #[.bool y, .string c, .string n, .string ds] 63 (0, 0))) := rrd; have rr0 : w4.cell? ⟨W.heap.size, 0, none⟩ = some (.bool y) := (cell_of_row w4 (W.heap.size) 0 _ _ _ rrd).trans rfl; have rrf0 := frozen_of_row w4 (W.heap.size) 0 _ _ rrd; have rr1 : w4.cell? ⟨W.heap.size, 1, none⟩ = some (.string c) := (cell_of_row w4 (W.heap.size) 1 _ _ _ rrd).trans rfl; have rrf1 := frozen_of_row w4 (W.heap.size) 1 _ _ rrd; have rr2 : w4.cell? ⟨W.heap.size, 2, none⟩ = some (.string n) := (cell_of_row w4 (W.heap.size) 2 _ _ _ rrd).trans rfl; have rrf2 := frozen_of_row w4 (W.heap.size) 2 _ _ rrd; have rr3 : w4.cell? ⟨W.heap.size, 3, none⟩ = some (.string ds) := (cell_of_row w4 (W.heap.size) 3 _ _ _ rrd).trans rfl; have rrf3 := frozen_of_row w4 (W.heap.size) 3 _ _ rrd; have rrL : W.heap.size < w4.heap.size := (Array.getElem?_eq_some_iff.1 rrd).1; have rrN : ¬ W.heap.size = w4.heap.size := (by omega); clear rrd; have mmd : w4.heap[w3.heap.size]? = some (.cells #[.int .i64 0, .int .i64 0] 38 (0, 0)) := (hb.block (w3.heap.size) (by first | omega | (simp; try omega))).trans (by first | exact halloc2 _ _ (by simp; done) | exact heap_alloc2_old _ _ _ | exact heap_alloc2_new _ _ _ | exact mmB.out | exact hkeep mmB.out | exact hkeep (hkeep mmB.out) | exact hkeep (halloc2 _ _ (by simp; done)) | exact hkeep (hkeep (halloc2 _ _ (by simp; done)))); (try clear mmB mmL mmN mm0 mm1 mmf0 mmf1); have mmB : Hid (w4.heap[w3.heap.size]? = some (.cells #[.int .i64 0, .int .i64 0] 38 (0, 0))) := mmd; have mm0 : w4.cell? ⟨w3.heap.size, 0, none⟩ = some (.int .i64 0) := (cell_of_row w4 (w3.heap.size) 0 _ _ _ mmd).trans rfl; have mmf0 := frozen_of_row w4 (w3.heap.size) 0 _ _ mmd; have mm1 : w4.cell? ⟨w3.heap.size, 1, none⟩ = some (.int .i64 0) := (cell_of_row w4 (w3.heap.size) 1 _ _ _ mmd).trans rfl; have mmf1 := frozen_of_row w4 (w3.heap.size) 1 _ _ mmd; have mmL : w3.heap.size < w4.heap.size := (Array.getElem?_eq_some_iff.1 mmd).1; have mmN : ¬ w3.heap.size = w4.heap.size := (by omega); clear mmd; have HH2 := (HH.out.below ((Below.refl _ w3).alloc (Nat.le_refl _) _)).below hb; clear HH; have HH : Hid (WAt b ps w4) := HH2; have BB2 : Below W.heap.size W w4 := bstep (BB.out.alloc BB.out.size _) hb; clear BB; have BB : Hid (Below W.heap.size W w4) := BB2; clear hb BB2 HH2; clear HC)
    | (go_at_call 33; refine (HI.out _).mono ?_; rintro e w5 ⟨rfl, hb⟩; have BB2 : Below W.heap.size W w5 := bstep (BB.out.alloc BB.out.size _) hb; clear BB; have BB : Hid (Below W.heap.size W w5) := BB2; clear hb BB2; clear HI))
    all_goals go_ret
    all_goals exact ⟨retB (by simp [*]), (by repeat (first | exact BB.out | exact Below.refl _ _ | refine Below.setCell ?_ (by simp; try omega) _ | refine Below.alloc ?_ (by have := BB.out.size; simp; try omega) _ | refine Below.drew ?_))⟩
theorem ba_ext {a b : ByteArray} (h : a.toList = b.toList) : a = b := by
  have h1 : a.data.toList = b.data.toList := by rw [← Lib.toList_data, ← Lib.toList_data]; exact h
  exact bytes_ext h1
set_option maxRecDepth 100000 in
set_option maxHeartbeats 4000000 in
theorem sound_ok (v : Value) (l : List Cls) (ps : List Plc) (hps : ps = wld l) (d : Int) (y : Bool) (c n ds : ByteArray) (W : World) (h : IsClss W v l) (hc : c.size ≤ maxLen) (hn : n.size ≤ maxLen) (hd : ds.size ≤ maxLen) (m1 m2 : Int) (he : metR ps d y c n ds = ((m1, m2), 0)) : Calls Tryz.prog 10 #[v, .int .i64 d, .agg #[.bool y, .string c, .string n, .string ds]] W fun e w' => e = .returned (.bool true) ∧ Below W.heap.size W w' := by
  have hCW := clss_w h
  have hWI : WI ps := by rw [hps]; exact wld_wi l hCW
  have HA : Hid (∀ w : World, Calls Tryz.prog 46 #[] w fun e w' => e = .returned (.bool true) ∧ Below w.heap.size w w') := awake11_c
  have HB : Hid (∀ w : World, Below W.heap.size W w → Calls Tryz.prog 48 #[v] w fun e w' => (∃ b, e = .returned (.pointer (some ⟨b, 0, none⟩)) ∧ WAt b ps w') ∧ Below w.heap.size w w') := fun w hb => by rw [hps]; exact built11_c v l w (clss_keep h hb)
  have HM : Hid (∀ b w, WAt b ps w → Calls Tryz.prog 47 #[.pointer (some ⟨b, 0, none⟩), .int .i64 d, .agg #[.bool y, .string c, .string n, .string ds]] w fun e w' => e = .returned (idE (metR ps d y c n ds)) ∧ Below w.heap.size w w') := fun b w hw => met_c hw hWI d y c n ds hc hn hd
  have HC : Hid (∀ b w, WAt b ps w → Calls Tryz.prog 50 #[.pointer (some ⟨b, 0, none⟩), .int .i64 d, .string c] w fun e w' => e = .returned (tyE (clsR ps d c.data.toList)) ∧ Below w.heap.size w w') := fun b w hw => cls_c hw hWI d c hc
  obtain ⟨_, _, f1, f2, f3, f4⟩ := met_facts he
  obtain ⟨⟨x, hx, hxn, hxd⟩, f5, f6⟩ := lby_facts hWI f3
  have f7 := cls_facts f1
  have hsz := cls_size ps d c.data.toList
  rw [he] at HM
  generalize clsR ps d c.data.toList = T at *
  obtain ⟨⟨t1, t2⟩, t3⟩ := T
  simp only at f1 f2 f3 f4 f5 f6 f7 hx hsz
  subst f1
  have HH1 : Hid (∀ b w, WAt b ps w → Calls Tryz.prog 57 #[.pointer (some ⟨b, 0, none⟩), .agg #[.int .i64 t1, .string t2]] w fun e w' => e = .returned (.tuple #[.int .i64 (hldR ps t1 t2).1, .int .i64 (hldR ps t1 t2).2]) ∧ Below w.heap.size w w') := fun b w hw => hld_c hw t1 t2 hsz
  generalize hldR ps t1 t2 = H at *
  obtain ⟨h1, h2⟩ := H
  simp only at f2 f3 f4 f5 f6 HH1
  subst f2
  have e1 : n = x.nm := ba_ext hxn.symm
  have e2 : ds = x.ds := ba_ext hxd.symm
  obtain ⟨xf, xl, xs, HX⟩ : ∃ xf xl xs, Hid (∀ b w, WAt b ps w → Calls Tryz.prog 32 #[.pointer (some ⟨b, 0, none⟩), .agg #[.int .i64 m1, .int .i64 m2]] w fun e w' => (∃ xa xk xc, e = .returned (.tuple #[.agg #[.string n, .string ds, .int .i64 xf, .int .i64 xl, .int .i64 xs, .slice xa xk xc], .int .i64 0])) ∧ Below w.heap.size w w') := ⟨x.fl, x.lo, x.st, fun b w hw => by
    have := method_c hw hWI.pb m1 m2
    rw [hx] at this
    refine this.mono fun e w' zz => ⟨?_, zz.2⟩
    obtain ⟨vv, rfl, hown⟩ := zz.1
    obtain ⟨a1, c1, rfl⟩ := ownv hown
    exact ⟨a1, _, c1, by rw [e1, e2]⟩⟩
  have HE : Hid (∀ b w, WAt b ps w → Calls Tryz.prog 34 #[.pointer (some ⟨b, 0, none⟩), .int .i64 h1, .int .i64 m1] w fun e w' => e = .returned (.bool true) ∧ Below w.heap.size w w') := fun b w hw => (extends_c hw hWI h1 m1).mono fun e w' zz => ⟨by rw [zz.1, f5], zz.2⟩
  have HF : Hid (∀ b w, WAt b ps w → Calls Tryz.prog 58 #[.pointer (some ⟨b, 0, none⟩), .int .i64 h1] w fun e w' => e = .returned (.bool y) ∧ Below w.heap.size w w') := fun b w hw => (isIface_c hw h1).mono fun e w' zz => ⟨by rw [zz.1, f6], zz.2⟩
  have HO : Hid (∀ b w, WAt b ps w → Calls Tryz.prog 23 #[.pointer (some ⟨b, 0, none⟩), .int .i64 d, .agg #[.int .i64 m1, .int .i64 m2], .int .i64 h1] w fun e w' => e = .returned (.tuple #[.bool true, .int .i64 0]) ∧ Below w.heap.size w w') := fun b w hw => (methodOpen_c hw hWI d m1 m2 h1).mono fun e w' zz => ⟨by rw [zz.1, moI_eq, f4], zz.2⟩
  have HT : Hid (∀ b w, WAt b ps w → Calls Tryz.prog 59 #[.pointer (some ⟨b, 0, none⟩), .int .i64 d, .agg #[.int .i64 t1, .string t2]] w fun e w' => e = .returned (.tuple #[.bool true, .int .i64 0]) ∧ Below w.heap.size w w') := fun b w hw => (typeOpen_c hw hWI.pb d t1 t2 hsz).mono fun e w' zz => ⟨by rw [zz.1, toI_eq, f7], zz.2⟩
  simp only [idE, tyE] at HM HC
  clear h hCW hWI hps hc hn hd he f3 f4 f5 f6 f7 hsz hx hxn hxd e1 e2 x
  all_goals
    have BB : Hid (Below W.heap.size W W) := Below.refl _ _
    go_enter Tryz.func10, Tryz.ntmps10
    go_wp2_with (first
    | (go_at_call 46; refine (HA.out _).mono ?_; rintro e w1 ⟨rfl, hb⟩; have rrd : w1.heap[W.heap.size]? = some (.cells #[.bool y, .string c, .string n, .string ds] 63 (0, 0)) := (hb.block (W.heap.size) (by first | omega | (simp; try omega))).trans (by first | exact halloc2 _ _ (by simp; done) | exact heap_alloc2_old _ _ _ | exact heap_alloc2_new _ _ _ | exact rrB.out | exact hkeep rrB.out | exact hkeep (hkeep rrB.out) | exact hkeep (halloc2 _ _ (by simp; done)) | exact hkeep (hkeep (halloc2 _ _ (by simp; done)))); (try clear rrB rrL rrN rr0 rr1 rr2 rr3 rrf0 rrf1 rrf2 rrf3); have rrB : Hid (w1.heap[W.heap.size]? = some (.cells #[.bool y, .string c, .string n, .string ds] 63 (0, 0))) := rrd; have rr0 : w1.cell? ⟨W.heap.size, 0, none⟩ = some (.bool y) := (cell_of_row w1 (W.heap.size) 0 _ _ _ rrd).trans rfl; have rrf0 := frozen_of_row w1 (W.heap.size) 0 _ _ rrd; have rr1 : w1.cell? ⟨W.heap.size, 1, none⟩ = some (.string c) := (cell_of_row w1 (W.heap.size) 1 _ _ _ rrd).trans rfl; have rrf1 := frozen_of_row w1 (W.heap.size) 1 _ _ rrd; have rr2 : w1.cell? ⟨W.heap.size, 2, none⟩ = some (.string n) := (cell_of_row w1 (W.heap.size) 2 _ _ _ rrd).trans rfl; have rrf2 := frozen_of_row w1 (W.heap.size) 2 _ _ rrd; have rr3 : w1.cell? ⟨W.heap.size, 3, none⟩ = some (.string ds) := (cell_of_row w1 (W.heap.size) 3 _ _ _ rrd).trans rfl; have rrf3 := frozen_of_row w1 (W.heap.size) 3 _ _ rrd; have rrL : W.heap.size < w1.heap.size := (Array.getElem?_eq_some_iff.1 rrd).1; have rrN : ¬ W.heap.size = w1.heap.size := (by omega); clear rrd; have BB2 : Below W.heap.size W w1 := bstep ((by repeat (first | exact BB.out | exact Below.refl _ _ | refine Below.setCell ?_ (by simp; try omega) _ | refine Below.alloc ?_ (by have := BB.out.size; simp; try omega) _ | refine Below.drew ?_))) hb; clear BB; have BB : Hid (Below W.heap.size W w1) := BB2; clear hb BB2; clear HA)
    | (go_at_call 48; refine (HB.out _ BB.out).mono ?_; rintro e w2 ⟨⟨b, rfl, hw⟩, hb⟩; have HH : Hid (WAt b ps w2) := hw; have rrd : w2.heap[W.heap.size]? = some (.cells #[.bool y, .string c, .string n, .string ds] 63 (0, 0)) := (hb.block (W.heap.size) (by first | omega | (simp; try omega))).trans (by first | exact halloc2 _ _ (by simp; done) | exact heap_alloc2_old _ _ _ | exact heap_alloc2_new _ _ _ | exact rrB.out | exact hkeep rrB.out | exact hkeep (hkeep rrB.out) | exact hkeep (halloc2 _ _ (by simp; done)) | exact hkeep (hkeep (halloc2 _ _ (by simp; done)))); (try clear rrB rrL rrN rr0 rr1 rr2 rr3 rrf0 rrf1 rrf2 rrf3); have rrB : Hid (w2.heap[W.heap.size]? = some (.cells #[.bool y, .string c, .string n, .string ds] 63 (0, 0))) := rrd; have rr0 : w2.cell? ⟨W.heap.size, 0, none⟩ = some (.bool y) := (cell_of_row w2 (W.heap.size) 0 _ _ _ rrd).trans rfl; have rrf0 := frozen_of_row w2 (W.heap.size) 0 _ _ rrd; have rr1 : w2.cell? ⟨W.heap.size, 1, none⟩ = some (.string c) := (cell_of_row w2 (W.heap.size) 1 _ _ _ rrd).trans rfl; have rrf1 := frozen_of_row w2 (W.heap.size) 1 _ _ rrd; have rr2 : w2.cell? ⟨W.heap.size, 2, none⟩ = some (.string n) := (cell_of_row w2 (W.heap.size) 2 _ _ _ rrd).trans rfl; have rrf2 := frozen_of_row w2 (W.heap.size) 2 _ _ rrd; have rr3 : w2.cell? ⟨W.heap.size, 3, none⟩ = some (.string ds) := (cell_of_row w2 (W.heap.size) 3 _ _ _ rrd).trans rfl; have rrf3 := frozen_of_row w2 (W.heap.size) 3 _ _ rrd; have rrL : W.heap.size < w2.heap.size := (Array.getElem?_eq_some_iff.1 rrd).1; have rrN : ¬ W.heap.size = w2.heap.size := (by omega); clear rrd; have BB2 : Below W.heap.size W w2 := bstep (BB.out) hb; clear BB; have BB : Hid (Below W.heap.size W w2) := BB2; clear hb BB2; clear HB hw)
    | (go_at_call 47; refine (HM.out _ _ HH.out).mono ?_; rintro e w3 ⟨rfl, hb⟩; have rrd : w3.heap[W.heap.size]? = some (.cells #[.bool y, .string c, .string n, .string ds] 63 (0, 0)) := (hb.block (W.heap.size) (by first | omega | (simp; try omega))).trans (by first | exact halloc2 _ _ (by simp; done) | exact heap_alloc2_old _ _ _ | exact heap_alloc2_new _ _ _ | exact rrB.out | exact hkeep rrB.out | exact hkeep (hkeep rrB.out) | exact hkeep (halloc2 _ _ (by simp; done)) | exact hkeep (hkeep (halloc2 _ _ (by simp; done)))); (try clear rrB rrL rrN rr0 rr1 rr2 rr3 rrf0 rrf1 rrf2 rrf3); have rrB : Hid (w3.heap[W.heap.size]? = some (.cells #[.bool y, .string c, .string n, .string ds] 63 (0, 0))) := rrd; have rr0 : w3.cell? ⟨W.heap.size, 0, none⟩ = some (.bool y) := (cell_of_row w3 (W.heap.size) 0 _ _ _ rrd).trans rfl; have rrf0 := frozen_of_row w3 (W.heap.size) 0 _ _ rrd; have rr1 : w3.cell? ⟨W.heap.size, 1, none⟩ = some (.string c) := (cell_of_row w3 (W.heap.size) 1 _ _ _ rrd).trans rfl; have rrf1 := frozen_of_row w3 (W.heap.size) 1 _ _ rrd; have rr2 : w3.cell? ⟨W.heap.size, 2, none⟩ = some (.string n) := (cell_of_row w3 (W.heap.size) 2 _ _ _ rrd).trans rfl; have rrf2 := frozen_of_row w3 (W.heap.size) 2 _ _ rrd; have rr3 : w3.cell? ⟨W.heap.size, 3, none⟩ = some (.string ds) := (cell_of_row w3 (W.heap.size) 3 _ _ _ rrd).trans rfl; have rrf3 := frozen_of_row w3 (W.heap.size) 3 _ _ rrd; have rrL : W.heap.size < w3.heap.size := (Array.getElem?_eq_some_iff.1 rrd).1; have rrN : ¬ W.heap.size = w3.heap.size := (by omega); clear rrd; have HH2 := (HH.out).below hb; clear HH; have HH : Hid (WAt b ps w3) := HH2; have BB2 : Below W.heap.size W w3 := bstep (BB.out) hb; clear BB; have BB : Hid (Below W.heap.size W w3) := BB2; clear hb BB2 HH2; clear HM)
    | (go_at_call 50; refine (HC.out _ _ (HH.out.below ((Below.refl _ w3).alloc (Nat.le_refl _) _))).mono ?_; rintro e w4 ⟨rfl, hb⟩; have rrd : w4.heap[W.heap.size]? = some (.cells #[.bool y, .string c, .string n, .string ds] 63 (0, 0)) := (hb.block (W.heap.size) (by first | omega | (simp; try omega))).trans (by first | exact halloc2 _ _ (by simp; done) | exact heap_alloc2_old _ _ _ | exact heap_alloc2_new _ _ _ | exact rrB.out | exact hkeep rrB.out | exact hkeep (hkeep rrB.out) | exact hkeep (halloc2 _ _ (by simp; done)) | exact hkeep (hkeep (halloc2 _ _ (by simp; done)))); (try clear rrB rrL rrN rr0 rr1 rr2 rr3 rrf0 rrf1 rrf2 rrf3); have rrB : Hid (w4.heap[W.heap.size]? = some (.cells #[.bool y, .string c, .string n, .string ds] 63 (0, 0))) := rrd; have rr0 : w4.cell? ⟨W.heap.size, 0, none⟩ = some (.bool y) := (cell_of_row w4 (W.heap.size) 0 _ _ _ rrd).trans rfl; have rrf0 := frozen_of_row w4 (W.heap.size) 0 _ _ rrd; have rr1 : w4.cell? ⟨W.heap.size, 1, none⟩ = some (.string c) := (cell_of_row w4 (W.heap.size) 1 _ _ _ rrd).trans rfl; have rrf1 := frozen_of_row w4 (W.heap.size) 1 _ _ rrd; have rr2 : w4.cell? ⟨W.heap.size, 2, none⟩ = some (.string n) := (cell_of_row w4 (W.heap.size) 2 _ _ _ rrd).trans rfl; have rrf2 := frozen_of_row w4 (W.heap.size) 2 _ _ rrd; have rr3 : w4.cell? ⟨W.heap.size, 3, none⟩ = some (.string ds) := (cell_of_row w4 (W.heap.size) 3 _ _ _ rrd).trans rfl; have rrf3 := frozen_of_row w4 (W.heap.size) 3 _ _ rrd; have rrL : W.heap.size < w4.heap.size := (Array.getElem?_eq_some_iff.1 rrd).1; have rrN : ¬ W.heap.size = w4.heap.size := (by omega); clear rrd; have mmd : w4.heap[w3.heap.size]? = some (.cells #[.int .i64 m1, .int .i64 m2] 38 (0, 0)) := (hb.block (w3.heap.size) (by first | omega | (simp; try omega))).trans (by first | exact halloc2 _ _ (by simp; done) | exact heap_alloc2_old _ _ _ | exact heap_alloc2_new _ _ _ | exact mmB.out | exact hkeep mmB.out | exact hkeep (hkeep mmB.out) | exact hkeep (halloc2 _ _ (by simp; done)) | exact hkeep (hkeep (halloc2 _ _ (by simp; done)))); (try clear mmB mmL mmN mm0 mm1 mmf0 mmf1); have mmB : Hid (w4.heap[w3.heap.size]? = some (.cells #[.int .i64 m1, .int .i64 m2] 38 (0, 0))) := mmd; have mm0 : w4.cell? ⟨w3.heap.size, 0, none⟩ = some (.int .i64 m1) := (cell_of_row w4 (w3.heap.size) 0 _ _ _ mmd).trans rfl; have mmf0 := frozen_of_row w4 (w3.heap.size) 0 _ _ mmd; have mm1 : w4.cell? ⟨w3.heap.size, 1, none⟩ = some (.int .i64 m2) := (cell_of_row w4 (w3.heap.size) 1 _ _ _ mmd).trans rfl; have mmf1 := frozen_of_row w4 (w3.heap.size) 1 _ _ mmd; have mmL : w3.heap.size < w4.heap.size := (Array.getElem?_eq_some_iff.1 mmd).1; have mmN : ¬ w3.heap.size = w4.heap.size := (by omega); clear mmd; have HH2 := (HH.out.below ((Below.refl _ w3).alloc (Nat.le_refl _) _)).below hb; clear HH; have HH : Hid (WAt b ps w4) := HH2; have BB2 : Below W.heap.size W w4 := bstep (BB.out.alloc BB.out.size _) hb; clear BB; have BB : Hid (Below W.heap.size W w4) := BB2; clear hb BB2 HH2; clear HC)
    | (go_at_call 32; refine (HX.out _ _ (HH.out.below ((Below.refl _ w4).alloc (Nat.le_refl _) _))).mono ?_; rintro e w5 ⟨⟨xa, xk, xc, rfl⟩, hb⟩; have rrd : w5.heap[W.heap.size]? = some (.cells #[.bool y, .string c, .string n, .string ds] 63 (0, 0)) := (hb.block (W.heap.size) (by first | omega | (simp; try omega))).trans (by first | exact halloc2 _ _ (by simp; done) | exact heap_alloc2_old _ _ _ | exact heap_alloc2_new _ _ _ | exact rrB.out | exact hkeep rrB.out | exact hkeep (hkeep rrB.out) | exact hkeep (halloc2 _ _ (by simp; done)) | exact hkeep (hkeep (halloc2 _ _ (by simp; done)))); (try clear rrB rrL rrN rr0 rr1 rr2 rr3 rrf0 rrf1 rrf2 rrf3); have rrB : Hid (w5.heap[W.heap.size]? = some (.cells #[.bool y, .string c, .string n, .string ds] 63 (0, 0))) := rrd; have rr0 : w5.cell? ⟨W.heap.size, 0, none⟩ = some (.bool y) := (cell_of_row w5 (W.heap.size) 0 _ _ _ rrd).trans rfl; have rrf0 := frozen_of_row w5 (W.heap.size) 0 _ _ rrd; have rr1 : w5.cell? ⟨W.heap.size, 1, none⟩ = some (.string c) := (cell_of_row w5 (W.heap.size) 1 _ _ _ rrd).trans rfl; have rrf1 := frozen_of_row w5 (W.heap.size) 1 _ _ rrd; have rr2 : w5.cell? ⟨W.heap.size, 2, none⟩ = some (.string n) := (cell_of_row w5 (W.heap.size) 2 _ _ _ rrd).trans rfl; have rrf2 := frozen_of_row w5 (W.heap.size) 2 _ _ rrd; have rr3 : w5.cell? ⟨W.heap.size, 3, none⟩ = some (.string ds) := (cell_of_row w5 (W.heap.size) 3 _ _ _ rrd).trans rfl; have rrf3 := frozen_of_row w5 (W.heap.size) 3 _ _ rrd; have rrL : W.heap.size < w5.heap.size := (Array.getElem?_eq_some_iff.1 rrd).1; have rrN : ¬ W.heap.size = w5.heap.size := (by omega); clear rrd; have mmd : w5.heap[w3.heap.size]? = some (.cells #[.int .i64 m1, .int .i64 m2] 38 (0, 0)) := (hb.block (w3.heap.size) (by first | omega | (simp; try omega))).trans (by first | exact halloc2 _ _ (by simp; done) | exact heap_alloc2_old _ _ _ | exact heap_alloc2_new _ _ _ | exact mmB.out | exact hkeep mmB.out | exact hkeep (hkeep mmB.out) | exact hkeep (halloc2 _ _ (by simp; done)) | exact hkeep (hkeep (halloc2 _ _ (by simp; done)))); (try clear mmB mmL mmN mm0 mm1 mmf0 mmf1); have mmB : Hid (w5.heap[w3.heap.size]? = some (.cells #[.int .i64 m1, .int .i64 m2] 38 (0, 0))) := mmd; have mm0 : w5.cell? ⟨w3.heap.size, 0, none⟩ = some (.int .i64 m1) := (cell_of_row w5 (w3.heap.size) 0 _ _ _ mmd).trans rfl; have mmf0 := frozen_of_row w5 (w3.heap.size) 0 _ _ mmd; have mm1 : w5.cell? ⟨w3.heap.size, 1, none⟩ = some (.int .i64 m2) := (cell_of_row w5 (w3.heap.size) 1 _ _ _ mmd).trans rfl; have mmf1 := frozen_of_row w5 (w3.heap.size) 1 _ _ mmd; have mmL : w3.heap.size < w5.heap.size := (Array.getElem?_eq_some_iff.1 mmd).1; have mmN : ¬ w3.heap.size = w5.heap.size := (by omega); clear mmd; have ttd : w5.heap[w4.heap.size]? = some (.cells #[.int .i64 t1, .string t2] 24 (0, 0)) := (hb.block (w4.heap.size) (by first | omega | (simp; try omega))).trans (by first | exact halloc2 _ _ (by simp; done) | exact heap_alloc2_old _ _ _ | exact heap_alloc2_new _ _ _ | exact ttB.out | exact hkeep ttB.out | exact hkeep (hkeep ttB.out) | exact hkeep (halloc2 _ _ (by simp; done)) | exact hkeep (hkeep (halloc2 _ _ (by simp; done)))); (try clear ttB ttL ttN tt0 tt1 ttf0 ttf1); have ttB : Hid (w5.heap[w4.heap.size]? = some (.cells #[.int .i64 t1, .string t2] 24 (0, 0))) := ttd; have tt0 : w5.cell? ⟨w4.heap.size, 0, none⟩ = some (.int .i64 t1) := (cell_of_row w5 (w4.heap.size) 0 _ _ _ ttd).trans rfl; have ttf0 := frozen_of_row w5 (w4.heap.size) 0 _ _ ttd; have tt1 : w5.cell? ⟨w4.heap.size, 1, none⟩ = some (.string t2) := (cell_of_row w5 (w4.heap.size) 1 _ _ _ ttd).trans rfl; have ttf1 := frozen_of_row w5 (w4.heap.size) 1 _ _ ttd; have ttL : w4.heap.size < w5.heap.size := (Array.getElem?_eq_some_iff.1 ttd).1; have ttN : ¬ w4.heap.size = w5.heap.size := (by omega); clear ttd; have HH2 := (HH.out.below ((Below.refl _ w4).alloc (Nat.le_refl _) _)).below hb; clear HH; have HH : Hid (WAt b ps w5) := HH2; have BB2 : Below W.heap.size W w5 := bstep (BB.out.alloc BB.out.size _) hb; clear BB; have BB : Hid (Below W.heap.size W w5) := BB2; clear hb BB2 HH2; clear HX)
    | (go_at_call 57; refine (HH1.out _ _ (HH.out.below ((Below.refl _ w5).alloc (Nat.le_refl _) _))).mono ?_; rintro e w6 ⟨rfl, hb⟩; have rrd : w6.heap[W.heap.size]? = some (.cells #[.bool y, .string c, .string n, .string ds] 63 (0, 0)) := (hb.block (W.heap.size) (by first | omega | (simp; try omega))).trans (by first | exact halloc2 _ _ (by simp; done) | exact heap_alloc2_old _ _ _ | exact heap_alloc2_new _ _ _ | exact rrB.out | exact hkeep rrB.out | exact hkeep (hkeep rrB.out) | exact hkeep (halloc2 _ _ (by simp; done)) | exact hkeep (hkeep (halloc2 _ _ (by simp; done)))); (try clear rrB rrL rrN rr0 rr1 rr2 rr3 rrf0 rrf1 rrf2 rrf3); have rrB : Hid (w6.heap[W.heap.size]? = some (.cells #[.bool y, .string c, .string n, .string ds] 63 (0, 0))) := rrd; have rr0 : w6.cell? ⟨W.heap.size, 0, none⟩ = some (.bool y) := (cell_of_row w6 (W.heap.size) 0 _ _ _ rrd).trans rfl; have rrf0 := frozen_of_row w6 (W.heap.size) 0 _ _ rrd; have rr1 : w6.cell? ⟨W.heap.size, 1, none⟩ = some (.string c) := (cell_of_row w6 (W.heap.size) 1 _ _ _ rrd).trans rfl; have rrf1 := frozen_of_row w6 (W.heap.size) 1 _ _ rrd; have rr2 : w6.cell? ⟨W.heap.size, 2, none⟩ = some (.string n) := (cell_of_row w6 (W.heap.size) 2 _ _ _ rrd).trans rfl; have rrf2 := frozen_of_row w6 (W.heap.size) 2 _ _ rrd; have rr3 : w6.cell? ⟨W.heap.size, 3, none⟩ = some (.string ds) := (cell_of_row w6 (W.heap.size) 3 _ _ _ rrd).trans rfl; have rrf3 := frozen_of_row w6 (W.heap.size) 3 _ _ rrd; have rrL : W.heap.size < w6.heap.size := (Array.getElem?_eq_some_iff.1 rrd).1; have rrN : ¬ W.heap.size = w6.heap.size := (by omega); clear rrd; have mmd : w6.heap[w3.heap.size]? = some (.cells #[.int .i64 m1, .int .i64 m2] 38 (0, 0)) := (hb.block (w3.heap.size) (by first | omega | (simp; try omega))).trans (by first | exact halloc2 _ _ (by simp; done) | exact heap_alloc2_old _ _ _ | exact heap_alloc2_new _ _ _ | exact mmB.out | exact hkeep mmB.out | exact hkeep (hkeep mmB.out) | exact hkeep (halloc2 _ _ (by simp; done)) | exact hkeep (hkeep (halloc2 _ _ (by simp; done)))); (try clear mmB mmL mmN mm0 mm1 mmf0 mmf1); have mmB : Hid (w6.heap[w3.heap.size]? = some (.cells #[.int .i64 m1, .int .i64 m2] 38 (0, 0))) := mmd; have mm0 : w6.cell? ⟨w3.heap.size, 0, none⟩ = some (.int .i64 m1) := (cell_of_row w6 (w3.heap.size) 0 _ _ _ mmd).trans rfl; have mmf0 := frozen_of_row w6 (w3.heap.size) 0 _ _ mmd; have mm1 : w6.cell? ⟨w3.heap.size, 1, none⟩ = some (.int .i64 m2) := (cell_of_row w6 (w3.heap.size) 1 _ _ _ mmd).trans rfl; have mmf1 := frozen_of_row w6 (w3.heap.size) 1 _ _ mmd; have mmL : w3.heap.size < w6.heap.size := (Array.getElem?_eq_some_iff.1 mmd).1; have mmN : ¬ w3.heap.size = w6.heap.size := (by omega); clear mmd; have ttd : w6.heap[w4.heap.size]? = some (.cells #[.int .i64 t1, .string t2] 24 (0, 0)) := (hb.block (w4.heap.size) (by first | omega | (simp; try omega))).trans (by first | exact halloc2 _ _ (by simp; done) | exact heap_alloc2_old _ _ _ | exact heap_alloc2_new _ _ _ | exact ttB.out | exact hkeep ttB.out | exact hkeep (hkeep ttB.out) | exact hkeep (halloc2 _ _ (by simp; done)) | exact hkeep (hkeep (halloc2 _ _ (by simp; done)))); (try clear ttB ttL ttN tt0 tt1 ttf0 ttf1); have ttB : Hid (w6.heap[w4.heap.size]? = some (.cells #[.int .i64 t1, .string t2] 24 (0, 0))) := ttd; have tt0 : w6.cell? ⟨w4.heap.size, 0, none⟩ = some (.int .i64 t1) := (cell_of_row w6 (w4.heap.size) 0 _ _ _ ttd).trans rfl; have ttf0 := frozen_of_row w6 (w4.heap.size) 0 _ _ ttd; have tt1 : w6.cell? ⟨w4.heap.size, 1, none⟩ = some (.string t2) := (cell_of_row w6 (w4.heap.size) 1 _ _ _ ttd).trans rfl; have ttf1 := frozen_of_row w6 (w4.heap.size) 1 _ _ ttd; have ttL : w4.heap.size < w6.heap.size := (Array.getElem?_eq_some_iff.1 ttd).1; have ttN : ¬ w4.heap.size = w6.heap.size := (by omega); clear ttd; have xxd : w6.heap[w5.heap.size]? = some (.cells #[.string n, .string ds, .int .i64 xf, .int .i64 xl, .int .i64 xs, .slice xa xk xc] 47 (0, 0)) := (hb.block (w5.heap.size) (by first | omega | (simp; try omega))).trans (by first | exact halloc2 _ _ (by simp; done) | exact heap_alloc2_old _ _ _ | exact heap_alloc2_new _ _ _ | exact xxB.out | exact hkeep xxB.out | exact hkeep (hkeep xxB.out) | exact hkeep (halloc2 _ _ (by simp; done)) | exact hkeep (hkeep (halloc2 _ _ (by simp; done)))); (try clear xxB xxL xxN xx0 xx1 xx2 xx3 xx4 xx5 xxf0 xxf1 xxf2 xxf3 xxf4 xxf5); have xxB : Hid (w6.heap[w5.heap.size]? = some (.cells #[.string n, .string ds, .int .i64 xf, .int .i64 xl, .int .i64 xs, .slice xa xk xc] 47 (0, 0))) := xxd; have xx0 : w6.cell? ⟨w5.heap.size, 0, none⟩ = some (.string n) := (cell_of_row w6 (w5.heap.size) 0 _ _ _ xxd).trans rfl; have xxf0 := frozen_of_row w6 (w5.heap.size) 0 _ _ xxd; have xx1 : w6.cell? ⟨w5.heap.size, 1, none⟩ = some (.string ds) := (cell_of_row w6 (w5.heap.size) 1 _ _ _ xxd).trans rfl; have xxf1 := frozen_of_row w6 (w5.heap.size) 1 _ _ xxd; have xx2 : w6.cell? ⟨w5.heap.size, 2, none⟩ = some (.int .i64 xf) := (cell_of_row w6 (w5.heap.size) 2 _ _ _ xxd).trans rfl; have xxf2 := frozen_of_row w6 (w5.heap.size) 2 _ _ xxd; have xx3 : w6.cell? ⟨w5.heap.size, 3, none⟩ = some (.int .i64 xl) := (cell_of_row w6 (w5.heap.size) 3 _ _ _ xxd).trans rfl; have xxf3 := frozen_of_row w6 (w5.heap.size) 3 _ _ xxd; have xx4 : w6.cell? ⟨w5.heap.size, 4, none⟩ = some (.int .i64 xs) := (cell_of_row w6 (w5.heap.size) 4 _ _ _ xxd).trans rfl; have xxf4 := frozen_of_row w6 (w5.heap.size) 4 _ _ xxd; have xx5 : w6.cell? ⟨w5.heap.size, 5, none⟩ = some (.slice xa xk xc) := (cell_of_row w6 (w5.heap.size) 5 _ _ _ xxd).trans rfl; have xxf5 := frozen_of_row w6 (w5.heap.size) 5 _ _ xxd; have xxL : w5.heap.size < w6.heap.size := (Array.getElem?_eq_some_iff.1 xxd).1; have xxN : ¬ w5.heap.size = w6.heap.size := (by omega); clear xxd; have HH2 := (HH.out.below ((Below.refl _ w5).alloc (Nat.le_refl _) _)).below hb; clear HH; have HH : Hid (WAt b ps w6) := HH2; have BB2 : Below W.heap.size W w6 := bstep (BB.out.alloc BB.out.size _) hb; clear BB; have BB : Hid (Below W.heap.size W w6) := BB2; clear hb BB2 HH2; clear HH1)
    | (go_at_call 34; refine (HE.out _ _ HH.out).mono ?_; rintro e w7 ⟨rfl, hb⟩; have rrd : w7.heap[W.heap.size]? = some (.cells #[.bool y, .string c, .string n, .string ds] 63 (0, 0)) := (hb.block (W.heap.size) (by first | omega | (simp; try omega))).trans (by first | exact halloc2 _ _ (by simp; done) | exact heap_alloc2_old _ _ _ | exact heap_alloc2_new _ _ _ | exact rrB.out | exact hkeep rrB.out | exact hkeep (hkeep rrB.out) | exact hkeep (halloc2 _ _ (by simp; done)) | exact hkeep (hkeep (halloc2 _ _ (by simp; done)))); (try clear rrB rrL rrN rr0 rr1 rr2 rr3 rrf0 rrf1 rrf2 rrf3); have rrB : Hid (w7.heap[W.heap.size]? = some (.cells #[.bool y, .string c, .string n, .string ds] 63 (0, 0))) := rrd; have rr0 : w7.cell? ⟨W.heap.size, 0, none⟩ = some (.bool y) := (cell_of_row w7 (W.heap.size) 0 _ _ _ rrd).trans rfl; have rrf0 := frozen_of_row w7 (W.heap.size) 0 _ _ rrd; have rr1 : w7.cell? ⟨W.heap.size, 1, none⟩ = some (.string c) := (cell_of_row w7 (W.heap.size) 1 _ _ _ rrd).trans rfl; have rrf1 := frozen_of_row w7 (W.heap.size) 1 _ _ rrd; have rr2 : w7.cell? ⟨W.heap.size, 2, none⟩ = some (.string n) := (cell_of_row w7 (W.heap.size) 2 _ _ _ rrd).trans rfl; have rrf2 := frozen_of_row w7 (W.heap.size) 2 _ _ rrd; have rr3 : w7.cell? ⟨W.heap.size, 3, none⟩ = some (.string ds) := (cell_of_row w7 (W.heap.size) 3 _ _ _ rrd).trans rfl; have rrf3 := frozen_of_row w7 (W.heap.size) 3 _ _ rrd; have rrL : W.heap.size < w7.heap.size := (Array.getElem?_eq_some_iff.1 rrd).1; have rrN : ¬ W.heap.size = w7.heap.size := (by omega); clear rrd; have mmd : w7.heap[w3.heap.size]? = some (.cells #[.int .i64 m1, .int .i64 m2] 38 (0, 0)) := (hb.block (w3.heap.size) (by first | omega | (simp; try omega))).trans (by first | exact halloc2 _ _ (by simp; done) | exact heap_alloc2_old _ _ _ | exact heap_alloc2_new _ _ _ | exact mmB.out | exact hkeep mmB.out | exact hkeep (hkeep mmB.out) | exact hkeep (halloc2 _ _ (by simp; done)) | exact hkeep (hkeep (halloc2 _ _ (by simp; done)))); (try clear mmB mmL mmN mm0 mm1 mmf0 mmf1); have mmB : Hid (w7.heap[w3.heap.size]? = some (.cells #[.int .i64 m1, .int .i64 m2] 38 (0, 0))) := mmd; have mm0 : w7.cell? ⟨w3.heap.size, 0, none⟩ = some (.int .i64 m1) := (cell_of_row w7 (w3.heap.size) 0 _ _ _ mmd).trans rfl; have mmf0 := frozen_of_row w7 (w3.heap.size) 0 _ _ mmd; have mm1 : w7.cell? ⟨w3.heap.size, 1, none⟩ = some (.int .i64 m2) := (cell_of_row w7 (w3.heap.size) 1 _ _ _ mmd).trans rfl; have mmf1 := frozen_of_row w7 (w3.heap.size) 1 _ _ mmd; have mmL : w3.heap.size < w7.heap.size := (Array.getElem?_eq_some_iff.1 mmd).1; have mmN : ¬ w3.heap.size = w7.heap.size := (by omega); clear mmd; have ttd : w7.heap[w4.heap.size]? = some (.cells #[.int .i64 t1, .string t2] 24 (0, 0)) := (hb.block (w4.heap.size) (by first | omega | (simp; try omega))).trans (by first | exact halloc2 _ _ (by simp; done) | exact heap_alloc2_old _ _ _ | exact heap_alloc2_new _ _ _ | exact ttB.out | exact hkeep ttB.out | exact hkeep (hkeep ttB.out) | exact hkeep (halloc2 _ _ (by simp; done)) | exact hkeep (hkeep (halloc2 _ _ (by simp; done)))); (try clear ttB ttL ttN tt0 tt1 ttf0 ttf1); have ttB : Hid (w7.heap[w4.heap.size]? = some (.cells #[.int .i64 t1, .string t2] 24 (0, 0))) := ttd; have tt0 : w7.cell? ⟨w4.heap.size, 0, none⟩ = some (.int .i64 t1) := (cell_of_row w7 (w4.heap.size) 0 _ _ _ ttd).trans rfl; have ttf0 := frozen_of_row w7 (w4.heap.size) 0 _ _ ttd; have tt1 : w7.cell? ⟨w4.heap.size, 1, none⟩ = some (.string t2) := (cell_of_row w7 (w4.heap.size) 1 _ _ _ ttd).trans rfl; have ttf1 := frozen_of_row w7 (w4.heap.size) 1 _ _ ttd; have ttL : w4.heap.size < w7.heap.size := (Array.getElem?_eq_some_iff.1 ttd).1; have ttN : ¬ w4.heap.size = w7.heap.size := (by omega); clear ttd; have HH2 := (HH.out).below hb; clear HH; have HH : Hid (WAt b ps w7) := HH2; have BB2 : Below W.heap.size W w7 := bstep (BB.out) hb; clear BB; have BB : Hid (Below W.heap.size W w7) := BB2; clear hb BB2 HH2; clear HE))
    obtain ⟨σ, V, hne, V1, V2⟩ := class_of' (fun w' => Below w7.heap.size w7 w') ⟨_, Below.refl _ _⟩
    have HFs : Hid (∀ s, Calls Tryz.prog 58 #[.pointer (some ⟨b, 0, none⟩), .int .i64 h1] (V s) fun e w'' => e = .returned (.bool y) ∧ ∃ s', w'' = V s') := fun s => (HF.out _ _ (HH.out.below (V1.out s))).mono fun e w'' zz => ⟨zz.1, V2.out _ (bstep (V1.out s) zz.2)⟩
    have cT := fun s => ((V1.out s).cell (p := ⟨w4.heap.size, 0, none⟩) ttL).trans tt0
    have cR := fun s => ((V1.out s).cell (p := ⟨W.heap.size, 0, none⟩) rrL).trans rr0
    have VH : Hid (∀ s, WAt b ps (V s)) := fun s => HH.out.below (V1.out s)
    have VB : Hid (∀ s, Below W.heap.size W (V s)) := fun s => bstep BB.out (V1.out s)
    cases hz : (t1 == 0)
    all_goals
      refine wp_region_class (C := fun w' => ∃ s, w' = V s) (by kernel_rfl) (by kernel_rfl) (V2.out _ ((Below.refl _ _).drew)) ?_
      repeat (go_big_quiet_step (first | (go_at_call 58; exact HFs.out _)))
      refine wpQuiet_nil ?_
      intro w8 hw8
      obtain ⟨s8, hs8⟩ := hw8
      have hb : Below w7.heap.size w7 w8 := by rw [hs8]; exact V1.out s8
      have HH8 : Hid (WAt b ps w8) := by rw [hs8]; exact VH.out s8
      have BB8 : Hid (Below W.heap.size W w8) := by rw [hs8]; exact VB.out s8
      clear HH BB VH VB cT cR HFs V1 V2 hs8 HF
      have HH := HH8
      have BB := BB8
      clear HH8 BB8
      have mmd : w8.heap[w3.heap.size]? = some (.cells #[.int .i64 m1, .int .i64 m2] 38 (0, 0)) := (hb.block (w3.heap.size) (by first | omega | (simp; try omega))).trans (by first | exact halloc2 _ _ (by simp; done) | exact heap_alloc2_old _ _ _ | exact heap_alloc2_new _ _ _ | exact mmB.out | exact hkeep mmB.out | exact hkeep (hkeep mmB.out) | exact hkeep (halloc2 _ _ (by simp; done)) | exact hkeep (hkeep (halloc2 _ _ (by simp; done)))); (try clear mmB mmL mmN mm0 mm1 mmf0 mmf1); have mmB : Hid (w8.heap[w3.heap.size]? = some (.cells #[.int .i64 m1, .int .i64 m2] 38 (0, 0))) := mmd; have mm0 : w8.cell? ⟨w3.heap.size, 0, none⟩ = some (.int .i64 m1) := (cell_of_row w8 (w3.heap.size) 0 _ _ _ mmd).trans rfl; have mmf0 := frozen_of_row w8 (w3.heap.size) 0 _ _ mmd; have mm1 : w8.cell? ⟨w3.heap.size, 1, none⟩ = some (.int .i64 m2) := (cell_of_row w8 (w3.heap.size) 1 _ _ _ mmd).trans rfl; have mmf1 := frozen_of_row w8 (w3.heap.size) 1 _ _ mmd; have mmL : w3.heap.size < w8.heap.size := (Array.getElem?_eq_some_iff.1 mmd).1; have mmN : ¬ w3.heap.size = w8.heap.size := (by omega); clear mmd
      have ttd : w8.heap[w4.heap.size]? = some (.cells #[.int .i64 t1, .string t2] 24 (0, 0)) := (hb.block (w4.heap.size) (by first | omega | (simp; try omega))).trans (by first | exact halloc2 _ _ (by simp; done) | exact heap_alloc2_old _ _ _ | exact heap_alloc2_new _ _ _ | exact ttB.out | exact hkeep ttB.out | exact hkeep (hkeep ttB.out) | exact hkeep (halloc2 _ _ (by simp; done)) | exact hkeep (hkeep (halloc2 _ _ (by simp; done)))); (try clear ttB ttL ttN tt0 tt1 ttf0 ttf1); have ttB : Hid (w8.heap[w4.heap.size]? = some (.cells #[.int .i64 t1, .string t2] 24 (0, 0))) := ttd; have tt0 : w8.cell? ⟨w4.heap.size, 0, none⟩ = some (.int .i64 t1) := (cell_of_row w8 (w4.heap.size) 0 _ _ _ ttd).trans rfl; have ttf0 := frozen_of_row w8 (w4.heap.size) 0 _ _ ttd; have tt1 : w8.cell? ⟨w4.heap.size, 1, none⟩ = some (.string t2) := (cell_of_row w8 (w4.heap.size) 1 _ _ _ ttd).trans rfl; have ttf1 := frozen_of_row w8 (w4.heap.size) 1 _ _ ttd; have ttL : w4.heap.size < w8.heap.size := (Array.getElem?_eq_some_iff.1 ttd).1; have ttN : ¬ w4.heap.size = w8.heap.size := (by omega); clear ttd
      clear hb rrB rr0 rr1 rr2 rr3 rrf0 rrf1 rrf2 rrf3 rrL rrN
      go_wp2_with (first
        | (go_at_call 23; refine (HO.out _ _ HH.out).mono ?_; rintro e w9 ⟨rfl, hb⟩; have ttd : w9.heap[w4.heap.size]? = some (.cells #[.int .i64 t1, .string t2] 24 (0, 0)) := (hb.block (w4.heap.size) (by first | omega | (simp; try omega))).trans (by first | exact halloc2 _ _ (by simp; done) | exact heap_alloc2_old _ _ _ | exact heap_alloc2_new _ _ _ | exact ttB.out | exact hkeep ttB.out | exact hkeep (hkeep ttB.out) | exact hkeep (halloc2 _ _ (by simp; done)) | exact hkeep (hkeep (halloc2 _ _ (by simp; done)))); (try clear ttB ttL ttN tt0 tt1 ttf0 ttf1); have ttB : Hid (w9.heap[w4.heap.size]? = some (.cells #[.int .i64 t1, .string t2] 24 (0, 0))) := ttd; have tt0 : w9.cell? ⟨w4.heap.size, 0, none⟩ = some (.int .i64 t1) := (cell_of_row w9 (w4.heap.size) 0 _ _ _ ttd).trans rfl; have ttf0 := frozen_of_row w9 (w4.heap.size) 0 _ _ ttd; have tt1 : w9.cell? ⟨w4.heap.size, 1, none⟩ = some (.string t2) := (cell_of_row w9 (w4.heap.size) 1 _ _ _ ttd).trans rfl; have ttf1 := frozen_of_row w9 (w4.heap.size) 1 _ _ ttd; have ttL : w4.heap.size < w9.heap.size := (Array.getElem?_eq_some_iff.1 ttd).1; have ttN : ¬ w4.heap.size = w9.heap.size := (by omega); clear ttd; have HH2 := (HH.out).below hb; clear HH; have HH : Hid (WAt b ps w9) := HH2; have BB2 : Below W.heap.size W w9 := bstep (BB.out) hb; clear BB; have BB : Hid (Below W.heap.size W w9) := BB2; clear hb BB2 HH2; clear HO)
        | (go_at_call 59; refine (HT.out _ _ HH.out).mono ?_; rintro e w10 ⟨rfl, hb⟩; have HH2 := (HH.out).below hb; clear HH; have HH : Hid (WAt b ps w10) := HH2; have BB2 : Below W.heap.size W w10 := bstep (BB.out) hb; clear BB; have BB : Hid (Below W.heap.size W w10) := BB2; clear hb BB2 HH2; clear HT))
      all_goals go_ret
      all_goals exact ⟨retB (by simp [*]), (by repeat (first | exact BB.out | exact Below.refl _ _ | refine Below.setCell ?_ (by simp; try omega) _ | refine Below.alloc ?_ (by have := BB.out.size; simp; try omega) _ | refine Below.drew ?_))⟩
theorem ResolveSound_any (v : Value) (l : List Cls) (d : Int) (y : Bool) (c n ds : ByteArray) (W : World) (h : IsClss W v l) (hc : c.size ≤ maxLen) (hn : n.size ≤ maxLen) (hd : ds.size ≤ maxLen) : Calls Tryz.prog 10 #[v, .int .i64 d, .agg #[.bool y, .string c, .string n, .string ds]] W fun e w' => e = .returned (.bool true) ∧ Below W.heap.size W w' := by
  by_cases he : (metR (wld l) d y c n ds).2 = 0
  · exact sound_ok v l _ rfl d y c n ds W h hc hn hd (metR (wld l) d y c n ds).1.1 (metR (wld l) d y c n ds).1.2 (Prod.ext rfl he)
  · exact sound_err v l _ rfl d y c n ds W h hc hn hd he
end Go.Proofs.YtgppadlkollfaaaGreat
