/- The walks of the reader's takeCode, and of take where the last method is written. -/
import Derived.Test.YtfbhjfpkhofifaaGreatDoorRdF
import Derived.Deep.AppendLies
import Derived.Deep.RegionHeld3
import Derived.Deep.RegionLaw
namespace Go.Proofs.YtfbhjfpkhofifaaGreatDoor
open Go.RowKit

theorem own_slc {w : World} {N e s : Nat} {v : Value} {n : Nat} {xs : List Value} (h : w.ownsRow N e s v n xs) : ∃ va cap, v = .slice va n cap := by
  rcases h.2 with ⟨h1, h2⟩ | ⟨g, cap, _, h1, _⟩
  · exact ⟨none, 0, by rw [h1, h2]⟩
  · exact ⟨_, _, h1⟩
theorem took_mono {W : World} {b : Nat} {r r' : Option (Nat × Cls)} {e : Ending} {w' : World} (h : Took W b r e w') (he : r = r') : Took W b r' e w' := he ▸ h
/-- behind an append to the interfaces -/
theorem if_rel {W w1 w2 : World} {b : Nat} {cs : Array Value} {vi vi' vm : Value} {c : Cls} {pm : List (Mth × Value)} {B : Nat} {o : Obj} {p : List UInt8} (hb : Below W.heap.size W w1) (hh : w1.heap[b]? = some (.cells cs 123 (0, 0))) (hr : RowC w1 W.heap.size vi vm c pm B)
    (hg : (w1.alloc o).grownBy w2 vi.ownBlock) (ho : w2.ownsRow W.heap.size 9 1 vi' (c.ifs.length + 1) (c.ifs.map strV ++ [strV p])) :
    w2.heap[b]? = some (.cells cs 123 (0, 0)) ∧ RowC w2 W.heap.size vi' vm { c with ifs := c.ifs ++ [p] } pm B ∧ Below W.heap.size W w2 := by
  have hlt : b < w1.heap.size := (Array.getElem?_eq_some_iff.1 hh).1
  have ha : (w1.alloc o).heap[b]? = some (.cells cs 123 (0, 0)) := ((World.grownBy_alloc w1 o none).block b hlt (by simp)).trans hh
  have hra : RowC (w1.alloc o) W.heap.size vi vm c pm B := hr.below ((Below.refl _ _).alloc (Nat.le_refl _) _)
  refine ⟨?_, hra.iface hg ho, ?_⟩
  · rw [hg.block b (by simp; omega) (row_blk hra.ifs ha (by decide))]; exact ha
  · exact (hb.alloc hb.size o).grown hg (by have := hb.size; simp; omega) (fun k hk => (hr.ifs.lt k hk).1)

set_option maxRecDepth 100000 in
set_option maxHeartbeats 2000000 in
theorem takeIface_any (W w : World) (b : Nat) (c : Cls) (s : ByteArray) (hs : s.size ≤ 40000) (hG : GP W) (hb : Below W.heap.size W w) (hr : Rdr w W.heap.size b 2 c) (hk : c.ifs.length ≤ 50000) :
    Calls Tryz.prog 157 #[.pointer (some ⟨b, 0, none⟩), .string s] w fun e w' => Took W b (if rnB s.data.toList wIface then some (2, { c with ifs := c.ifs ++ [rnS s.data.toList wIface] }) else none) e w' := by
  obtain ⟨i0, hi, hz0, hz1, hz2⟩ := info_parts Tryz.info9
  obtain ⟨vi, vm, pm, B, hNb, hh, hR⟩ := hr
  have hlt : b < w.heap.size := (Array.getElem?_eq_some_iff.1 hh).1
  have HC : Hid (Calls Tryz.prog 124 _ w _) := rdName_any s ⟨#[105, 102, 97, 99, 101]⟩ hs (by decide) w (hG.keep hb).2.2.2
  have hw : (⟨#[105, 102, 97, 99, 101]⟩ : ByteArray).data.toList = wIface := rfl
  rw [hw] at HC
  clear hw
  have HR : Hid _ := hR
  have HB : Hid _ := hb
  have hbs := hb.size
  clear hR hG hs hb
  obtain ⟨RR, hRR⟩ : ∃ r, (if rnB s.data.toList wIface then some (2, { c with ifs := c.ifs ++ [rnS s.data.toList wIface] }) else none) = r := ⟨_, rfl⟩
  rw [hRR]
  have HRR : Hid _ := hRR
  clear hRR
  obtain ⟨P, hP⟩ : ∃ P : ByteArray, P = ⟨(rnS s.data.toList wIface).toArray⟩ := ⟨_, rfl⟩
  have HPV : Hid (Value.string P = strV (rnS s.data.toList wIface)) := by rw [Hid, hP]; rfl
  rw [← hP] at HC
  clear hP
  generalize rnS s.data.toList wIface = nm at *
  go_enter Tryz.func157, Tryz.ntmps157
  go_wp2_with (first
    | (go_at_call 124; refine HC.out.mono ?_; rintro e w1 ⟨⟨er, rfl, her⟩, hb1⟩; have HER : Hid (if rnB s.data.toList wIface = true then er = .nilIface else ErrV er) := her; have hb2 := hb1.block b hlt; rw [hh] at hb2; have z3 := cell_of_row w1 b 3 _ _ _ hb2; simp only [List.getElem?_toArray, List.getElem?_cons_zero, List.getElem?_cons_succ] at z3; have HH : Hid _ := hb2; have B1 : Hid (Below W.heap.size W w1) := Below.step HB.out hb1; have R1 : Hid _ := HR.out.below hb1; have hs1 := B1.out.size; clear hb2 hb1 HC her HB HR)
    | (at_builtin; refine wpList_append_own _ rfl _ _ 22 rfl W.heap.size 9 i0 (.string ⟨#[]⟩) 1 16 Tryz.underlying22 hi hz0 hz1 hz2 rfl (by decide) _ _ _ rfl (R1.out.ifs.alloc _) ⟨w1.heap.size, 0, none⟩ 1 1 [.string P] rfl rfl ?c1 ?c2 ?c3 ?c4 ?c5 ?_))
  case c1 => exact cell_one_new _ _ _
  case c2 => intro u hu; simp at hu; subst hu; rfl
  case c3 => unfold maxLen; omega
  case c4 => omega
  case c5 => simp; omega
  · intro v' w2 hown' hgrow _
    obtain ⟨va', vcap', rfl⟩ := own_slc hown'
    rw [HPV.out] at hown'
    obtain ⟨q1, q2, q3⟩ := if_rel B1.out HH.out R1.out hgrow hown'
    have z3' := cell_of_row w2 b 3 _ _ _ q1
    have y3' := frozen_of_row w2 b 3 _ _ q1
    simp only [List.getElem?_toArray, List.getElem?_cons_zero, List.getElem?_cons_succ] at z3'
    have Q1 : Hid _ := q1
    have Q2 : Hid _ := q2
    have Q3 : Hid _ := q3
    clear q1 q2 q3 hown' hgrow HH R1 B1 z3
    go_wp2
    go_ret
    obtain ⟨h1, r1⟩ := rd_set Q1.out Q2.out 3 (.slice va' (c.ifs.length + 1) vcap')
    refine took_mono ?_ HRR.out
    cases hq : rnB s.data.toList wIface with
    | false =>
      have := HER.out
      rw [hq] at this
      exact took_no this (below_set Q3.out hNb _ _)
    | true =>
      have := HER.out
      rw [hq] at this
      simp only [if_true] at this
      subst this
      exact took_yes ⟨_, vm, pm, B, hNb, h1, r1⟩ (below_set Q3.out hNb _ _)

set_option maxRecDepth 100000 in
set_option maxHeartbeats 2000000 in
theorem takeFlags_any (W w : World) (b : Nat) (c : Cls) (s : ByteArray) (hs : s.size ≤ 40000) (hG : GP W) (hb : Below W.heap.size W w) (hr : Rdr w W.heap.size b 2 c) :
    Calls Tryz.prog 158 #[.pointer (some ⟨b, 0, none⟩), .string s] w fun e w' => Took W b (if (fstW s.data.toList == wFlags) && fgB clsP (restW s.data.toList) then some (3, { c with fl := fgN clsP (restW s.data.toList) }) else none) e w' := by
  obtain ⟨vi, vm, pm, B, hNb, hh, hR⟩ := hr
  have hlt : b < w.heap.size := (Array.getElem?_eq_some_iff.1 hh).1
  have hG' := hG.keep hb
  have HC : Hid (Calls Tryz.prog 155 _ w _) := cutWord_w s ⟨#[102, 108, 97, 103, 115]⟩ (by decide) w hG'.2.2.2.1
  have hw : (⟨#[102, 108, 97, 103, 115]⟩ : ByteArray).data.toList = wFlags := rfl
  rw [hw] at HC
  clear hw
  have HR : Hid _ := hR
  have HB : Hid _ := hb
  cases hq : (fstW s.data.toList == wFlags) with
  | false =>
    simp only [hq] at HC
    clear hR hG hs hb hG'
    go_enter Tryz.func158, Tryz.ntmps158
    go_wp2_with (go_at_call 155; refine HC.out.mono ?_; rintro e w1 ⟨⟨er, rfl, tp, a, rfl⟩, hb1⟩; clear HC)
    go_ret
    exact took_no ⟨tp, a, rfl⟩ (Below.step HB.out hb1)
  | true =>
    rw [hq] at HC
    simp only [if_true, Bool.true_and] at HC ⊢
    have hd3 : (⟨(restW s.data.toList).toArray⟩ : ByteArray).data.toList = restW s.data.toList := by simp
    have hr := (rest_len s.data.toList).1
    rw [bsize] at hr
    have HF : Hid _ := fun (w' : World) (h : Below w.heap.size w w') => readFlagsClass_any ⟨(restW s.data.toList).toArray⟩ (by rw [mk_size]; omega) (by rw [hd3]; exact rest_head _) w' (hG'.keep h)
    rw [hd3] at HF
    clear hd3 hr hR hG hs hb hG' hq
    generalize (⟨(restW s.data.toList).toArray⟩ : ByteArray) = R at *
    cases hf : fgB clsP (restW s.data.toList) with
    | false =>
      rw [hf] at HF
      go_enter Tryz.func158, Tryz.ntmps158
      go_wp2_with (first
        | (go_at_call 155; refine HC.out.mono ?_; rintro e w1 ⟨⟨er, rfl, rfl⟩, hb1⟩; clear HC)
        | (go_at_call 182; refine (HF.out _ hb1).mono ?_; rintro e w2 ⟨⟨er, rfl, tp, a, rfl⟩, hb2⟩; have hb3 := Below.step hb1 hb2; have q1 := hb3.block b hlt; rw [hh] at q1; have z0 := cell_of_row w2 b 0 _ _ _ q1; have y0 := frozen_of_row w2 b 0 _ _ q1; have z4 := cell_of_row w2 b 4 _ _ _ q1; have y4 := frozen_of_row w2 b 4 _ _ q1; simp only [List.getElem?_toArray, List.getElem?_cons_zero, List.getElem?_cons_succ] at z0 z4; have B3 : Hid (Below w.heap.size w w2) := hb3; clear hb1 hb2 hb3 q1 HF))
      go_ret
      exact took_no ⟨tp, a, rfl⟩ (below_set (below_set (Below.step HB.out B3.out) hNb _ _) hNb _ _)
    | true =>
      rw [hf] at HF
      go_enter Tryz.func158, Tryz.ntmps158
      go_wp2_with (first
        | (go_at_call 155; refine HC.out.mono ?_; rintro e w1 ⟨⟨er, rfl, rfl⟩, hb1⟩; clear HC)
        | (go_at_call 182; refine (HF.out _ hb1).mono ?_; rintro e w2 ⟨⟨er, rfl, rfl⟩, hb2⟩; have hb3 := Below.step hb1 hb2; have q1 := hb3.block b hlt; rw [hh] at q1; have z0 := cell_of_row w2 b 0 _ _ _ q1; have y0 := frozen_of_row w2 b 0 _ _ q1; have z4 := cell_of_row w2 b 4 _ _ _ q1; have y4 := frozen_of_row w2 b 4 _ _ q1; simp only [List.getElem?_toArray, List.getElem?_cons_zero, List.getElem?_cons_succ] at z0 z4; have HH : Hid _ := q1; have B3 : Hid (Below w.heap.size w w2) := hb3; clear hb1 hb2 hb3 q1 HF))
      go_ret
      refine took_yes ?_ (below_set (below_set (Below.step HB.out B3.out) hNb _ _) hNb _ _)
      obtain ⟨h1, r1⟩ := rd_set HH.out (HR.out.below B3.out) 4 (.int .i64 (fgN clsP (restW s.data.toList)))
      obtain ⟨h2, r2⟩ := rd_set h1 r1 0 (.int .i64 3)
      exact ⟨vi, vm, pm, B, hNb, h2, r2.scal rfl rfl⟩


set_option maxRecDepth 100000 in
set_option maxHeartbeats 2000000 in
theorem takeIoF_any (W w : World) (b : Nat) (c : Cls) (s : ByteArray) (hs : s.size ≤ 40000) (hG : GP W) (hb : Below W.heap.size W w) (hr : Rdr w W.heap.size b 2 c) (hk : c.ifs.length ≤ 50000) :
    Calls Tryz.prog 125 #[.pointer (some ⟨b, 0, none⟩), .string s] w fun e w' => Took W b (stepC 2 c s.data.toList) e w' := by
  have HC : Hid (Calls Tryz.prog 155 _ w _) := cutWord_w s ⟨#[105, 102, 97, 99, 101]⟩ (by decide) w (hG.keep hb).2.2.2.1
  have hw : (⟨#[105, 102, 97, 99, 101]⟩ : ByteArray).data.toList = wIface := rfl
  rw [hw] at HC
  clear hw
  have H1 : Hid _ := fun (w' : World) (h : Below w.heap.size w w') => takeIface_any W w' b c s hs hG (Below.step hb h) (hr.keep h) hk
  have H2 : Hid _ := fun (w' : World) (h : Below w.heap.size w w') => takeFlags_any W w' b c s hs hG (Below.step hb h) (hr.keep h)
  have hst : stepC 2 c s.data.toList = if rnB s.data.toList wIface then some (2, { c with ifs := c.ifs ++ [rnS s.data.toList wIface] }) else if (fstW s.data.toList == wFlags) && fgB clsP (restW s.data.toList) then some (3, { c with fl := fgN clsP (restW s.data.toList) }) else none := rfl
  clear hr hb hG hs hk
  cases hq : (fstW s.data.toList == wIface) with
  | false =>
    have e1 : rnB s.data.toList wIface = false := by rw [rnB, hq]; rfl
    rw [e1] at hst
    have HS : Hid (_ = _) := hst.symm
    simp only [hq] at HC
    clear e1 H1 hst
    go_enter Tryz.func125, Tryz.ntmps125
    go_wp2_with (first
      | (go_at_call 155; refine HC.out.mono ?_; rintro e w1 ⟨⟨er, rfl, tp, a, rfl⟩, hb1⟩; clear HC)
      | (go_at_call 158; refine (H2.out _ hb1).mono ?_; rintro e w2 ⟨⟨er, rfl, h1⟩, h2⟩; have HE : Hid (Took W b _ (.returned er) w2) := ⟨⟨er, rfl, h1⟩, h2⟩; clear h1 h2 H2))
    go_ret
    exact took_mono HE.out HS.out
  | true =>
    have e1 : (fstW s.data.toList == wFlags) = false := by rw [eq_of_beq hq]; decide
    rw [e1] at hst
    have HS : Hid (_ = _) := hst.symm
    rw [hq] at HC
    simp only [if_true] at HC
    clear e1 H2 hst
    generalize (⟨(restW s.data.toList).toArray⟩ : ByteArray) = R at *
    go_enter Tryz.func125, Tryz.ntmps125
    go_wp2_with (first
      | (go_at_call 155; refine HC.out.mono ?_; rintro e w1 ⟨⟨er, rfl, rfl⟩, hb1⟩; clear HC)
      | (go_at_call 157; refine (H1.out _ hb1).mono ?_; rintro e w2 ⟨⟨er, rfl, h1⟩, h2⟩; have HE : Hid (Took W b _ (.returned er) w2) := ⟨⟨er, rfl, h1⟩, h2⟩; clear h1 h2 H1))
    go_ret
    exact took_mono HE.out HS.out

set_option maxRecDepth 100000 in
set_option maxHeartbeats 2000000 in
theorem take_2 (W w : World) (b : Nat) (c : Cls) (s : ByteArray) (hs : s.size ≤ 40000) (hG : GP W) (hb : Below W.heap.size W w) (hr : Rdr w W.heap.size b 2 c) (hk : c.ifs.length ≤ 50000) :
    Calls Tryz.prog 87 #[.pointer (some ⟨b, 0, none⟩), .string s] w fun e w' => Took W b (stepC 2 c s.data.toList) e w' := by
  have H1 : Hid (Calls Tryz.prog 125 _ w _) := takeIoF_any W w b c s hs hG hb hr hk
  obtain ⟨vi, vm, pm, B, hNb, hh, hR⟩ := hr
  have c0 := cell_of_row w b 0 _ _ _ hh
  simp only [List.getElem?_toArray, List.getElem?_cons_zero] at c0
  clear hR hG hs hb hh hk
  go_enter Tryz.func87, Tryz.ntmps87
  go_wp2_with (go_at_call 125; refine H1.out.mono ?_; rintro e w2 ⟨⟨er, rfl, h1⟩, h2⟩; have HE : Hid (Took W b _ (.returned er) w2) := ⟨⟨er, rfl, h1⟩, h2⟩; clear h1 h2 H1)
  go_ret
  exact HE.out


theorem Tryz.info34 : (Tryz.prog.info? 34).map (fun i => (i.zero, i.size, i.bytes)) = some (some (.agg #[.string ⟨#[]⟩, .string ⟨#[]⟩, .int .i64 0, .int .i64 0, .int .i64 0, .slice none 0 0]), 6, 80) := by kernel_rfl
theorem Tryz.info73 : (Tryz.prog.info? 73).map (fun i => (i.zero, i.size, i.bytes)) = some (some (.agg #[.int .i64 0, .int .i64 0, .string ⟨#[]⟩, .bool false, .string ⟨#[]⟩, .string ⟨#[]⟩, .string ⟨#[]⟩]), 7, 88) := by kernel_rfl
/-- behind an append to the methods -/
theorem ms_rel {W w1 w2 : World} {b : Nat} {cs mc : Array Value} {vi vm vm' : Value} {c : Cls} {pm : List (Mth × Value)} {B : Nat} {o : Obj} {m : Mth} (hb : Below W.heap.size W w1) (hh : w1.heap[b]? = some (.cells cs 123 (0, 0))) (hr : RowC w1 W.heap.size vi vm c pm B) (hm : m.code = [])
    (hg : (((w1.alloc (.cells mc 34)).drew).alloc o).grownBy w2 vm.ownBlock) (ho : w2.ownsRow W.heap.size 34 6 vm' (pm.length + 1) (flatM pm ++ mthC (m, .slice none 0 0))) :
    w2.heap[b]? = some (.cells cs 123 (0, 0)) ∧ w2.heap[w1.heap.size]? = some (.cells mc 34 (0, 0)) ∧ RowC w2 W.heap.size vi vm' { c with ms := c.ms ++ [m] } (pm ++ [(m, .slice none 0 0)]) w2.heap.size ∧ Below W.heap.size W w2 := by
  have hlt : b < w1.heap.size := (Array.getElem?_eq_some_iff.1 hh).1
  have hst : Below w1.heap.size w1 (((w1.alloc (.cells mc 34)).drew).alloc o) := (((Below.refl _ _).alloc (Nat.le_refl _) _).drew).alloc (by simp) _
  have hz : (((w1.alloc (.cells mc 34)).drew).alloc o).heap.size = w1.heap.size + 2 := by simp
  have ha : (((w1.alloc (.cells mc 34)).drew).alloc o).heap[b]? = some (.cells cs 123 (0, 0)) := (hst.block b hlt).trans hh
  have hn : (((w1.alloc (.cells mc 34)).drew).alloc o).heap[w1.heap.size]? = some (.cells mc 34 (0, 0)) := ((World.grownBy_alloc (w1.alloc (.cells mc 34)).drew o none).block w1.heap.size (by simp) (by simp)).trans (heap_alloc_new w1 _)
  have hra : RowC (((w1.alloc (.cells mc 34)).drew).alloc o) W.heap.size vi vm c pm B := hr.below hst
  have hbs := hb.size
  refine ⟨?_, ?_, hra.method hm hg ho, ?_⟩
  · rw [hg.block b (by omega) (row_blk hra.ms ha (by decide))]; exact ha
  · rw [hg.block w1.heap.size (by omega) (fun e => by have := (hr.ms.lt _ e.symm).2; omega)]; exact hn
  · exact (hb.trans (hst.mono hb.size)).grown hg (by omega) (fun k hk => (hr.ms.lt k hk).1)

theorem cell_six_at (w : World) (n : Nat) (hn : w.heap.size = n) (t : TypeId) (a0 a1 a2 a3 a4 a5 : Value) : ∀ j u, [a0, a1, a2, a3, a4, a5][j]? = some u → (w.alloc (.cells #[a0, a1, a2, a3, a4, a5] t)).cell? ((⟨n, 0, none⟩ : Addr).add j) = some u := by
  intro j u hj
  rw [add0, ← hn, cell_of_row _ _ _ _ _ _ (heap_alloc_new w _)]
  simpa using hj

set_option maxRecDepth 100000 in
set_option maxHeartbeats 2000000 in
theorem takeMoE_end (W w : World) (b st : Nat) (c : Cls) (hb : Below W.heap.size W w) (hr : Rdr w W.heap.size b st c) :
    Calls Tryz.prog 127 #[.pointer (some ⟨b, 0, none⟩), .string ⟨#[101, 110, 100]⟩] w fun e w' => Took W b (some (8, c)) e w' := by
  obtain ⟨vi, vm, pm, B, hNb, hh, hR⟩ := hr
  have hlt : b < w.heap.size := (Array.getElem?_eq_some_iff.1 hh).1
  have c0 := cell_of_row w b 0 _ _ _ hh
  have y0 := frozen_of_row w b 0 _ _ hh
  simp only [List.getElem?_toArray, List.getElem?_cons_zero] at c0
  have HR : Hid _ := hR
  have HB : Hid _ := hb
  have HH : Hid _ := hh
  clear hR hb hh
  go_enter Tryz.func127, Tryz.ntmps127
  go_wp2
  go_ret
  obtain ⟨h2, r2⟩ := rd_set HH.out HR.out 0 (.int .i64 8)
  exact took_yes ⟨vi, vm, pm, B, hNb, h2, r2⟩ (below_set HB.out hNb _ _)

set_option maxRecDepth 100000 in
set_option maxHeartbeats 2000000 in
theorem takeMoE_m (W w : World) (b st : Nat) (c : Cls) (s : ByteArray) (hs : s.size ≤ 40000) (hG : GP W) (hb : Below W.heap.size W w) (hr : Rdr w W.heap.size b st c) (hk : c.ms.length ≤ 50000) (he : (s.data.toList == wEnd) = false) :
    Calls Tryz.prog 127 #[.pointer (some ⟨b, 0, none⟩), .string s] w fun e w' => Took W b (stepM c s.data.toList) e w' := by
  obtain ⟨i0, hi, hz0, hz1, hz2⟩ := info_parts Tryz.info34
  obtain ⟨vi, vm, pm, B, hNb, hh, hR⟩ := hr
  have hlt : b < w.heap.size := (Array.getElem?_eq_some_iff.1 hh).1
  have hpl : pm.length ≤ 50000 := by rw [hR.len]; exact hk
  have HC : Hid (Calls Tryz.prog 160 _ w _) := readMethod_any s hs w (hG.keep hb)
  have HR : Hid _ := hR
  have HB : Hid _ := hb
  have HST : Hid (stepM c s.data.toList = if (fstW s.data.toList == wMethod) && mlB s.data.toList then some (5, { c with ms := c.ms ++ [⟨⟨(mlN s.data.toList).toArray⟩, ⟨(mlD s.data.toList).toArray⟩, fgN mthP (mlF s.data.toList), 0, 0, []⟩] }) else none) := by rw [Hid, stepM, he]; rfl
  have he2 : (s.toList == [101, 110, 100]) = false := by rw [Lib.toList_data]; exact he
  have hbs := hb.size
  clear hR hG hs hb he
  obtain ⟨RR, hRR⟩ : ∃ r, stepM c s.data.toList = r := ⟨_, rfl⟩
  rw [hRR]
  rw [hRR] at HST
  clear hRR
  go_enter Tryz.func127, Tryz.ntmps127
  go_wp2_with (first
    | (go_at_call 160; refine HC.out.mono ?_; rintro e w1 ⟨⟨nm, ds, f, er, rfl, her⟩, hb1⟩; simp only [mtV]; have HER : Hid (if ((fstW s.data.toList == wMethod) && mlB s.data.toList) = true then er = .nilIface ∧ nm = ⟨(mlN s.data.toList).toArray⟩ ∧ ds = ⟨(mlD s.data.toList).toArray⟩ ∧ f = fgN mthP (mlF s.data.toList) else ErrV er) := her; have hb2 := hb1.block b hlt; rw [hh] at hb2; have z6 := cell_of_row w1 b 6 _ _ _ hb2; simp only [List.getElem?_toArray, List.getElem?_cons_zero, List.getElem?_cons_succ] at z6; have HH : Hid _ := hb2; have hlt1 : b < w1.heap.size := Nat.lt_of_lt_of_le hlt hb1.size; have B1 : Hid (Below W.heap.size W w1) := Below.step HB.out hb1; have R1 : Hid _ := HR.out.below hb1; have hs1 := B1.out.size; clear hb2 hb1 HC her HB HR))
  go_region_law
    (first
      | (refine step_append_lies _ rfl (.tmp 22) (.tmp 24) 23 rfl W.heap.size 34 i0 (.agg #[.string ⟨#[]⟩, .string ⟨#[]⟩, .int .i64 0, .int .i64 0, .int .i64 0, .slice none 0 0]) 6 80 Tryz.underlying23 hi hz0 hz1 hz2 rfl (by decide) vm pm.length (flatM pm) (by simp [Act.eval]) (((R1.out.ms.alloc _).drew).alloc _) ⟨w1.heap.size + 1, 0, none⟩ 1 1 [.string nm, .string ds, .int .i64 f, .int .i64 0, .int .i64 0, .slice none 0 0] (by simp [Act.eval]) rfl (cell_six_at _ _ (by simp) _ _ _ _ _ _ _) ?_ (by decide) ?_ ?_ ?_ _ rfl ?_; (intro u hu; simp at hu; rcases hu with rfl | rfl | rfl | rfl | rfl <;> rfl); (unfold maxLen; omega); omega; (simp; omega); intro g2 cap2 w2 hown' hgrow _ _; obtain ⟨q1, qm, q2, q3⟩ := ms_rel (m := ⟨nm, ds, f, 0, 0, []⟩) B1.out HH.out R1.out rfl hgrow hown'; have Q1 : Hid _ := q1; have Q2 : Hid _ := q2; have Q3 : Hid _ := q3; clear q2 q3 hown' hgrow z6; have z6 := cell_of_row w2 b 6 _ _ _ q1; have y6 := frozen_of_row w2 b 6 _ _ q1; have z0 := cell_of_row w2 b 0 _ _ _ q1; have y0 := frozen_of_row w2 b 0 _ _ q1; have x0 := cell_of_row w2 w1.heap.size 0 _ _ _ qm; have x1 := cell_of_row w2 w1.heap.size 1 _ _ _ qm; have x2 := cell_of_row w2 w1.heap.size 2 _ _ _ qm; have x3 := cell_of_row w2 w1.heap.size 3 _ _ _ qm; have x4 := cell_of_row w2 w1.heap.size 4 _ _ _ qm; have x5 := cell_of_row w2 w1.heap.size 5 _ _ _ qm; simp only [List.getElem?_toArray, List.getElem?_cons_zero, List.getElem?_cons_succ] at z6 z0 x0 x1 x2 x3 x4 x5; clear q1 qm HH R1 B1))
  all_goals
    go_wp2
    go_ret
    obtain ⟨h1, r1⟩ := rd_set Q1.out Q2.out 6 (.slice (some ⟨g2, 0, none⟩) (pm.length + 1) cap2)
    obtain ⟨h2, r2⟩ := rd_set h1 r1 0 (.int .i64 5)
    refine took_mono ?_ HST.out.symm
    cases hq : ((fstW s.data.toList == wMethod) && mlB s.data.toList) with
    | false =>
      have := HER.out
      rw [hq] at this
      exact took_no this (below_set (below_set Q3.out hNb _ _) hNb _ _)
    | true =>
      have := HER.out
      rw [hq] at this
      simp only [if_true] at this
      obtain ⟨rfl, rfl, rfl, rfl⟩ := this
      exact took_yes ⟨vi, _, _, _, hNb, h2, r2⟩ (below_set (below_set Q3.out hNb _ _) hNb _ _)

theorem takeMoE_any (W w : World) (b st : Nat) (c : Cls) (s : ByteArray) (hs : s.size ≤ 40000) (hG : GP W) (hb : Below W.heap.size W w) (hr : Rdr w W.heap.size b st c) (hk : c.ms.length ≤ 50000) :
    Calls Tryz.prog 127 #[.pointer (some ⟨b, 0, none⟩), .string s] w fun e w' => Took W b (stepM c s.data.toList) e w' := by
  cases he : (s.data.toList == wEnd) with
  | false => exact takeMoE_m W w b st c s hs hG hb hr hk he
  | true =>
    have e : s = ⟨#[101, 110, 100]⟩ := bytes_ext (eq_of_beq he)
    have hst : stepM c s.data.toList = some (8, c) := by rw [stepM, he]; rfl
    rw [hst, e]
    exact takeMoE_end W w b st c hb hr

set_option maxRecDepth 100000 in
set_option maxHeartbeats 2000000 in
theorem take_4 (W w : World) (b : Nat) (c : Cls) (s : ByteArray) (hs : s.size ≤ 40000) (hG : GP W) (hb : Below W.heap.size W w) (hr : Rdr w W.heap.size b 4 c) (hk : c.ms.length ≤ 50000) :
    Calls Tryz.prog 87 #[.pointer (some ⟨b, 0, none⟩), .string s] w fun e w' => Took W b (stepC 4 c s.data.toList) e w' := by
  have H1 : Hid (Calls Tryz.prog 127 _ w _) := takeMoE_any W w b 4 c s hs hG hb hr hk
  have hst : stepC 4 c s.data.toList = stepM c s.data.toList := rfl
  rw [hst]
  obtain ⟨vi, vm, pm, B, hNb, hh, hR⟩ := hr
  have c0 := cell_of_row w b 0 _ _ _ hh
  simp only [List.getElem?_toArray, List.getElem?_cons_zero] at c0
  clear hR hG hs hb hh hk hst
  go_enter Tryz.func87, Tryz.ntmps87
  go_wp2_with (go_at_call 127; refine H1.out.mono ?_; rintro e w2 ⟨⟨er, rfl, h1⟩, h2⟩; have HE : Hid (Took W b _ (.returned er) w2) := ⟨⟨er, rfl, h1⟩, h2⟩; clear h1 h2 H1)
  go_ret
  exact HE.out

set_option maxRecDepth 100000 in
set_option maxHeartbeats 2000000 in
theorem take_8 (W w : World) (b : Nat) (c : Cls) (s : ByteArray) (hG : GP W) (hb : Below W.heap.size W w) (hr : Rdr w W.heap.size b 8 c) :
    Calls Tryz.prog 87 #[.pointer (some ⟨b, 0, none⟩), .string s] w fun e w' => Took W b (stepC 8 c s.data.toList) e w' := by
  have hst : stepC 8 c s.data.toList = none := rfl
  rw [hst]
  obtain ⟨h3, tp, a, hc⟩ := (hG.keep hb).2.2.2.1
  obtain ⟨vi, vm, pm, B, hNb, hh, hR⟩ := hr
  have c0 := cell_of_row w b 0 _ _ _ hh
  simp only [List.getElem?_toArray, List.getElem?_cons_zero] at c0
  have HB : Hid _ := hb
  clear hR hG hb hh hst
  go_enter Tryz.func87, Tryz.ntmps87
  go_wp2
  go_ret
  exact took_no ⟨tp, a, rfl⟩ HB.out

set_option maxRecDepth 100000 in
set_option maxHeartbeats 2000000 in
theorem method_any (w : World) (b st g cap : Nat) (k : Nat) (nm su : ByteArray) (vi : Value) (fl ld : Int) (hk : k ≤ 100000) (hh : w.heap[b]? = some (.cells #[.int .i64 (st : Int), .string nm, .string su, vi, .int .i64 fl, .int .i64 ld, .slice (some ⟨g, 0, none⟩) (k + 1) cap] 123 (0, 0))) :
    Calls Tryz.prog 128 #[.pointer (some ⟨b, 0, none⟩)] w fun e w' => e = .returned (.pointer (some ⟨g, k * 6, none⟩)) ∧ w' = w.drew := by
  have c6 := cell_of_row w b 6 _ _ _ hh
  simp only [List.getElem?_toArray, List.getElem?_cons_zero, List.getElem?_cons_succ] at c6
  clear hh
  go_enter Tryz.func128, Tryz.ntmps128
  have k1 : ((k + 1 : Nat) : Int) - 1 = k := by omega
  go_wp2
  go_region
  go_wp2
  go_ret
  exact ⟨rfl, rfl⟩


theorem last_const {a : List Mth} {m : Mth} {ms : List Mth} (h : ms = a ++ [m]) (f : Mth → Mth) : lastM (fun _ => f m) ms = lastM f ms := by rw [h, last_app, last_app]
/-- the last method, and where it lies -/
theorem RowC.ends {w : World} {N : Nat} {vi vm : Value} {c : Cls} {pm : List (Mth × Value)} {B : Nat} (h : RowC w N vi vm c pm B) (hne : c.ms ≠ []) : ∃ l m v g cap cur, pm = l ++ [(m, v)] ∧ vm = .slice (some ⟨g, 0, none⟩) (l.length + 1) cap ∧ N ≤ g ∧ w.heap[g]? = some (.cells cur 34 (0, 0)) ∧ c.ms = l.map Prod.fst ++ [m] ∧ ∀ j, j < 6 → w.cell? ⟨g, l.length * 6 + j, none⟩ = (mthC (m, v))[j]? := by
  have hpm : pm ≠ [] := fun e => hne (by rw [← h.eq, e]; rfl)
  rcases List.eq_nil_or_concat pm with e | ⟨l, ⟨m, v⟩, e⟩
  · exact absurd e hpm
  · rw [List.concat_eq_append] at e
    obtain ⟨g, cap, cur, e1, e2, e3, _, _, _, e4⟩ := h.at hpm
    refine ⟨l, m, v, g, cap, cur, e, by rw [e1, e]; simp, e2, e3, by rw [← h.eq, e]; simp, fun j hj => e4 l.length (m, v) (by rw [e]; simp) j hj⟩

set_option maxRecDepth 100000 in
set_option maxHeartbeats 2000000 in
theorem take_5 (W w : World) (b : Nat) (c : Cls) (s : ByteArray) (hs : s.size ≤ 40000) (hG : GP W) (hb : Below W.heap.size W w) (hr : Rdr w W.heap.size b 5 c) (hk : c.ms.length ≤ 50000) (hne : c.ms ≠ []) :
    Calls Tryz.prog 87 #[.pointer (some ⟨b, 0, none⟩), .string s] w fun e w' => Took W b (stepC 5 c s.data.toList) e w' := by
  obtain ⟨vi, vm, pm, B, hNb, hh, hR⟩ := hr
  have hlt : b < w.heap.size := (Array.getElem?_eq_some_iff.1 hh).1
  obtain ⟨l, m, v, g, cap, cur, rfl, rfl, hgN, hgh, hms, hxx⟩ := hR.ends hne
  have hglt : g < w.heap.size := (Array.getElem?_eq_some_iff.1 hgh).1
  have hll : l.length ≤ 100000 := by have := hR.len; simp at this; omega
  have hx := hxx 3 (by omega)
  simp only [mthC, List.getElem?_cons_zero, List.getElem?_cons_succ] at hx
  have hgb : g ≠ b := fun e => by rw [e, hh] at hgh; simp at hgh
  have HM : Hid (Calls Tryz.prog 128 _ w _) := method_any w b 5 g cap l.length c.nm c.su vi c.fl c.ld hll hh
  have HC : Hid (∀ w', Below w.heap.size w w' → Calls Tryz.prog 126 #[.string s, .string ⟨#[108, 111, 99, 97, 108, 115]⟩] w' fun e w'' => (∃ n er, e = .returned (.tuple #[.int .i64 n, er]) ∧ if rnB s.data.toList wLocals && num9 (rnS s.data.toList wLocals) then er = .nilIface ∧ n = (numR (rnS s.data.toList wLocals)).1 else ErrV er) ∧ Below w'.heap.size w' w'') := fun w' h => rdNumber_any s ⟨#[108, 111, 99, 97, 108, 115]⟩ hs (by decide) w' ((hG.keep hb).keep h)
  have HR : Hid _ := hR
  have HB : Hid _ := hb
  have HST : Hid (stepC 5 c s.data.toList = if rnB s.data.toList wLocals && num9 (rnS s.data.toList wLocals) then some (6, { c with ms := lastM (fun m => { m with lo := (numR (rnS s.data.toList wLocals)).1 }) c.ms }) else none) := rfl
  have HMS : Hid _ := hms
  clear hR hG hs hb hne hms hxx
  obtain ⟨RR, hRR⟩ : ∃ r, stepC 5 c s.data.toList = r := ⟨_, rfl⟩
  rw [hRR]
  rw [hRR] at HST
  clear hRR
  have c0 := cell_of_row w b 0 _ _ _ hh
  simp only [List.getElem?_toArray, List.getElem?_cons_zero] at c0
  go_enter Tryz.func87, Tryz.ntmps87
  go_wp2_with (first
    | (go_at_call 128; refine HM.out.mono ?_; rintro e w9 ⟨rfl, hw9⟩; rw [hw9]; clear hw9 HM w9)
    | (go_at_call 126; refine (HC.out _ ((Below.refl _ _).drew)).mono ?_; rintro e w1 ⟨⟨n, er, rfl, her⟩, hb1⟩; replace hb1 : Below w.heap.size w w1 := ⟨hb1.os, hb1.tape, hb1.output, hb1.size, hb1.block⟩; have HER : Hid (if (rnB s.data.toList wLocals && num9 (rnS s.data.toList wLocals)) = true then er = .nilIface ∧ n = (numR (rnS s.data.toList wLocals)).1 else ErrV er) := her; clear her; have b1 := hb1.block b hlt; rw [hh] at b1; have g1 := hb1.block g hglt; rw [hgh] at g1; have z0 := cell_of_row w1 b 0 _ _ _ b1; have y0 := frozen_of_row w1 b 0 _ _ b1; have zc := (hb1.cell (p := ⟨g, l.length * 6 + 3, none⟩) hglt).trans hx; have yc := frozen_of_row w1 g (l.length * 6 + 3) _ _ g1; simp only [List.getElem?_toArray, List.getElem?_cons_zero] at z0; have HH : Hid _ := b1; have HGH : Hid _ := g1; have B1 : Hid (Below w.heap.size w w1) := hb1; clear b1 g1 hb1 c0 hx HC))
  all_goals (try go_region)
  all_goals (try go_wp2)
  all_goals go_ret
  refine took_mono ?_ HST.out.symm
  cases hq : (rnB s.data.toList wLocals && num9 (rnS s.data.toList wLocals)) with
  | false =>
    have := HER.out
    rw [hq] at this
    exact took_no this (below_set (below_set (Below.step HB.out B1.out) hgN _ _) hNb _ _)
  | true =>
    have := HER.out
    rw [hq] at this
    simp only [if_true] at this
    obtain ⟨rfl, rfl⟩ := this
    refine took_yes ?_ (below_set (below_set (Below.step HB.out B1.out) hgN _ _) hNb _ _)
    have r0 := (HR.out.below B1.out).num (m' := { m with lo := (numR (rnS s.data.toList wLocals)).1 }) 3 (.int .i64 (numR (rnS s.data.toList wLocals)).1) (by omega) rfl rfl
    have h0 : (w1.setCell ⟨g, l.length * 6 + 3, none⟩ (.int .i64 (numR (rnS s.data.toList wLocals)).1)).heap[b]? = _ := (heap_setCell_other _ _ _ _ (fun e => hgb e.symm)).trans HH.out
    obtain ⟨h2, r2⟩ := rd_set h0 r0 0 (.int .i64 6)
    rw [last_const HMS.out (fun m => { m with lo := (numR (rnS s.data.toList wLocals)).1 })] at r2
    exact ⟨vi, _, _, B, hNb, h2, r2⟩

set_option maxRecDepth 100000 in
set_option maxHeartbeats 2000000 in
theorem take_6 (W w : World) (b : Nat) (c : Cls) (s : ByteArray) (hs : s.size ≤ 40000) (hG : GP W) (hb : Below W.heap.size W w) (hr : Rdr w W.heap.size b 6 c) (hk : c.ms.length ≤ 50000) (hne : c.ms ≠ []) :
    Calls Tryz.prog 87 #[.pointer (some ⟨b, 0, none⟩), .string s] w fun e w' => Took W b (stepC 6 c s.data.toList) e w' := by
  obtain ⟨vi, vm, pm, B, hNb, hh, hR⟩ := hr
  have hlt : b < w.heap.size := (Array.getElem?_eq_some_iff.1 hh).1
  obtain ⟨l, m, v, g, cap, cur, rfl, rfl, hgN, hgh, hms, hxx⟩ := hR.ends hne
  have hglt : g < w.heap.size := (Array.getElem?_eq_some_iff.1 hgh).1
  have hll : l.length ≤ 100000 := by have := hR.len; simp at this; omega
  have hx := hxx 4 (by omega)
  simp only [mthC, List.getElem?_cons_zero, List.getElem?_cons_succ] at hx
  have hgb : g ≠ b := fun e => by rw [e, hh] at hgh; simp at hgh
  have HM : Hid (Calls Tryz.prog 128 _ w _) := method_any w b 6 g cap l.length c.nm c.su vi c.fl c.ld hll hh
  have HC : Hid (∀ w', Below w.heap.size w w' → Calls Tryz.prog 126 #[.string s, .string ⟨#[115, 116, 97, 99, 107]⟩] w' fun e w'' => (∃ n er, e = .returned (.tuple #[.int .i64 n, er]) ∧ if rnB s.data.toList wStack && num9 (rnS s.data.toList wStack) then er = .nilIface ∧ n = (numR (rnS s.data.toList wStack)).1 else ErrV er) ∧ Below w'.heap.size w' w'') := fun w' h => rdNumber_any s ⟨#[115, 116, 97, 99, 107]⟩ hs (by decide) w' ((hG.keep hb).keep h)
  have HR : Hid _ := hR
  have HB : Hid _ := hb
  have HST : Hid (stepC 6 c s.data.toList = if rnB s.data.toList wStack && num9 (rnS s.data.toList wStack) then some (7, { c with ms := lastM (fun m => { m with st := (numR (rnS s.data.toList wStack)).1 }) c.ms }) else none) := rfl
  have HMS : Hid _ := hms
  clear hR hG hs hb hne hms hxx
  obtain ⟨RR, hRR⟩ : ∃ r, stepC 6 c s.data.toList = r := ⟨_, rfl⟩
  rw [hRR]
  rw [hRR] at HST
  clear hRR
  have c0 := cell_of_row w b 0 _ _ _ hh
  simp only [List.getElem?_toArray, List.getElem?_cons_zero] at c0
  go_enter Tryz.func87, Tryz.ntmps87
  go_wp2_with (first
    | (go_at_call 128; refine HM.out.mono ?_; rintro e w9 ⟨rfl, hw9⟩; rw [hw9]; clear hw9 HM w9)
    | (go_at_call 126; refine (HC.out _ ((Below.refl _ _).drew)).mono ?_; rintro e w1 ⟨⟨n, er, rfl, her⟩, hb1⟩; replace hb1 : Below w.heap.size w w1 := ⟨hb1.os, hb1.tape, hb1.output, hb1.size, hb1.block⟩; have HER : Hid (if (rnB s.data.toList wStack && num9 (rnS s.data.toList wStack)) = true then er = .nilIface ∧ n = (numR (rnS s.data.toList wStack)).1 else ErrV er) := her; clear her; have b1 := hb1.block b hlt; rw [hh] at b1; have g1 := hb1.block g hglt; rw [hgh] at g1; have z0 := cell_of_row w1 b 0 _ _ _ b1; have y0 := frozen_of_row w1 b 0 _ _ b1; have zc := (hb1.cell (p := ⟨g, l.length * 6 + 4, none⟩) hglt).trans hx; have yc := frozen_of_row w1 g (l.length * 6 + 4) _ _ g1; simp only [List.getElem?_toArray, List.getElem?_cons_zero] at z0; have HH : Hid _ := b1; have HGH : Hid _ := g1; have B1 : Hid (Below w.heap.size w w1) := hb1; clear b1 g1 hb1 c0 hx HC))
  all_goals (try go_region)
  all_goals (try go_wp2)
  all_goals go_ret
  refine took_mono ?_ HST.out.symm
  cases hq : (rnB s.data.toList wStack && num9 (rnS s.data.toList wStack)) with
  | false =>
    have := HER.out
    rw [hq] at this
    exact took_no this (below_set (below_set (Below.step HB.out B1.out) hgN _ _) hNb _ _)
  | true =>
    have := HER.out
    rw [hq] at this
    simp only [if_true] at this
    obtain ⟨rfl, rfl⟩ := this
    refine took_yes ?_ (below_set (below_set (Below.step HB.out B1.out) hgN _ _) hNb _ _)
    have r0 := (HR.out.below B1.out).num (m' := { m with st := (numR (rnS s.data.toList wStack)).1 }) 4 (.int .i64 (numR (rnS s.data.toList wStack)).1) (by omega) rfl rfl
    have h0 : (w1.setCell ⟨g, l.length * 6 + 4, none⟩ (.int .i64 (numR (rnS s.data.toList wStack)).1)).heap[b]? = _ := (heap_setCell_other _ _ _ _ (fun e => hgb e.symm)).trans HH.out
    obtain ⟨h2, r2⟩ := rd_set h0 r0 0 (.int .i64 7)
    rw [last_const HMS.out (fun m => { m with st := (numR (rnS s.data.toList wStack)).1 })] at r2
    exact ⟨vi, _, _, B, hNb, h2, r2⟩

/-- behind an append to the last method's code -/
theorem code_rel {W w1 U w2 : World} {b g cap : Nat} {cs cur : Array Value} {vi v v' : Value} {c : Cls} {l : List (Mth × Value)} {m : Mth} {B : Nat} {i : Ins} (hb : Below W.heap.size W w1) (hh : w1.heap[b]? = some (.cells cs 123 (0, 0))) (hgh : w1.heap[g]? = some (.cells cur 34 (0, 0))) (hr : RowC w1 W.heap.size vi (.slice (some ⟨g, 0, none⟩) (l.length + 1) cap) c (l ++ [(m, v)]) B)
    (hst : Below w1.heap.size w1 U) (hg : U.grownBy w2 v.ownBlock) (ho : w2.ownsRow B 73 7 v' (m.code.length + 1) (flatI m.code ++ insC i)) :
    w2.heap[b]? = some (.cells cs 123 (0, 0)) ∧ w2.heap[g]? = some (.cells cur 34 (0, 0)) ∧ RowC (w2.setCell ⟨g, l.length * 6 + 5, none⟩ v') W.heap.size vi (.slice (some ⟨g, 0, none⟩) (l.length + 1) cap) { c with ms := lastM (fun m => { m with code := m.code ++ [i] }) c.ms } (l ++ [({ m with code := m.code ++ [i] }, v')]) B ∧ Below W.heap.size W w2 := by
  have hlt : b < w1.heap.size := (Array.getElem?_eq_some_iff.1 hh).1
  have hglt : g < w1.heap.size := (Array.getElem?_eq_some_iff.1 hgh).1
  have ha : U.heap[b]? = some (.cells cs 123 (0, 0)) := (hst.block b hlt).trans hh
  have hga : U.heap[g]? = some (.cells cur 34 (0, 0)) := (hst.block g hglt).trans hgh
  have hra : RowC U W.heap.size vi (.slice (some ⟨g, 0, none⟩) (l.length + 1) cap) c (l ++ [(m, v)]) B := hr.below hst
  have hl := hra.last (m, v) (by simp)
  have hs := hst.size
  have hbs := hb.size
  refine ⟨?_, ?_, hra.code i hg ho, ?_⟩
  · rw [hg.block b (by omega) (row_blk hl ha (by decide))]; exact ha
  · rw [hg.block g (by omega) (row_blk hl hga (by decide))]; exact hga
  · exact (hb.trans (hst.mono hb.size)).grown hg (by omega) (fun k hk => Nat.le_trans hr.lo (hl.lt k hk).1)

theorem cell_seven_at (w : World) (n : Nat) (hn : w.heap.size = n) (t : TypeId) (a0 a1 a2 a3 a4 a5 a6 : Value) : ∀ j u, [a0, a1, a2, a3, a4, a5, a6][j]? = some u → (w.alloc (.cells #[a0, a1, a2, a3, a4, a5, a6] t)).cell? ((⟨n, 0, none⟩ : Addr).add j) = some u := by
  intro j u hj
  rw [add0, ← hn, cell_of_row _ _ _ _ _ _ (heap_alloc_new w _)]
  simpa using hj

set_option maxRecDepth 100000 in
set_option maxHeartbeats 2000000 in
theorem takeCode_no (W w : World) (b st : Nat) (c : Cls) (s : ByteArray) (hs : s.size ≤ 40000) (hG : GP W) (hb : Below W.heap.size W w) (hr : Rdr w W.heap.size b st c) (hk : c.ms.length ≤ 50000) (hd : docP s.data.toList = none) :
    Calls Tryz.prog 129 #[.pointer (some ⟨b, 0, none⟩), .string s] w fun e w' => Took W b (stepM c s.data.toList) e w' := by
  have hG' := hG.keep hb
  have HP : Hid (Calls Tryz.prog 161 _ w _) := oparse_any s (by omega) w hG'.1.1 hG'.2.1 hG'.2.2.1
  rw [own_doc, hd] at HP
  have HT : Hid _ := fun (w' : World) (h : Below w.heap.size w w') => takeMoE_any W w' b st c s hs hG (Below.step hb h) (hr.keep h) hk
  clear hr hb hG hs hk hd hG'
  simp only [outI, insV, insC, zeroI] at HP
  go_enter Tryz.func129, Tryz.ntmps129
  go_wp2_with (first
    | (go_at_call 161; refine HP.out.mono ?_; rintro e w1 ⟨rfl, hb1⟩; clear HP)
    | (go_at_call 127; refine (HT.out _ (hb1.alloc hb1.size _)).mono ?_; rintro e w2 ⟨⟨er, rfl, h1⟩, h2⟩; have HE : Hid (Took W b _ (.returned er) w2) := ⟨⟨er, rfl, h1⟩, h2⟩; clear h1 h2 HT))
  go_ret
  exact HE.out

set_option maxRecDepth 100000 in
set_option maxHeartbeats 4000000 in
theorem takeCode_yes (W w : World) (b : Nat) (c : Cls) (s : ByteArray) (hs : s.size ≤ 40000) (hG : GP W) (hb : Below W.heap.size W w) (hr : Rdr w W.heap.size b 7 c) (hk : c.ms.length ≤ 50000) (hne : c.ms ≠ []) (hkc : ∀ m ∈ c.ms, m.code.length ≤ 50000) (i : Ins) (hd : docP s.data.toList = some i) :
    Calls Tryz.prog 129 #[.pointer (some ⟨b, 0, none⟩), .string s] w fun e w' => Took W b (some (7, { c with ms := lastM (fun m => { m with code := m.code ++ [i] }) c.ms })) e w' := by
  obtain ⟨i0, hi, hz0, hz1, hz2⟩ := info_parts Tryz.info73
  obtain ⟨vi, vm, pm, B, hNb, hh, hR⟩ := hr
  have hlt : b < w.heap.size := (Array.getElem?_eq_some_iff.1 hh).1
  obtain ⟨l, m, v, g, cap, cur, rfl, rfl, hgN, hgh, hms, hxx⟩ := hR.ends hne
  have hglt : g < w.heap.size := (Array.getElem?_eq_some_iff.1 hgh).1
  have hll : l.length ≤ 100000 := by have := hR.len; simp at this; omega
  have hcl : m.code.length ≤ 50000 := hkc m (by rw [hms]; simp)
  have hx := hxx 5 (by omega)
  simp only [mthC, List.getElem?_cons_zero, List.getElem?_cons_succ] at hx
  have hgb : g ≠ b := fun e => by rw [e, hh] at hgh; simp at hgh
  have hG' := hG.keep hb
  have HP : Hid (Calls Tryz.prog 161 _ w _) := oparse_any s (by omega) w hG'.1.1 hG'.2.1 hG'.2.2.1
  rw [own_doc, hd] at HP
  have HM : Hid _ := fun (w' : World) (h : Below w.heap.size w w') => method_any w' b 7 g cap l.length c.nm c.su vi c.fl c.ld hll ((h.block b hlt).trans hh)
  have HR : Hid _ := hR
  have HB : Hid _ := hb
  have hBs := hR.hi
  have hvl : w.ownsRow B 73 7 v m.code.length (flatI m.code) := hR.last (m, v) (by simp)
  have hva : ∃ va vcap, v = .slice va m.code.length vcap := by
    rcases hvl.2 with ⟨e, e2⟩ | ⟨g', cap', cur', e, _⟩
    · exact ⟨none, 0, by rw [e, e2]⟩
    · exact ⟨_, _, e⟩
  obtain ⟨va, vcap, rfl⟩ := hva
  simp only [outI, insV, insC] at HP
  obtain ⟨io, iN, it, ib, ic, im, id⟩ := i
  simp only at HP
  clear hR hG hs hb hne hms hxx hd hG' hkc hvl
  have c0 := cell_of_row w b 0 _ _ _ hh
  simp only [List.getElem?_toArray, List.getElem?_cons_zero] at c0
  go_enter Tryz.func129, Tryz.ntmps129
  go_wp2_with (first
    | (go_at_call 161; refine HP.out.mono ?_; rintro e w1 ⟨rfl, hb1⟩; have b1 := hb1.block b hlt; rw [hh] at b1; have g1 := hb1.block g hglt; rw [hgh] at g1; have zc := (hb1.cell (p := ⟨g, l.length * 6 + 5, none⟩) hglt).trans hx; have HH : Hid _ := b1; have HGH : Hid _ := g1; have B1 : Hid (Below w.heap.size w w1) := hb1; have hs1 := hb1.size; clear b1 g1 hb1 c0 hx HP)
    | (go_at_call 128; refine (HM.out _ (B1.out.alloc B1.out.size _)).mono ?_; rintro e w9 ⟨rfl, hw9⟩; rw [hw9]; clear hw9 HM w9))
  have hglt1 : g < w1.heap.size := Nat.lt_of_lt_of_le hglt hs1
  go_region_law
    (first
      | (refine step_append_lies _ rfl (.tmp 24) (.tmp 26) 32 rfl B 73 i0 (.agg #[.int .i64 0, .int .i64 0, .string ⟨#[]⟩, .bool false, .string ⟨#[]⟩, .string ⟨#[]⟩, .string ⟨#[]⟩]) 7 88 Tryz.underlying32 hi hz0 hz1 hz2 rfl (by decide) (.slice va m.code.length vcap) m.code.length (flatI m.code) (by simp [Act.eval]) (((((HR.out.below B1.out).last (m, _) (by simp)).alloc _).drew.drew).alloc _) ⟨w1.heap.size + 1, 0, none⟩ 1 1 [.int .i64 io, .int .i64 iN, .string it, .bool ib, .string ic, .string im, .string id] (by simp [Act.eval]) rfl (cell_seven_at _ _ (by simp) _ _ _ _ _ _ _ _) ?_ (by decide) ?_ ?_ ?_ _ rfl ?_; (intro u hu; simp at hu; rcases hu with rfl | rfl | rfl | rfl | rfl | rfl | rfl <;> rfl); (unfold maxLen; omega); omega; (simp; omega); intro g2 cap2 w2 hown' hgrow _ _; obtain ⟨q1, q2, q3, q4⟩ := code_rel (i := ⟨io, iN, it, ib, ic, im, id⟩) (Below.step HB.out B1.out) HH.out HGH.out (HR.out.below B1.out) ((((Below.refl _ _).alloc (Nat.le_refl _) _).drew.drew).alloc (by simp) _) hgrow hown'; have zc' := cell_of_row w2 g (l.length * 6 + 5) _ _ _ q2; have zc0 := cell_of_row w1 g (l.length * 6 + 5) _ _ _ HGH.out; rw [← zc0, zc] at zc'; have yc' := frozen_of_row w2 g (l.length * 6 + 5) _ _ q2; have Q1 : Hid _ := q1; have Q3 : Hid _ := q3; have Q4 : Hid _ := q4; clear q1 q2 q3 q4 hown' hgrow HH HGH zc zc0 B1))
  all_goals
    go_wp2
    go_ret
    refine took_yes ⟨vi, _, _, B, hNb, ?_, Q3.out⟩ (below_set Q4.out hgN _ _)
    exact (heap_setCell_other _ _ _ _ (fun e => hgb e.symm)).trans Q1.out

set_option maxRecDepth 100000 in
set_option maxHeartbeats 2000000 in
theorem take_7 (W w : World) (b : Nat) (c : Cls) (s : ByteArray) (hs : s.size ≤ 40000) (hG : GP W) (hb : Below W.heap.size W w) (hr : Rdr w W.heap.size b 7 c) (hk : c.ms.length ≤ 50000) (hne : c.ms ≠ []) (hkc : ∀ m ∈ c.ms, m.code.length ≤ 50000) :
    Calls Tryz.prog 87 #[.pointer (some ⟨b, 0, none⟩), .string s] w fun e w' => Took W b (stepC 7 c s.data.toList) e w' := by
  have H1 : Hid (Calls Tryz.prog 129 #[.pointer (some ⟨b, 0, none⟩), .string s] w fun e w' => Took W b (stepC 7 c s.data.toList) e w') := by
    have hst : stepC 7 c s.data.toList = (match docP s.data.toList with
      | some i => some (7, { c with ms := lastM (fun m => { m with code := m.code ++ [i] }) c.ms })
      | none => stepM c s.data.toList) := rfl
    rw [hst]
    cases hd : docP s.data.toList with
    | none => exact takeCode_no W w b 7 c s hs hG hb hr hk hd
    | some i => exact takeCode_yes W w b c s hs hG hb hr hk hne hkc i hd
  obtain ⟨vi, vm, pm, B, hNb, hh, hR⟩ := hr
  have c0 := cell_of_row w b 0 _ _ _ hh
  simp only [List.getElem?_toArray, List.getElem?_cons_zero] at c0
  clear hR hG hs hb hh hk hne hkc
  generalize stepC 7 c s.data.toList = r at *
  go_enter Tryz.func87, Tryz.ntmps87
  go_wp2_with (go_at_call 129; refine H1.out.mono ?_; rintro e w2 ⟨⟨er, rfl, h1⟩, h2⟩; have HE : Hid (Took W b _ (.returned er) w2) := ⟨⟨er, rfl, h1⟩, h2⟩; clear h1 h2 H1)
  go_ret
  exact HE.out

/-- take: one line, read in a state -/
theorem take_any (W w : World) (b st : Nat) (c : Cls) (s : ByteArray) (hs : s.size ≤ 40000) (hG : GP W) (hb : Below W.heap.size W w) (hr : Rdr w W.heap.size b st c) (hst : st ≤ 8) {K : Nat} (hf : Fit st c K) (hK : K ≤ 50000) :
    Calls Tryz.prog 87 #[.pointer (some ⟨b, 0, none⟩), .string s] w fun e w' => Took W b (stepC st c s.data.toList) e w' := by
  have k1 := hf.ifs
  have k2 := hf.ms
  have k3 : ∀ m ∈ c.ms, m.code.length ≤ 50000 := fun m hm => Nat.le_trans (hf.code m hm) hK
  match st, hst with
  | 0, _ => exact take_0 W w b c s hs hG hb hr
  | 1, _ => exact take_1 W w b c s hs hG hb hr
  | 2, _ => exact take_2 W w b c s hs hG hb hr (by omega)
  | 3, _ => exact take_3 W w b c s hs hG hb hr
  | 4, _ => exact take_4 W w b c s hs hG hb hr (by omega)
  | 5, _ => exact take_5 W w b c s hs hG hb hr (by omega) (hf.st (by omega) (by omega))
  | 6, _ => exact take_6 W w b c s hs hG hb hr (by omega) (hf.st (by omega) (by omega))
  | 7, _ => exact take_7 W w b c s hs hG hb hr (by omega) (hf.st (by omega) (by omega)) k3
  | 8, _ => exact take_8 W w b c s hG hb hr
end Go.Proofs.YtfbhjfpkhofifaaGreatDoor
