/- The law HierClosure: the walk. -/
import Derived.Test.YtfkdemkdkepmdabGreatLcE
namespace Go.Proofs.YtfkdemkdkepmdabGreat
open Go.RowKit Go.Maps

set_option maxRecDepth 100000 in
set_option maxHeartbeats 4000000 in
theorem HierClosure_any (v : Value) (l : List Cls) (W : World) (h : IsClss W v l) : Calls Tryz.prog 3 #[v] W fun e w' => e = .returned (.bool true) ∧ Below W.heap.size W w' := by
  obtain ⟨ao, cap, rfl, h1, h2, h3⟩ := h
  unfold maxLen at h2
  obtain ⟨L, hL⟩ : ∃ L, l.length = L := ⟨_, rfl⟩
  have HL : Hid (l.length = L) := hL
  have HI : Hid _ := h3
  rw [hL] at h1 ⊢
  clear hL h3
  have HA : Hid (∀ w : World, Calls Tryz.prog 4 #[] w fun e w' => e = .returned (.bool true) ∧ Below w.heap.size w w') := awake_any
  have HN : Hid (∀ w : World, Calls Tryz.prog 5 #[] w fun e w' => e = .returned (.pointer (some ⟨w.heap.size + 1, 0, none⟩)) ∧ (∃ vp pv, HW w' w.heap.size (w.heap.size + 1) w.heap.size P3 vp pv) ∧ Below w.heap.size w w') := new_any
  go_enter Tryz.func3, Tryz.ntmps3
  go_wp2_with (first
    | (go_at_call 4; refine (HA.out _).mono ?_; rintro e w1 ⟨rfl, hb⟩; have B1 : Hid (Below W.heap.size W w1) := hb; clear hb HA)
    | (go_at_call 5; refine (HN.out _).mono ?_; rintro e w2 ⟨rfl, hw, hb⟩; have H2 : Hid (∃ vp pv, HW w2 w1.heap.size (w1.heap.size + 1) w1.heap.size P3 vp pv) := hw; have B2 : Hid (Below w1.heap.size w1 w2) := hb; clear hb hw HN))
  go_loopw [4] (fun iv wr => ∃ (i : Nat) (ps : List Plc), iv = .int .i64 i ∧ i ≤ L ∧ Hid (WI ps) ∧ Hid (WJ ps) ∧ Hid (∃ vp pv, HW wr w1.heap.size (w1.heap.size + 1) w1.heap.size ps vp pv) ∧ Hid (Below w1.heap.size w1 wr)) (fun iv _ => L - (intOf iv).toNat)
  case atStart => exact ⟨0, P3, rfl, Nat.zero_le _, wi3, wj3, H2, B2⟩
  case round =>
    clear H2 B2
    obtain ⟨i, ps, rfl, hi, hWI, hWJ, hHW, hB⟩ := hrel
    by_cases hlt : i < L
    · obtain ⟨c, hc⟩ : ∃ c, l[i]? = some c := ⟨_, List.getElem?_eq_getElem (by rw [HL.out]; exact hlt)⟩
      obtain ⟨bk, o, rfl, hbk, hcl⟩ := HI.out (fun e => by rw [e] at hc; simp at hc)
      obtain ⟨vi, vm, hcell, hin⟩ := hcl i c hc
      have bel : Below W.heap.size W wr := B1.out.trans (hB.out.mono B1.out.size)
      have p0 : wr.cell? ⟨bk, o + i * 6, none⟩ = some (.string c.nm) := (bel.cell (p := ⟨bk, o + i * 6, none⟩) hbk).trans (hcell 0 _ rfl)
      have p1 : wr.cell? ⟨bk, o + i * 6 + 1, none⟩ = some (.string c.su) := (bel.cell (p := ⟨bk, o + i * 6 + 1, none⟩) hbk).trans (hcell 1 _ rfl)
      have p2 : wr.cell? ⟨bk, o + i * 6 + 2, none⟩ = some vi := (bel.cell (p := ⟨bk, o + i * 6 + 2, none⟩) hbk).trans (hcell 2 _ rfl)
      have p3 : wr.cell? ⟨bk, o + i * 6 + 3, none⟩ = some (.int .i64 c.fl) := (bel.cell (p := ⟨bk, o + i * 6 + 3, none⟩) hbk).trans (hcell 3 _ rfl)
      have p4 : wr.cell? ⟨bk, o + i * 6 + 4, none⟩ = some (.int .i64 c.ld) := (bel.cell (p := ⟨bk, o + i * 6 + 4, none⟩) hbk).trans (hcell 4 _ rfl)
      have p5 : wr.cell? ⟨bk, o + i * 6 + 5, none⟩ = some vm := (bel.cell (p := ⟨bk, o + i * 6 + 5, none⟩) hbk).trans (hcell 5 _ rfl)
      have HD : Hid (Calls Tryz.prog 6 #[.pointer (some ⟨w1.heap.size + 1, 0, none⟩), .agg #[.string c.nm, .string c.su, vi, .int .i64 c.fl, .int .i64 c.ld, vm]] wr fun e w' => (∃ u, e = .returned u) ∧ Hid (∃ vp pv, HW w' w1.heap.size (w1.heap.size + 1) w1.heap.size (dfP ps (defN ps c)) vp pv) ∧ Hid (Below w1.heap.size w1 w')) := by
        obtain ⟨vp, pv, hw⟩ := hHW.out
        refine (define_any w1.heap.size (w1.heap.size + 1) w1.heap.size ps vp pv c vi vm wr hw hB.out.size (hin.keep bel) hWI.out.nm).mono ?_
        rintro e w' ⟨rfl, hw', hb', _⟩
        exact ⟨⟨_, rfl⟩, hw', hB.out.trans hb'⟩
      have HW2 : Hid (WI (dfP ps (defN ps c))) := hWI.out.define c hin.ok
      have HJ2 : Hid (WJ (dfP ps (defN ps c))) := WJ.define hWI.out hWJ.out c hin.ok
      clear hcl hcell hin hc bel hWI hWJ hHW hB HI
      go_wp2_with (go_at_call 6; refine HD.out.mono ?_; rintro e w3 ⟨⟨u3, rfl⟩, hw3, hb3⟩; clear HD)
      go_roundw
      case rel => exact ⟨i + 1, _, by go_num, by omega, HW2, HJ2, hw3, hb3⟩
      case measure => simp [intOf]; omega
    · have e : i = L := by omega
      subst e
      obtain ⟨vp, pv, hw⟩ := hHW.out
      have HHW : Hid (HW wr w1.heap.size (w1.heap.size + 1) w1.heap.size ps vp pv) := hw
      clear hw hHW HI
      go_wp2
      refine aLoop w1.heap.size (w1.heap.size + 1) w1.heap.size ps vp pv hWI.out hWJ.out wr HHW.out _ _ _ _ _ _ _ _ _ _ _ _ _ _ _ _ _ _ _ _ _ _ _ _ _ _ _ _ _ _ _ _ _ _ _ _ _ _ _ _ _ _ _ _ _ _ _ _ _ _ _ _ _ _ _ _ _ _ _ _ _ _ _ _ _ _ _ _ _ _ _ _ _ _ _ _ _ _ _ _ _ _ _ _ _ _ _ _ _ _ _ _ _ _ _ _ _ _ _ _ _ _ _ _ _ _ _ _ _ _ _ _ _ _ _ _ _ _ _ _ _ _ _ _ _ _ _ _ _ _ _ _ _ _ _ _ _ _ _ _ _ _ _ _ _ _ _ _ _ _ _ _ _ _ _ _ _ _ _ _ _ _ _ _ _ _ _ _ _ _ _ _ _ _ _ _ _ _ _ _ ?_
      intro y2 y5 y6 y7 y8 y9 y10 y11 y12 y13 y14 y15 y16 y17 y18 y19 y20 y21 y22 y38 y39 y40 y41 y42 y43 y44 y45 y46 y47 y48 y49 y50 y51 y52 y53 y54 y55 y56 y57 y58 y59 y60 y61 y62 y63 y64 y65 y66 y67 y68 y69 y70 y71 y72 y73 y74 y75 y76 y77 y78 y79 y80 y81 y82 y83 y84 y85 y86 y87 y88 y89 y90 y91 y92 y93 y94 y95 y96 y97 y98 y99 y100 y101 y102 y103 y104 y105 y106 y107 y108 y109 y110 y111 y112 y113 y114 y115 y116 y117 y118 y119 y120 y121 y122 y123 y124 y125 y126 y127 y128 y129 y130 y131 y132 y133 y134 y135 y136 y137 y138 y139 y140 y141 y142 y143 y144 y145 y146 y147 y148 y149 y150 y151 y152 y153 y154 y155 y156 y157 y158 y159 y160 y161 y162 y163 y164 y165 y166 y167 y168 y169 y170 y171 y172 y173 y174 y175 y176 y177 y178 y179 y180 w4 hb4
      have B4 : Hid (Below W.heap.size W w4) := B1.out.trans ((hB.out.trans (hb4.out.mono hB.out.size)).mono B1.out.size)
      clear hb4
      go_wp2
      exact bodyPost_ret (results_tmp rfl _ _ _) rfl ⟨rfl, B4.out⟩
end Go.Proofs.YtfkdemkdkepmdabGreat
