/- arbiterref06.NumsApart: the walk. -/
import Derived.Test.YtdjmjdlolhfejaaKcC
import Derived.Laws.MakeOwn
import Derived.Deep.AppendLies
namespace Go.Proofs.Ytdjmjdlolhfejaa
open Go.RowKit Go.Maps

theorem grown_set (w : World) (g j : Nat) (v : Value) : w.grownBy (w.setCell ⟨g, j, none⟩ v) (some g) := ⟨rfl, rfl, rfl, by simp, fun k _ hk => Below.heap_setCell _ _ _ _ (fun e => hk (by rw [e]))⟩
theorem Try.hinfoIn2 : (Try.prog.info? 3).map (fun i => (i.zero, i.size, i.bytes)) = some (some (.int .i64 0), 1, 8) := by kernel_rfl
theorem Try.hinfoSl : (Try.prog.info? 35).map (fun i => (i.zero, i.size, i.bytes)) = some (some (.slice none 0 0), 1, 24) := by kernel_rfl
set_option maxRecDepth 100000 in
set_option maxHeartbeats 8000000 in
theorem apart_c (N : Nat) (R : List SlT) (W : World) (gl cl : Nat) (S : NaS N R W) (hl : W.heap[gl]? = some (.cells (R.map slV).toArray 35 (0, 0))) (hM : R.length ≤ 100) (hn : ∀ (j : Nat) (r : SlT), R[j]? = some r → r.2.1 ≤ 1000000) : Calls Try.prog 22 #[.slice (some ⟨gl, 0, none⟩) R.length cl] W fun e w' => e = .returned (.bool true) ∧ KpR N R W w' := by
  obtain ⟨M, hMe⟩ : ∃ M, R.length = M := ⟨_, rfl⟩
  have HM : Hid (R.length = M) := hMe
  rw [hMe] at hM ⊢
  clear hMe
  have SS : Hid (NaS N R W) := S
  have glL : gl < W.heap.size := (Array.getElem?_eq_some_iff.1 hl).1
  have GLn : ∀ (j : Nat) (r : SlT), R[j]? = some r → (slV r).ownBlock ≠ some gl := fun j r hj e => by
    obtain ⟨xs, h⟩ := S.own j r hj
    rcases h.2 with ⟨e1, _⟩ | ⟨g, cap, cur, e1, _, h3, _⟩
    · rw [e1] at e; cases e
    · rw [e1] at e
      injection e with e
      simp only at e
      subst e
      rw [hl] at h3
      injection h3 with h3
      injection h3 with _ h3
      exact absurd h3 (by decide)
  have CE : Hid (∀ w, KpR N R W w → ∀ (j : Nat) (a : Option Addr) (n c : Nat), R[j]? = some (a, n, c) → w.cell? ⟨gl, j, none⟩ = some (.slice a n c)) := fun w h j a n c hj => by
    rw [cell_of_row w gl j _ _ _ ((h.2 gl glL GLn).trans hl)]
    simp [hj, slV]
  have HN : Hid (∀ (j : Nat) (r : SlT), R[j]? = some r → r.2.1 ≤ 1000000) := hn
  clear S glL GLn hl hn
  obtain ⟨i0, hi0, hz0, hz1, hz2⟩ := info_parts Try.hinfoIn2
  obtain ⟨iM, hiM, hzM, hsM, hbM⟩ := info_parts Try.hinfoSl
  obtain ⟨G0, hG0, hGl⟩ : ∃ G0 : List Value, madeCells (Value.slice none 0 0).cells (M * 1) = G0.toArray ∧ G0.length = M := ⟨(madeCells (Value.slice none 0 0).cells (M * 1)).toList, by simp, by rw [Array.length_toList, size_madeCells]; omega⟩
  have hmk : ∀ w : World, (Instr.makeSlice 72 (.int .i64 (M : Int)) (.int .i64 (M : Int))).run Try.prog w = .ok (.slice (some ⟨w.heap.size, 0, none⟩) M M) (w.alloc (.cells G0.toArray 35)) := fun w => by
    have := run_make w (P := Try.prog) 72 35 iM _ Try.underlying72 hiM hzM .i64 .i64 (M : Int) (M : Int) (by omega) (Int.le_refl _) (by rw [hbM]; omega) (by omega)
    rw [hsM, Int.toNat_natCast, hG0] at this
    exact this
  have A0 : Hid (KpR N R W (W.alloc (.cells G0.toArray 35)) ∧ RowsA N R 0 0 (W.alloc (.cells G0.toArray 35)) ∧ (W.alloc (.cells G0.toArray 35)).heap[W.heap.size]? = some (.cells G0.toArray 35 (0, 0))) :=
    ⟨(KpR.refl N R W).alloc SS.out.base _, (RowsA.start SS.out).kept (World.grownBy_alloc W _ none) (fun k e => by cases e), halloc1 _ _⟩
  go_enter Try.func22, Try.ntmps22
  go_wp2
  go_loopw [4] (fun iv wr => ∃ i : Nat, iv = .int .i64 i ∧ i ≤ M ∧ Hid (KpR N R W wr ∧ RowsA N R i 0 wr ∧ wr.heap[W.heap.size]? = some (.cells G0.toArray 35 (0, 0)))) (fun iv _ => M - (intOf iv).toNat)
  case atStart => exact ⟨0, rfl, Nat.zero_le _, A0.out⟩
  case round =>
    obtain ⟨i, rfl, hi, hI⟩ := hrel
    clear A0 hmk
    by_cases hlt : i < M
    · have hiI : (i : Int) < (M : Int) := by omega
      obtain ⟨⟨a, n, c⟩, hr⟩ : ∃ r, R[i]? = some r := ⟨_, List.getElem?_eq_getElem (by rw [HM.out]; exact hlt)⟩
      have hn : n ≤ 1000000 := HN.out i _ hr
      have HR : Hid (R[i]? = some (a, n, c)) := hr
      clear hr
      go_wp2
      go_loopw [5] (fun jv wq => ∃ q : Nat, jv = .int .i64 q ∧ q ≤ n ∧ Hid (KpR N R W wq ∧ RowsA N R i q wq ∧ wq.heap[W.heap.size]? = some (.cells G0.toArray 35 (0, 0)))) (fun jv _ => n - (intOf jv).toNat)
      case atStart => exact ⟨0, rfl, Nat.zero_le _, hI.out⟩
      case round =>
        obtain ⟨q, rfl, hq, hQ⟩ := hrel
        have x0 := CE.out _ hQ.out.1 i a n c HR.out
        by_cases hq2 : q < n
        · have hqI : (q : Int) < (n : Int) := by omega
          obtain ⟨xs, h1, _⟩ := hQ.out.2.1 i _ HR.out
          obtain ⟨g, cp, hf⟩ := Go.Joins.ownsRow_form h1 (by show 0 < n; omega)
          injection hf with e1 _ e2
          simp only at e1 e2
          subst e1 e2
          have hlen : xs.length = n * 1 := h1.1
          have y0 := (World.ownsRow.cellAt h1 q (by show q < n * 1; omega)).trans (List.getElem?_eq_getElem (by omega))
          generalize xs[q] = yv at y0
          have yf := World.ownsRow.frozenAt h1 q
          have hwr : IntKind.i64.wrap (-1 - (i : Int)) = -1 - (i : Int) := by rw [IntKind.wrap_i64]; omega
          have NX : Hid (KpR N R W (wr.setCell ⟨g, q, none⟩ (.int .i64 (-1 - (i : Int)))) ∧ RowsA N R i (q + 1) (wr.setCell ⟨g, q, none⟩ (.int .i64 (-1 - (i : Int)))) ∧ (wr.setCell ⟨g, q, none⟩ (.int .i64 (-1 - (i : Int)))).heap[W.heap.size]? = some (.cells G0.toArray 35 (0, 0))) := by
            have st := RowsA.store SS.out hQ.out.2.1 HR.out hq2
            have bl := SS.out.blk HR.out (k := g) rfl
            refine ⟨hQ.out.1.grown SS.out.base st.2 (fun k e => ?_), st.1, ?_⟩
            · injection e with e
              subst e
              exact ⟨bl.1, .inl ⟨i, _, HR.out, rfl⟩⟩
            · exact (heap_setCell_other _ _ _ _ (by simp; omega)).trans hQ.out.2.2
          clear h1 hlen
          go_wp2
          exact ⟨⟨q + 1, by simp, by omega, NX.out⟩, by simp [intOf]; omega⟩
        · have e : q = n := by omega
          subst e
          go_wp2
          exact ⟨⟨i + 1, by simp, by omega, hQ.out.1, RowsA.next (r := (a, q, c)) hQ.out.2.1 HR.out, hQ.out.2.2⟩, by simp [intOf]; omega⟩
    · have e : i = M := by omega
      subst e
      have hI2 := hI.out
      have B0 : Hid (KpR N R W wr ∧ RowsB N R wr ∧ ∃ G : List Value, G.length = i ∧ wr.heap[W.heap.size]? = some (.cells G.toArray 35 (0, 0)) ∧ GrB N R W 0 wr.heap.size G wr) := ⟨hI2.1, by have := hI2.2.1; rw [← HM.out] at this; exact this.full, G0, hGl, hI2.2.2, fun j r hj => absurd hj (by omega)⟩
      clear hI hI2
      go_wp2
      go_loopw [6] (fun iv wp => ∃ m : Nat, iv = .int .i64 m ∧ m ≤ i ∧ Hid (KpR N R W wp ∧ RowsB N R wp ∧ ∃ G : List Value, G.length = i ∧ wp.heap[W.heap.size]? = some (.cells G.toArray 35 (0, 0)) ∧ GrB N R W m wp.heap.size G wp)) (fun iv _ => i - (intOf iv).toNat)
      case atStart => exact ⟨0, rfl, Nat.zero_le _, B0.out⟩
      case round =>
        obtain ⟨m, rfl, hm, hP⟩ := hrel
        by_cases hlt2 : m < i
        · have hmI : (m : Int) < (i : Int) := by omega
          obtain ⟨⟨a, n, c⟩, hr⟩ : ∃ r, R[m]? = some r := ⟨_, List.getElem?_eq_getElem (by rw [HM.out]; exact hlt2)⟩
          have hn : n ≤ 1000000 := HN.out m _ hr
          have HR : Hid (R[m]? = some (a, n, c)) := hr
          clear hr B0
          obtain ⟨hK, hB, G, hGL, hGh, hGB⟩ := hP.out
          have x0 := CE.out _ hK m a n c HR.out
          obtain ⟨Z, hZ⟩ : ∃ Z, wr.heap.size = Z := ⟨_, rfl⟩
          have hZ1 : W.heap.size < Z := by rw [← hZ]; exact (Array.getElem?_eq_some_iff.1 hGh).1
          rw [hZ] at hGB
          have C0 : Hid (KpR N R W wr ∧ RowsB N R wr ∧ GrB N R W m Z G wr ∧ CurB N (a, n, c) m 0 Z a c wr ∧ wr.heap[W.heap.size]? = some (.cells G.toArray 35 (0, 0)) ∧ Z ≤ wr.heap.size) := ⟨hK, hB, hGB, CurB.start hB HR.out, hGh, by omega⟩
          clear hP hK hB hGh hGB hZ
          go_wp2
          go_loopw [7, 8] (fun gv kv wq => ∃ (q : Nat) (a' : Option Addr) (c' : Nat), kv = .int .i64 q ∧ gv = .slice a' (n + q) c' ∧ q ≤ 40 ∧ Hid (KpR N R W wq ∧ RowsB N R wq ∧ GrB N R W m Z G wq ∧ CurB N (a, n, c) m q Z a' c' wq ∧ wq.heap[W.heap.size]? = some (.cells G.toArray 35 (0, 0)) ∧ Z ≤ wq.heap.size)) (fun _ kv _ => 40 - (intOf kv).toNat)
          case atStart => exact ⟨0, a, c, rfl, rfl, Nat.zero_le _, C0.out⟩
          case round =>
            obtain ⟨q, a', c', rfl, rfl, hq, hQ⟩ := hrel
            clear C0 x0
            by_cases hq2 : q < 40
            · have hqI : (q : Int) < 40 := by omega
              have hwr : IntKind.i64.wrap (-1 - (m : Int)) = -1 - (m : Int) := by rw [IntKind.wrap_i64]; omega
              go_wp2_with (at_builtin; refine wpList_append_kp rfl _ _ 35 rfl N 3 i0 (.int .i64 0) 1 8 Try.underlying35 hi0 hz0 hz1 hz2 rfl (by decide) (.slice a' (n + q) c') (n + q) (List.replicate (n + q) (nmv m)) rfl (hQ.out.2.2.2.1.1.alloc _) ⟨wr.heap.size, 0, none⟩ 1 1 [nmv m] rfl rfl ?c1 ?c2 ?c3 ?c4 ?c5 ?_)
              case c1 => exact World.news_of_block (cs := #[nmv m]) (halloc1 _ _)
              case c2 => intro u hu; simp at hu; rw [hu]; rfl
              case c3 => unfold maxLen; omega
              case c4 => omega
              case c5 => have h1 := SS.out.base; have h2 := hQ.out.1.1.size; simp; omega
              intro v' w4 hown hgrow hblk hkp
              obtain ⟨a4, c4, rfl⟩ := ownv hown
              obtain ⟨hK, hB, hG, hC, hH, hZw⟩ := hQ.out
              have NX : Hid (KpR N R W w4 ∧ RowsB N R w4 ∧ GrB N R W m Z G w4 ∧ CurB N (a, n, c) m (q + 1) Z a4 c4 w4 ∧ w4.heap[W.heap.size]? = some (.cells G.toArray 35 (0, 0)) ∧ Z ≤ w4.heap.size) := by
                have hlt : W.heap.size < wr.heap.size := by omega
                have ap := appB (a := a') (c := c') SS.out (hK.alloc SS.out.base _) (fun j r hj => (hB j r hj).alloc _) (fun j r h1 h2 => by obtain ⟨u1, u2, u3, u4, u5⟩ := hG j r h1 h2; exact ⟨u1, u2, u3, u4.alloc _, u5⟩) HR.out ⟨hC.1.alloc _, hC.2⟩ hZ1 (by simp; omega) hgrow hkp
                refine ⟨ap.1, ap.2.1, ap.2.2.1, ⟨?_, fun k hk => ?_⟩, ap.2.2.2.trans ((Below.heap_alloc _ _ _ hlt).trans hH), ?_⟩
                · have e := List.replicate_succ' (n := n + q) (a := nmv m)
                  show w4.ownsRow N 3 1 (.slice a4 (n + (q + 1)) c4) (n + (q + 1)) (List.replicate (n + (q + 1)) (nmv m))
                  rw [← Nat.add_assoc, e]
                  exact hown
                · rcases hblk k hk with h | h
                  · exact hC.2 k h
                  · exact .inr (by first | omega | (simp at h; omega))
                · have := hgrow.size
                  simp at this
                  omega
              clear hown hgrow hblk hkp hK hB hG hC hH hZw hQ
              go_wp2
              exact ⟨⟨q + 1, a4, c4, by simp, rfl, by omega, NX.out⟩, by simp [intOf]; omega⟩
            · have e : q = 40 := by omega
              subst e
              obtain ⟨hK, hB, hG, hC, hH, hZw⟩ := hQ.out
              obtain ⟨yv, hyv⟩ : ∃ yv, G[m]? = some yv := ⟨_, List.getElem?_eq_getElem (by omega)⟩
              have y0 : wr.cell? ⟨W.heap.size, m, none⟩ = some yv := (cell_of_row wr W.heap.size m _ _ _ hH).trans (by rw [List.getElem?_toArray]; exact hyv)
              clear hyv
              have yf := frozen_of_row wr W.heap.size m _ _ hH
              have NX : Hid (KpR N R W (wr.setCell ⟨W.heap.size, m, none⟩ (.slice a' (n + 40) c')) ∧ RowsB N R (wr.setCell ⟨W.heap.size, m, none⟩ (.slice a' (n + 40) c')) ∧ ∃ G : List Value, G.length = i ∧ (wr.setCell ⟨W.heap.size, m, none⟩ (.slice a' (n + 40) c')).heap[W.heap.size]? = some (.cells G.toArray 35 (0, 0)) ∧ GrB N R W (m + 1) (wr.setCell ⟨W.heap.size, m, none⟩ (.slice a' (n + 40) c')).heap.size G (wr.setCell ⟨W.heap.size, m, none⟩ (.slice a' (n + 40) c'))) := by
                have gs := grown_set wr W.heap.size m (.slice a' (n + 40) c')
                have ne : ∀ (j : Nat) (r : SlT), R[j]? = some r → (slV r).ownBlock ≠ some W.heap.size := fun j r hj e => by have := (SS.out.blk hj e).2; omega
                refine ⟨hK.grown SS.out.base gs (fun k e => ?_), hB.kept gs ne, G.set m (.slice a' (n + 40) c'), by rw [List.length_set]; exact hGL, ?_, ?_⟩
                · injection e with e
                  subst e
                  exact ⟨SS.out.base, .inr (Nat.le_refl _)⟩
                · rw [heap_setCell_same _ _ _ _ _ _ hH]
                  simp
                · exact (GrB.next (r := (a, n, c)) hG HR.out hC hZ1 hZw (by simp) (by omega)).kept gs rfl ne
              clear hK hB hG hC hH hZw hQ
              go_wp2
              exact ⟨⟨m + 1, by simp, by omega, NX.out⟩, by simp [intOf]; omega⟩
        · have e : m = i := by omega
          subst e
          obtain ⟨hK, hB, G, hGL, hGh, hGB⟩ := hP.out
          clear hP B0
          have D0 : Hid (KpR N R W wr) := hK
          have GC : Hid (∀ (j : Nat) (a : Option Addr) (n c : Nat), R[j]? = some (a, n, c) → wr.cell? ⟨gl, j, none⟩ = some (.slice a n c)) := CE.out _ hK
          have GG : Hid (∀ (j : Nat) (a : Option Addr) (n c : Nat), R[j]? = some (a, n, c) → ∃ a' c', wr.cell? ⟨W.heap.size, j, none⟩ = some (.slice a' (n + 40) c') ∧ wr.ownsRow N 3 1 (.slice a' (n + 40) c') (n + 40) (List.replicate (n + 40) (nmv j))) := fun j a n c hj => by
            obtain ⟨a', c', u1, u2, _⟩ := hGB j _ (by rw [← HM.out]; exact (List.getElem?_eq_some_iff.1 hj).1) hj
            exact ⟨a', c', by rw [cell_of_row wr W.heap.size j _ _ _ hGh, List.getElem?_toArray]; exact u1, u2⟩
          have RB : Hid (RowsB N R wr) := hB
          clear hK hB hGL hGh hGB CE
          obtain ⟨wz, hwz⟩ : ∃ wz, wr = wz := ⟨_, rfl⟩
          rw [hwz] at D0 GC GG RB ⊢
          clear hwz
          go_wp2
          go_loopw [9] (fun iv wr => ∃ i : Nat, iv = .int .i64 i ∧ i ≤ m ∧ wr = wz) (fun iv _ => m - (intOf iv).toNat)
          case atStart => exact ⟨0, rfl, Nat.zero_le _, rfl⟩
          case round =>
            obtain ⟨i, rfl, hi3, hwz⟩ := hrel
            rw [hwz]
            clear hwz
            by_cases hlt3 : i < m
            · have hiI : (i : Int) < (m : Int) := by omega
              obtain ⟨⟨a, n, c⟩, hr⟩ : ∃ r, R[i]? = some r := ⟨_, List.getElem?_eq_getElem (by rw [HM.out]; exact hlt3)⟩
              have hn : n ≤ 1000000 := HN.out i _ hr
              have x0 := GC.out i a n c hr
              obtain ⟨a', c', x1, hO⟩ := GG.out i a n c hr
              have hL := RB.out i _ hr
              obtain ⟨g', cp', hf⟩ := Go.Joins.ownsRow_form hO (by omega)
              injection hf with e1 _ e2
              subst e1 e2
              have hwr : IntKind.i64.wrap (-1 - (i : Int)) = -1 - (i : Int) := by rw [IntKind.wrap_i64]; omega
              clear hr
              go_wp2
              go_loopw [10] (fun jv wr => ∃ q : Nat, jv = .int .i64 q ∧ q ≤ n + 40 ∧ wr = wz) (fun jv _ => n + 40 - (intOf jv).toNat)
              case atStart => exact ⟨0, rfl, Nat.zero_le _, rfl⟩
              case round =>
                obtain ⟨q, rfl, hq, hwz⟩ := hrel
                rw [hwz]
                clear hwz
                by_cases hq2 : q < n + 40
                · have hqI : (q : Int) < ((n + 40 : Nat) : Int) := by omega
                  have y0 : wz.cell? ⟨g', q, none⟩ = some (.int .i64 (-1 - (i : Int))) := (World.ownsRow.cellAt hO q (by omega)).trans (by rw [List.getElem?_replicate, if_pos hq2]; rfl)
                  by_cases hq3 : q < n
                  · have hq3I : (q : Int) < (n : Int) := by omega
                    obtain ⟨g, cp, hf⟩ := Go.Joins.ownsRow_form hL (by show 0 < n; omega)
                    injection hf with e1 _ e2
                    simp only at e1 e2
                    subst e1 e2
                    have z0 : wz.cell? ⟨g, q, none⟩ = some (.int .i64 (-1 - (i : Int))) := (World.ownsRow.cellAt hL q (by show q < n * 1; omega)).trans (by rw [List.getElem?_replicate, if_pos hq3]; rfl)
                    clear hL hO
                    go_wp2
                    exact ⟨⟨q + 1, by simp, by omega, trivial⟩, by simp [intOf]; omega⟩
                  · have hq3I : ¬ (q : Int) < (n : Int) := by omega
                    clear hL hO
                    go_wp2
                    exact ⟨⟨q + 1, by simp, by omega, trivial⟩, by simp [intOf]; omega⟩
                · have e : q = n + 40 := by omega
                  subst e
                  go_wp2
                  exact ⟨⟨i + 1, by simp, by omega, trivial⟩, by simp [intOf]; omega⟩
            · have e : i = m := by omega
              subst e
              go_wp2
              exact bodyPost_ret (results_tmp rfl _ _ _) rfl ⟨rfl, D0.out⟩
end Go.Proofs.Ytdjmjdlolhfejaa
