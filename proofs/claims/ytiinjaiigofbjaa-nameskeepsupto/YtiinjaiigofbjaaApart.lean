/- The walk of the document's TextsApart over lists of texts that the call owns, each in a row of its own: it returns true; what was there before stays. -/
import Derived.Test.YtiinjaiigofbjaaApartMore
import Derived.Deep.RegionWith
import Derived.Deep.QuietTactic
import Derived.BigQuiet
namespace Go.Proofs.Ytiinjaiigofbjaa
open Go.RowKit

theorem Try.info22 : (Try.prog.info? 22).map (fun i => (i.zero, i.size, i.bytes)) = some (some (.slice none 0 0), 1, 24) := by kernel_rfl

/-- a region that draws its order, walked once in the text's order, over worlds of one kind that all its operations keep -/
theorem wp_region_class {P : Program} {C : World → Prop} {id : Nat} {Q : Exit → Act → World → Prop} {a : Act} {w : World} {l : List Oper} (hm : P.follows .mixedOrders = true) (hB : Region.lexB .any l.toArray = true) (hC : C { w with drawn := w.drawn + 1 })
    (h : wpQuiet P l.toArray C (fun a' => ∀ w', C w' → Q .normal a' w') l a) : (Code.region id l.toArray true).wp P Q a w :=
  wp_region_quiet (C := C) hm hB hC (by simpa using h)

set_option maxHeartbeats 4000000 in
theorem apart_any (L N B : Nat) (g c n : Nat → Nat) (ws : World) (X0 : Nat → List Value) (hN : N ≤ 200) (hB : B ≤ ws.heap.size) (hl : Lists B L N g c n X0 ws)
    (hinj : ∀ t u, t < N → u < N → g t = g u → t = u) (hL : ∀ t, t < N → L ≠ g t) (hn : ∀ t, t < N → n t ≤ 2097152) :
    Calls Try.prog 24 #[.slice (some ⟨L, 0, none⟩) N N] ws fun e w' => e = .returned (.bool true) ∧ Below B ws w' := by
  obtain ⟨i22, hi22, hz0, hz1, hz2⟩ := info_parts Try.info22
  obtain ⟨i9, hi9, hy0, hy1, hy2⟩ := info_parts Try.info9
  have HLG : Hid (0 < N → L ≠ ws.heap.size) := fun h0 => by have := World.block_lt_of_cell? ws _ (hl.lst 0 h0); simp at this; omega
  have hG : ∀ t, t < N → ws.heap.size ≠ g t := fun t ht e => by have := ((hl.own t ht).lt (g t) rfl).2; omega
  have HL : Hid _ := hl
  have HI : Hid _ := hinj
  have HLL : Hid _ := hL
  have HG : Hid _ := hG
  have HN : Hid _ := hn
  clear hl hinj hL hn hG
  go_enter Try.func24, Try.ntmps24
  go_wp2_with (at_make; refine wpList_make_full _ rfl _ _ 35 rfl B 22 i22 (.slice none 0 0) 1 Try.underlying35 hi22 hz0 hz1 _ _ _ _ N rfl rfl rfl rfl ?m1 ?m2 ?m3 ?_)
  case m1 => rw [hz2]; omega
  case m2 => unfold maxLen; omega
  case m3 => exact hB
  intro w1 hgrn hgb
  have H1 : Hid (One B L ws.heap.size N g c n ws 0 0 w1) := by
    have hb0 : Below ws.heap.size ws w1 := ⟨hgb.os, hgb.tape, hgb.output, hgb.size, fun k hk => hgb.block k hk (by simp)⟩
    exact ⟨⟨X0, HL.out.keep hb0, ⟨fun t ht => absurd ht (by omega), by simp⟩⟩, hb0.mono hB, ⟨_, hgrn⟩⟩
  clear hgrn hgb HL hz0 hz1 hz2 hi22
  go_wp2
  go_loopw [4] (fun iv wr => ∃ i : Nat, iv = .int .i64 i ∧ i ≤ N ∧ Hid (One B L ws.heap.size N g c n ws i 0 wr)) (fun iv _ => N - (intOf iv).toNat)
  case atStart => exact ⟨0, rfl, Nat.zero_le _, H1⟩
  case round =>
    obtain ⟨i, rfl, hiN, ho⟩ := hrel
    by_cases hi : i < N
    · have hni := HN.out i hi
      have HS : Hid (∀ w, Calls Try.prog 32 #[.int .i64 i] w fun e w' => e = .returned (.string (sgB i)) ∧ Below w.heap.size w w') := fun w => sign_any i (by omega) w
      go_wp2
      go_loopw [5] (fun jv w2 => ∃ j : Nat, jv = .int .i64 j ∧ j ≤ n i ∧ Hid (One B L ws.heap.size N g c n ws i j w2)) (fun jv _ => n i - (intOf jv).toNat)
      case atStart => exact ⟨0, rfl, Nat.zero_le _, ho⟩
      case round =>
        obtain ⟨j, rfl, hjn, hj⟩ := hrel
        clear ho
        have hcl := (hj.out.cell hi).1
        have hLs := (hj.out.cell hi).2
        by_cases hjl : j < n i
        · obtain ⟨⟨x, hx⟩, hf, hgs, hnc, hcm⟩ := hj.out.spot hi hjl
          unfold maxLen at hcm
          go_wp2
          go_region_with (go_at_call 32; refine (HS.out _).mono ?_; rintro e w3 ⟨rfl, hb3⟩; have hx3 : w3.cell? ⟨g i, j, none⟩ = some x := Eq.trans (hb3.cell (p := ⟨g i, j, none⟩) hgs) hx; have hf3 : w3.frozen? ⟨g i, j, none⟩ = false := Eq.trans (hb3.frozen (p := ⟨g i, j, none⟩) hgs) hf; have hc3 : w3.cell? ⟨L, i, none⟩ = some (.slice (some ⟨g i, 0, none⟩) (n i) (c i)) := Eq.trans (hb3.cell (p := ⟨L, i, none⟩) hLs) hcl)
          all_goals
            have R : Hid (One B L ws.heap.size N g c n ws i (j + 1) (w3.setCell ⟨g i, j, none⟩ (.string (sgB i)))) := One.mark hj.out hi hjl (below_undrew hb3) (Nat.le_trans hB hj.out.bel.size) (HLL.out i hi) (HG.out i hi) (fun t ht e => HI.out t i ht hi e)
            clear hb3 hx3 hf3 hc3 hx hf hcl hj
            go_wp2
            go_roundw
            case rel => exact ⟨j + 1, by go_num, by omega, R⟩
            case measure => simp [intOf]; omega
        · have hjn' : j = n i := by omega
          have R : Hid (One B L ws.heap.size N g c n ws (i + 1) 0 wr) := by have := hj.out; rw [hjn'] at this; exact this.up hi
          clear hj hjn'
          go_wp2
          go_roundw
          case rel => exact ⟨i + 1, by go_num, by omega, R⟩
          case measure => simp [intOf]; omega
    · have hiN' : i = N := by omega
      have R : Hid (Two B L ws.heap.size N g c n ws 0 g c wr) := by have := ho.out; rw [hiN'] at this; exact Two.first this g c
      clear ho hiN' H1
      go_wp2
      go_loopw [6] (fun iv wr => ∃ (i : Nat) (h cp : Nat → Nat), iv = .int .i64 i ∧ i ≤ N ∧ Hid (Two B L ws.heap.size N g c n ws i h cp wr)) (fun iv _ => N - (intOf iv).toNat)
      case atStart => exact ⟨0, g, c, rfl, Nat.zero_le _, R⟩
      case round =>
        clear R
        obtain ⟨i, h, cp, rfl, hiN, ht⟩ := hrel
        by_cases hi : i < N
        · have hni := HN.out i hi
          have HS : Hid (∀ w, Calls Try.prog 32 #[.int .i64 i] w fun e w' => e = .returned (.string (sgB i)) ∧ Below w.heap.size w w') := fun w => sign_any i (by omega) w
          have hcl := ht.out.all.lst i hi
          have M0 : Hid (Mid B L ws.heap.size N g c n ws i 0 (g i) (c i) h cp wr) := Mid.first ht.out hi HI.out HLL.out HG.out
          clear ht
          go_wp2
          go_loopw [7, 8] (fun gv kv wr => ∃ k b cap : Nat, gv = .slice (some ⟨b, 0, none⟩) (n i + k) cap ∧ kv = .int .i64 k ∧ k ≤ 70 ∧ Hid (Mid B L ws.heap.size N g c n ws i k b cap h cp wr)) (fun _ kv _ => 70 - (intOf kv).toNat)
          case atStart => exact ⟨0, g i, c i, rfl, rfl, by omega, M0⟩
          case round =>
            clear M0 hcl
            obtain ⟨k, b, cap, rfl, rfl, hk70, hm⟩ := hrel
            have hBw : B ≤ wr.heap.size := Nat.le_trans hB hm.out.two.bel.size
            by_cases hkl : k < 70
            · go_wp2_with (first
                | (go_at_call 32; refine (HS.out _).mono ?_; rintro e w3 ⟨rfl, hb3⟩; have M3 : Hid (Mid B L ws.heap.size N g c n ws i k b cap h cp (w3.alloc (.cells #[.string (sgB i)] 9))) := hm.out.keep (Below.alloc hb3 hb3.size _) hBw; clear hb3)
                | (at_builtin; refine wpList_append_keep _ rfl _ _ 22 rfl 9 i9 (.string ⟨#[]⟩) 16 Try.underlying22 hi9 hy0 hy1 hy2 rfl B b (n i + k) cap _ rfl M3.out.own ⟨w3.heap.size, 0, none⟩ 1 (.string (sgB i)) rfl ?c1 rfl ?c3 ?c4 ?c5 ?_))
              case c1 => rw [cell_of_row _ w3.heap.size 0 _ 9 (0, 0) (heap_alloc_new w3 _)]; rfl
              case c3 => unfold maxLen; omega
              case c4 => omega
              case c5 => exact Nat.le_trans hB M3.out.two.bel.size
              · intro g' cap' w' ho hg hg' hkp
                have M : Hid (Mid B L ws.heap.size N g c n ws i (k + 1) g' cap' h cp w') := Mid.next M3.out hi (Nat.le_trans hB M3.out.two.bel.size) ho hg (by simpa using hg') hkp
                clear M3 ho hg hg' hkp hm
                go_wp2
                go_roundw
                case rel => exact ⟨k + 1, g', cap', rfl, by go_num, by omega, M⟩
                case measure => simp [intOf]; omega
            · have hk' : k = 70 := by omega
              subst hk'
              obtain ⟨Y, hyo, _⟩ := hm.out.two.grn
              have hyl : Y.length = N := by have := hyo.1; omega
              have hcg := hyo.cellAt i (by omega)
              rw [List.getElem?_eq_getElem (by omega)] at hcg
              have hfg := hyo.frozenAt i
              have R : Hid (Two B L ws.heap.size N g c n ws (i + 1) (fun t => if t = i then b else h t) (fun t => if t = i then cap else cp t) (wr.setCell ⟨ws.heap.size, i, none⟩ (.slice (some ⟨b, 0, none⟩) (n i + 70) cap))) := hm.out.done hi (HLG.out (by omega)) HG.out
              clear hm hyo
              go_wp2
              go_roundw
              case rel => exact ⟨i + 1, _, _, by go_num, by omega, R⟩
              case measure => simp [intOf]; omega
        · have hiN' : i = N := by omega
          have R : Hid (Two B L ws.heap.size N g c n ws N h cp wr) := by have := ht.out; rw [hiN'] at this; exact this
          clear ht hiN'
          go_wp2
          go_loopw [9] (fun iv wr => ∃ i : Nat, iv = .int .i64 i ∧ i ≤ N ∧ Hid (Two B L ws.heap.size N g c n ws N h cp wr)) (fun iv _ => N - (intOf iv).toNat)
          case atStart => exact ⟨0, rfl, Nat.zero_le _, R⟩
          case round =>
            clear R
            obtain ⟨i, rfl, hiN, ht⟩ := hrel
            by_cases hi : i < N
            · have hni := HN.out i hi
              have HS : Hid (∀ w, Hid (Two B L ws.heap.size N g c n ws N h cp w) → Calls Try.prog 32 #[.int .i64 i] w fun e w' => e = .returned (.string (sgB i)) ∧ Hid (Two B L ws.heap.size N g c n ws N h cp w')) :=
                fun w T => (sign_any i (by omega) w).mono fun e w' ⟨he, hb⟩ => ⟨he, T.out.keep hb (Nat.le_trans hB T.out.bel.size)⟩
              go_wp2
              go_loopw [10] (fun jv wr => ∃ j : Nat, jv = .int .i64 j ∧ j ≤ n i + 70 ∧ Hid (Two B L ws.heap.size N g c n ws N h cp wr)) (fun jv _ => n i + 70 - (intOf jv).toNat)
              case atStart => exact ⟨0, rfl, Nat.zero_le _, ht⟩
              case round =>
                clear ht
                obtain ⟨j, rfl, hjn, hT⟩ := hrel
                obtain ⟨c1, c2, c3, c4, s1, s2, s3, s4, m1, m2, m3, m4⟩ := hT.out.cells hi
                unfold maxLen at m2 m4
                by_cases hjl : j < n i + 70
                · skip
                  have T0 : Hid (Two B L ws.heap.size N g c n ws N h cp wr.drew) := hT.out.keep ((Below.refl _ _).drew) (Nat.le_trans hB hT.out.bel.size)
                  obtain ⟨σ, V, V1, V2⟩ : ∃ (σ : Type) (V : σ → World), Hid (∀ s, Hid (Two B L ws.heap.size N g c n ws N h cp (V s))) ∧ Hid (∀ w, Hid (Two B L ws.heap.size N g c n ws N h cp w) → ∃ s, w = V s) :=
                    ⟨{w // Hid (Two B L ws.heap.size N g c n ws N h cp w)}, Subtype.val, fun s => s.2, fun w q => ⟨⟨w, q⟩, rfl⟩⟩
                  have hne : Nonempty σ := (V2.out _ T0).elim fun s _ => ⟨s⟩
                  have q1 : ∀ s, (V s).cell? ⟨ws.heap.size, i, none⟩ = some (.slice (some ⟨h i, 0, none⟩) (n i + 70) (cp i)) := fun s => ((V1.out s).out.cells hi).1
                  have q2 : ∀ s, (V s).cell? ⟨L, i, none⟩ = some (.slice (some ⟨g i, 0, none⟩) (n i) (c i)) := fun s => ((V1.out s).out.cells hi).2.1
                  have q3 : ∀ s, (V s).cell? ⟨h i, j, none⟩ = some (.string (sgB i)) := fun s => ((V1.out s).out.cells hi).2.2.1 j hjl
                  clear c3 c4
                  by_cases hjn' : j < n i
                  · skip
                    have q4 : ∀ s, (V s).cell? ⟨g i, j, none⟩ = some (.string (sgB i)) := fun s => ((V1.out s).out.cells hi).2.2.2.1 j hjn'
                    go_wp2
                    refine wp_region_class (C := fun w' => ∃ s, w' = V s) (by kernel_rfl) (by kernel_rfl) (V2.out _ T0) ?_
                    repeat (go_big_quiet_step ((go_at_call 32; exact (HS.out _ (V1.out _)).mono fun e w'' z => ⟨z.1, V2.out _ z.2⟩)))
                    refine wpQuiet_nil ?_
                    intro w9 hw9
                    obtain ⟨s9, rfl⟩ := hw9
                    go_wp2
                    go_roundw
                    case rel => exact ⟨j + 1, by go_num, by omega, V1.out s9⟩
                    case measure => simp [intOf]; omega
                  · skip
                    have hdj : decide ((j : Int) < (n i : Int)) = false := by simp; omega
                    go_wp2
                    refine wp_region_class (C := fun w' => ∃ s, w' = V s) (by kernel_rfl) (by kernel_rfl) (V2.out _ T0) ?_
                    repeat (go_big_quiet_step ((go_at_call 32; exact (HS.out _ (V1.out _)).mono fun e w'' z => ⟨z.1, V2.out _ z.2⟩)))
                    refine wpQuiet_nil ?_
                    intro w9 hw9
                    obtain ⟨s9, rfl⟩ := hw9
                    go_wp2
                    go_roundw
                    case rel => exact ⟨j + 1, by go_num, by omega, V1.out s9⟩
                    case measure => simp [intOf]; omega
                · clear c3 c4
                  go_wp2
                  go_roundw
                  case rel => exact ⟨i + 1, by go_num, by omega, hT⟩
                  case measure => simp [intOf]; omega
            · have hbl := ht.out.bel
              clear ht
              go_wp2
              go_ret
              exact ⟨rfl, hbl⟩

end Go.Proofs.Ytiinjaiigofbjaa
