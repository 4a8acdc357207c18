/- The document's cache: Put of a new key: its set has room (rput_fit), or the last of the set goes (rput_cut). (Written by genkbe.py.) -/
import Derived.Test.YtdjmjdlolhfejaaKbQ
import Derived.Deep.DeepCutAuto
import Derived.Deep.RegionLaw
namespace Go.Proofs.Ytdjmjdlolhfejaa
open Go.RowKit Go.Maps

set_option maxRecDepth 100000 in
set_option maxHeartbeats 8000000 in
theorem rput_cut_w {W : World} {r cap n Z : Nat} {L' : List (Int × Int)} {h m : Int} (f : Int → Nat) (key value : Int) (hz : ¬ ((cap : Int) = 0)) (hn9 : n ≤ 100) (HN : Hid (L'.length = n))
    (HP : Hid (Calls Try.prog 32 #[.pointer (some ⟨r, 0, none⟩), .int .i64 key] W fun e w' => e = .returned (.int .i64 (-1)) ∧ w' = W))
    (HC : Hid (Calls Try.prog 33 #[.pointer (some ⟨r, 0, none⟩), .int .i64 (-1), .int .i64 key, .int .i64 value] W fun e w' => e = .returned (.tuple #[]) ∧ (∃ kv' vv', RcAt w' r cap kv' vv' L' h m) ∧ Tch (fun k => k = r) W w'))
    (c0 : W.cell? ⟨r, 0, none⟩ = some (.int .i64 cap))
    (HS : Hid (∀ w kv vv x, RcAt w r cap kv vv L' h m → Calls Try.prog 34 #[.pointer (some ⟨r, 0, none⟩), .int .i64 x] w fun e w' => e = .returned (.int .i64 (f x)) ∧ w' = w))
    (HR : Hid (∀ w kv vv, RcAt w r cap kv vv L' h m → Calls Try.prog 35 #[.pointer (some ⟨r, 0, none⟩), .int .i64 (f key)] w fun e w' => e = .returned (.int .i64 Z) ∧ w' = w))
    (FT : Hid (Z < cnF f (f key) L')) {li : Nat} {k1 v1 : Int} (HX : Hid (L'[li]? = some (k1, v1))) (HLA : Hid (laF f (f key) L' 0 0 = li)) :
    Calls Try.prog 19 #[.pointer (some ⟨r, 0, none⟩), .int .i64 key, .int .i64 value] W fun e w' => e = .returned (.tuple #[.int .i64 k1, .int .i64 v1, .bool true]) ∧ (∃ kv' vv', RcAt w' r cap kv' vv' (L'.take li ++ L'.drop (li + 1)) h m) ∧ Tch (fun k => k = r) W w' := by
  obtain ⟨i0, hi0, hz0, hz1, hz2⟩ := info_parts Try.hinfoI
  have CL : Hid (cnF f (f key) L' ≤ n) := by rw [Hid, ← HN.out]; exact cnF_le _ _ _
  go_enter Try.func19, Try.ntmps19
  go_wp2_with (first
    | (go_at_call 32; refine HP.out.mono ?_; rintro e w' ⟨rfl, hwq⟩; obtain rfl := hwq.symm; clear HP)
    | (go_at_call 33; refine HC.out.mono ?_; rintro e w2 ⟨rfl, ⟨kv', vv', hk2⟩, ht2⟩; clear HC))
  have HH : Hid (RcAt w2 r cap kv' vv' L' h m) := hk2
  have TT : Hid (Tch (fun k => k = r) W w2) := ht2
  have d1 := hk2.cells.2.1
  have hks := hk2.ks
  rw [HN.out] at hks
  obtain ⟨ka, kc, rfl⟩ := ownv hks
  have HK : Hid (w2.ownsRow 0 3 1 (.slice ka n kc) n (intC (L'.map Prod.fst))) := hks
  have S2 : Hid (∀ x, Calls Try.prog 34 #[.pointer (some ⟨r, 0, none⟩), .int .i64 x] w2 fun e w' => e = .returned (.int .i64 (f x)) ∧ w' = w2) := fun x => HS.out _ _ _ x hk2
  have S3 : Hid (Calls Try.prog 35 #[.pointer (some ⟨r, 0, none⟩), .int .i64 (f key)] w2 fun e w' => e = .returned (.int .i64 Z) ∧ w' = w2) := HR.out _ _ _ hk2
  clear hk2 hks ht2 HS HR c0
  go_loopw [10, 11, 12] (fun nv lv iv wr => ∃ i c a : Nat, iv = .int .i64 i ∧ i ≤ n ∧ nv = .int .i64 c ∧ lv = .int .i64 a ∧ wr = w2 ∧ c ≤ i ∧ a ≤ n ∧ Hid (c + cnF f (f key) (L'.drop i) = cnF f (f key) L') ∧ Hid (laF f (f key) (L'.drop i) i a = laF f (f key) L' 0 0)) (fun _ _ iv _ => n - (intOf iv).toNat)
  case atStart => exact ⟨0, 0, 0, rfl, Nat.zero_le _, rfl, rfl, rfl, Nat.le_refl _, Nat.zero_le _, (by rw [Hid]; simp), (by rw [Hid]; rfl)⟩
  case round =>
    obtain ⟨i, c, a, rfl, hi, rfl, rfl, rfl, hc, ha, hp, hq⟩ := hrel
    by_cases hlt : i < n
    · obtain ⟨⟨x1, x2⟩, hx⟩ : ∃ x, L'[i]? = some x := ⟨_, List.getElem?_eq_getElem (by rw [HN.out]; exact hlt)⟩
      obtain ⟨g, rfl⟩ : ∃ g, ka = some ⟨g, 0, none⟩ := by
        rcases HK.out.2 with ⟨_, e⟩ | ⟨g, c, cur, e, _⟩
        · omega
        · cases e; exact ⟨g, rfl⟩
      have y : wr.cell? ⟨g, i, none⟩ = some (.int .i64 x1) := (HK.out.cellAt i (by omega)).trans (by simp [intC, hx])
      have q := cnF_at (f := f) (j := f key) hx
      have q2 := laF_at (f := f) (j := f key) (a := a) hx
      by_cases e : f x1 = f key
      · have HZ : Hid (c + 1 + cnF f (f key) (L'.drop (i + 1)) = cnF f (f key) L') := by rw [Hid, ← hp.out, q, if_pos e]; omega
        have HY : Hid (laF f (f key) (L'.drop (i + 1)) (i + 1) i = laF f (f key) L' 0 0) := by rw [Hid, ← hq.out, q2, if_pos e]
        have e2 : ((f x1 : Int) = (f key : Int)) := by omega
        clear hp hq q q2 hx FT CL e S3
        go_wp2_with (go_at_call 34; refine (S2.out _).mono ?_; rintro e w' ⟨rfl, hwq⟩; obtain rfl := hwq.symm)
        go_roundw
        case rel => exact ⟨i + 1, c + 1, i, by go_num, by omega, by go_num, rfl, by first | rfl | trivial, by omega, by omega, HZ, HY⟩
        case measure => simp [intOf]; omega
      · have HZ : Hid (c + cnF f (f key) (L'.drop (i + 1)) = cnF f (f key) L') := by rw [Hid, ← hp.out, q, if_neg e]; omega
        have HY : Hid (laF f (f key) (L'.drop (i + 1)) (i + 1) a = laF f (f key) L' 0 0) := by rw [Hid, ← hq.out, q2, if_neg e]
        have e2 : ¬ ((f x1 : Int) = (f key : Int)) := by omega
        clear hp hq q q2 hx FT CL e S3
        go_wp2_with (go_at_call 34; refine (S2.out _).mono ?_; rintro e w' ⟨rfl, hwq⟩; obtain rfl := hwq.symm)
        go_roundw
        case rel => exact ⟨i + 1, c, a, by go_num, by omega, rfl, rfl, by first | rfl | trivial, by omega, by omega, HZ, HY⟩
        case measure => simp [intOf]; omega
    · obtain rfl : i = n := by omega
      have ed : L'.drop i = [] := List.drop_eq_nil_of_le (by rw [HN.out]; exact Nat.le_refl _)
      have ec : c = cnF f (f key) L' := by have := hp.out; rw [ed] at this; simpa [cnF] using this
      have hle : ¬ (c : Int) ≤ (Z : Int) := by rw [ec]; have := FT.out; omega
      have ea : a = li := by have := hq.out; rw [ed, HLA.out] at this; simpa [laF] using this
      subst ea
      have hli : a < i := by rw [← HN.out]; exact (List.getElem?_eq_some_iff.1 HX.out).1
      have hvs := HH.out.vs
      rw [HN.out] at hvs
      obtain ⟨va, vc, rfl⟩ := ownv hvs
      obtain ⟨g, rfl⟩ : ∃ g, ka = some ⟨g, 0, none⟩ := by
        rcases HK.out.2 with ⟨_, e⟩ | ⟨g, c, cur, e, _⟩
        · omega
        · cases e; exact ⟨g, rfl⟩
      obtain ⟨gv, rfl⟩ : ∃ g, va = some ⟨g, 0, none⟩ := by
        rcases hvs.2 with ⟨_, e⟩ | ⟨g, c, cur, e, _⟩
        · omega
        · cases e; exact ⟨g, rfl⟩
      have HV : Hid (wr.ownsRow 0 3 1 (.slice (some ⟨gv, 0, none⟩) i vc) i (intC (L'.map Prod.snd))) := hvs
      have y1 : wr.cell? ⟨g, a, none⟩ = some (.int .i64 k1) := (HK.out.cellAt a (by omega)).trans (by simp [intC, HX.out])
      have y2 : wr.cell? ⟨gv, a, none⟩ = some (.int .i64 v1) := (hvs.cellAt a (by omega)).trans (by simp [intC, HX.out])
      have d2 := HH.out.cells.2.2.1
      have df1 := HH.out.cells.2.2.2.2.2.1 1
      clear ec ed hp hq FT CL hvs
      go_upto_region 19 with (first
        | (go_at_call 34; refine (S2.out _).mono ?_; rintro e w' ⟨rfl, hwq⟩; obtain rfl := hwq.symm)
        | (go_at_call 35; refine S3.out.mono ?_; rintro e w' ⟨rfl, hwq⟩; obtain rfl := hwq.symm))
      have hrl := HH.out.cells.2.2.2.2.2.2
      have kb2 : i ≤ kc := by rcases HK.out.2 with ⟨e, _⟩ | ⟨_, _, _, e, _, _, h3, _⟩; cases e; cases e; exact h3
      have kb0 : a ≤ kc := by omega
      obtain ⟨p, HP1⟩ : ∃ p, Hid (p = a + 1) := ⟨_, rfl⟩
      have kb1 : p ≤ i := by rw [HP1.out]; exact hli
      have hp9 : (a : Int) + 1 = (p : Int) := by rw [HP1.out]; omega
      have hw9 : IntKind.i64.wrap (p : Int) = (p : Int) := by rw [IntKind.wrap_i64]; omega
      have HAP : Hid (a + (i - p) = i - 1) := by rw [Hid, HP1.out]; omega
      have vb2 : i ≤ vc := by rcases HV.out.2 with ⟨e, _⟩ | ⟨_, _, _, e, _, _, h3, _⟩; cases e; cases e; exact h3
      have vb0 : a ≤ vc := by omega
      have hgl : g < wr.heap.size := (HK.out.lt g rfl).2
      have hgvl : gv < wr.heap.size := (HV.out.lt gv rfl).2
      have LA : Hid ((intC ((L'.take a).map Prod.fst)).length = a) := by rw [Hid, intC_len, List.length_map, List.length_take, HN.out]; omega
      have LB : Hid ((intC ((L'.drop p).map Prod.fst)).length = i - p) := by rw [Hid, intC_len, List.length_map, List.length_drop, HN.out]
      have NA : Hid (∀ (j : Nat) (u : Value), (intC ((L'.take a).map Prod.fst))[j]? = some u → wr.cell? ⟨g, j, none⟩ = some u) := fun j u hj => by
        have hja : j < a := by have := (List.getElem?_eq_some_iff.1 hj).1; rwa [LA.out] at this
        rw [HK.out.cellAt j (by omega), ← hj]
        simp [intC, hja]
      have NB : Hid (∀ (j : Nat) (u : Value), (intC ((L'.drop p).map Prod.fst))[j]? = some u → wr.cell? ⟨g, p + j, none⟩ = some u) := fun j u hj => by
        have hja : j < i - p := by have := (List.getElem?_eq_some_iff.1 hj).1; rwa [LB.out] at this
        rw [HK.out.cellAt (p + j) (by omega), ← hj]
        simp [intC, List.getElem?_drop]
      go_cut [] (fun wx => Hid (∃ k3, wx.heap[r]? = some (.cells #[.int .i64 cap, k3, .slice (some ⟨gv, 0, none⟩) i vc, .int .i64 h, .int .i64 m] 66 (0, 0)) ∧ wx.ownsRow wr.heap.size 3 1 k3 (i - 1) (intC ((L'.take a ++ L'.drop p).map Prod.fst)) ∧ Tch (fun k => k = r) wr wx))
      case first =>
        by_cases hkc : kc = p
        · obtain rfl : p = kc := hkc.symm
          go_region_law (first
            | (refine step_append_at rfl (.tmp 77) (.tmp 83) 35 rfl wr.heap.size 3 i0 (.int .i64 0) 1 8 Try.underlying35 hi0 hz0 hz1 hz2 rfl (by decide) (.slice (some ⟨wr.heap.size, 0, none⟩) 0 0) 0 [] (by first | (simp [Act.eval, Act.put]; done) | (simp [Act.eval, Act.put]; omega)) (by first | exact own_empty wr.drew wr.heap.size rfl wr.heap.size _ _ (Nat.le_refl _) | exact (own_empty wr wr.heap.size rfl wr.heap.size _ _ (Nat.le_refl _)).drew) ⟨g, 0, none⟩ a p (intC ((L'.take a).map Prod.fst)) (by first | (simp [Act.eval, Act.put]; done) | (simp [Act.eval, Act.put]; omega)) (by rw [Nat.mul_one]; exact LA.out) ?news (intC_one _) (by unfold maxLen; omega) (by omega) (by simp) ?_
               case news => (intro j u hj; rw [Addr.add_lit, Nat.zero_add]; refine ((show Below wr.heap.size wr _ from (by first | exact ((Below.refl _ _).drew).alloc (by simp) _ | exact ((Below.refl _ _).alloc (by simp) _).drew)).cell (p := ⟨g, j, none⟩) hgl).trans (NA.out j u hj))
               intro v5 w5 hown hgrow
               obtain ⟨e5, f5, rfl⟩ := ownv hown
               simp only [Nat.zero_add, List.nil_append] at hown ⊢
               have O5 : Hid (w5.ownsRow wr.heap.size 3 1 (.slice e5 a f5) a (intC ((L'.take a).map Prod.fst))) := hown
               have hb : Below wr.heap.size wr w5 := (Below.grown (w := _) (by first | exact ((Below.refl _ wr).drew).alloc (by simp) _ | exact ((Below.refl _ wr).alloc (by simp) _).drew) hgrow (by simp) (fun k hk => by simp [Value.ownBlock] at hk; omega))
               have B5 : Hid (Below wr.heap.size wr w5) := hb
               have p1 : w5.cell? ⟨r, 1, none⟩ = some (.slice (some ⟨g, 0, none⟩) i p) := (hb.cell (p := ⟨r, 1, none⟩) hrl).trans d1
               clear hown hgrow hb)
            | (refine step_append_at rfl (.tmp 84) (.tmp 91) 35 rfl wr.heap.size 3 i0 (.int .i64 0) 1 8 Try.underlying35 hi0 hz0 hz1 hz2 rfl (by decide) (.slice e5 a f5) a (intC ((L'.take a).map Prod.fst)) (by first | (simp [Act.eval, Act.put]; done) | (simp [Act.eval, Act.put]; omega)) (by first | exact O5.out | exact O5.out.drew) ⟨g, 0, none⟩ (i - p) (p - p) (intC ((L'.drop p).map Prod.fst)) (by first | (simp [Act.eval, Act.put]; done) | (simp [Act.eval, Act.put]; omega)) (by rw [Nat.mul_one]; exact LB.out) ?news (intC_one _) (by unfold maxLen; omega) (by omega) (by first | exact B5.out.size | (simp; exact B5.out.size)) ?_
               case news => (intro j u hj; rw [Addr.add_lit]; exfalso; have := (List.getElem?_eq_some_iff.1 hj).1; rw [LB.out] at this; omega)
               intro v6 w6 hown hgrow
               obtain ⟨M6, hM6⟩ : ∃ M6, M6 = a + (i - p) := ⟨_, rfl⟩
               rw [← hM6] at hown
               have HM6 : Hid (M6 = i - 1) := hM6.trans HAP.out
               clear hM6
               obtain ⟨e6, f6, rfl⟩ := ownv hown
               have O6 : Hid (w6.ownsRow wr.heap.size 3 1 (.slice e6 M6 f6) M6 (intC ((L'.take a).map Prod.fst) ++ intC ((L'.drop p).map Prod.fst))) := hown
               have hb : Below wr.heap.size wr w6 := (Below.grown (w := _) (by first | exact B5.out | exact B5.out.drew) hgrow (by first | exact B5.out.size | (simp; exact B5.out.size)) (fun k hk => (O5.out.lt k hk).1))
               have B6 : Hid (Below wr.heap.size wr w6) := hb
               have p2 : w6.cell? ⟨r, 1, none⟩ = some (.slice (some ⟨g, 0, none⟩) i p) := (hb.cell (p := ⟨r, 1, none⟩) hrl).trans d1
               have p3 : w6.frozen? ⟨r, 1, none⟩ = false := (hb.frozen (p := ⟨r, 1, none⟩) hrl).trans df1
               clear hown hgrow hb))
          all_goals (go_wp2_with fail)
          all_goals go_meet
          all_goals exact cut_fin HH.out.hr hrl B6.out O6.out HM6.out (by simp [intC])
        · have hkb : ¬ (kc = p) := hkc
          go_region_law (first
            | (refine step_append_at rfl (.tmp 77) (.tmp 83) 35 rfl wr.heap.size 3 i0 (.int .i64 0) 1 8 Try.underlying35 hi0 hz0 hz1 hz2 rfl (by decide) (.slice (some ⟨wr.heap.size, 0, none⟩) 0 0) 0 [] (by first | (simp [Act.eval, Act.put]; done) | (simp [Act.eval, Act.put]; omega)) (by first | exact own_empty wr.drew wr.heap.size rfl wr.heap.size _ _ (Nat.le_refl _) | exact (own_empty wr wr.heap.size rfl wr.heap.size _ _ (Nat.le_refl _)).drew) ⟨g, 0, none⟩ a kc (intC ((L'.take a).map Prod.fst)) (by first | (simp [Act.eval, Act.put]; done) | (simp [Act.eval, Act.put]; omega)) (by rw [Nat.mul_one]; exact LA.out) ?news (intC_one _) (by unfold maxLen; omega) (by omega) (by simp) ?_
               case news => (intro j u hj; rw [Addr.add_lit, Nat.zero_add]; refine ((show Below wr.heap.size wr _ from (by first | exact ((Below.refl _ _).drew).alloc (by simp) _ | exact ((Below.refl _ _).alloc (by simp) _).drew)).cell (p := ⟨g, j, none⟩) hgl).trans (NA.out j u hj))
               intro v5 w5 hown hgrow
               obtain ⟨e5, f5, rfl⟩ := ownv hown
               simp only [Nat.zero_add, List.nil_append] at hown ⊢
               have O5 : Hid (w5.ownsRow wr.heap.size 3 1 (.slice e5 a f5) a (intC ((L'.take a).map Prod.fst))) := hown
               have hb : Below wr.heap.size wr w5 := (Below.grown (w := _) (by first | exact ((Below.refl _ wr).drew).alloc (by simp) _ | exact ((Below.refl _ wr).alloc (by simp) _).drew) hgrow (by simp) (fun k hk => by simp [Value.ownBlock] at hk; omega))
               have B5 : Hid (Below wr.heap.size wr w5) := hb
               have p1 : w5.cell? ⟨r, 1, none⟩ = some (.slice (some ⟨g, 0, none⟩) i kc) := (hb.cell (p := ⟨r, 1, none⟩) hrl).trans d1
               clear hown hgrow hb)
            | (refine step_append_at rfl (.tmp 84) (.tmp 91) 35 rfl wr.heap.size 3 i0 (.int .i64 0) 1 8 Try.underlying35 hi0 hz0 hz1 hz2 rfl (by decide) (.slice e5 a f5) a (intC ((L'.take a).map Prod.fst)) (by first | (simp [Act.eval, Act.put]; done) | (simp [Act.eval, Act.put]; omega)) (by first | exact O5.out | exact O5.out.drew) ⟨g, p, none⟩ (i - p) (kc - p) (intC ((L'.drop p).map Prod.fst)) (by first | (simp [Act.eval, Act.put]; done) | (simp [Act.eval, Act.put]; omega)) (by rw [Nat.mul_one]; exact LB.out) ?news (intC_one _) (by unfold maxLen; omega) (by omega) (by first | exact B5.out.size | (simp; exact B5.out.size)) ?_
               case news => (intro j u hj; rw [Addr.add_lit]; refine ((show Below wr.heap.size wr _ from (by first | exact B5.out | exact B5.out.drew)).cell (p := ⟨g, p + j, none⟩) hgl).trans (NB.out j u hj))
               intro v6 w6 hown hgrow
               obtain ⟨M6, hM6⟩ : ∃ M6, M6 = a + (i - p) := ⟨_, rfl⟩
               rw [← hM6] at hown
               have HM6 : Hid (M6 = i - 1) := hM6.trans HAP.out
               clear hM6
               obtain ⟨e6, f6, rfl⟩ := ownv hown
               have O6 : Hid (w6.ownsRow wr.heap.size 3 1 (.slice e6 M6 f6) M6 (intC ((L'.take a).map Prod.fst) ++ intC ((L'.drop p).map Prod.fst))) := hown
               have hb : Below wr.heap.size wr w6 := (Below.grown (w := _) (by first | exact B5.out | exact B5.out.drew) hgrow (by first | exact B5.out.size | (simp; exact B5.out.size)) (fun k hk => (O5.out.lt k hk).1))
               have B6 : Hid (Below wr.heap.size wr w6) := hb
               have p2 : w6.cell? ⟨r, 1, none⟩ = some (.slice (some ⟨g, 0, none⟩) i kc) := (hb.cell (p := ⟨r, 1, none⟩) hrl).trans d1
               have p3 : w6.frozen? ⟨r, 1, none⟩ = false := (hb.frozen (p := ⟨r, 1, none⟩) hrl).trans df1
               clear hown hgrow hb))
          all_goals (go_wp2_with fail)
          all_goals go_meet
          all_goals exact cut_fin HH.out.hr hrl B6.out O6.out HM6.out (by simp [intC])
      case rest =>
        obtain ⟨wa, rfl⟩ : ∃ wa, wa = wc := ⟨_, rfl⟩
        obtain ⟨k3, hr3, ho3, ht3⟩ := hcut.out
        have HR3 : Hid (wa.heap[r]? = some (.cells #[.int .i64 cap, k3, .slice (some ⟨gv, 0, none⟩) i vc, .int .i64 h, .int .i64 m] 66 (0, 0))) := hr3
        have HO3 : Hid (wa.ownsRow wr.heap.size 3 1 k3 (i - 1) (intC ((L'.take a ++ L'.drop p).map Prod.fst))) := ho3
        have HT3 : Hid (Tch (fun k => k = r) wr wa) := ht3
        have q2 : wa.cell? ⟨r, 2, none⟩ = some (.slice (some ⟨gv, 0, none⟩) i vc) := (cell_of_row wa r 2 _ _ _ hr3).trans rfl
        have qf2 : wa.frozen? ⟨r, 2, none⟩ = false := frozen_of_row wa r 2 _ _ hr3
        have hrl2 : r < wa.heap.size := Nat.lt_of_lt_of_le hrl ht3.size
        have hgv2 : gv < wa.heap.size := Nat.lt_of_lt_of_le hgvl ht3.size
        have HV2 : Hid (wa.ownsRow 0 3 1 (.slice (some ⟨gv, 0, none⟩) i vc) i (intC (L'.map Prod.snd))) := own_keep HV.out (fun g' hg => by simp [Value.ownBlock] at hg; subst hg; exact ht3.blk _ hgvl (HH.out.nek (.inr rfl)))
        clear hcut hr3 ho3 ht3 d1 d2 df1 y1 y2 HV HK S2 S3 NA NB LA LB
        have LA2 : Hid ((intC ((L'.take a).map Prod.snd)).length = a) := by rw [Hid, intC_len, List.length_map, List.length_take, HN.out]; omega
        have LB2 : Hid ((intC ((L'.drop p).map Prod.snd)).length = i - p) := by rw [Hid, intC_len, List.length_map, List.length_drop, HN.out]
        have NA2 : Hid (∀ (j : Nat) (u : Value), (intC ((L'.take a).map Prod.snd))[j]? = some u → wa.cell? ⟨gv, j, none⟩ = some u) := fun j u hj => by
          have hja : j < a := by have := (List.getElem?_eq_some_iff.1 hj).1; rwa [LA2.out] at this
          rw [HV2.out.cellAt j (by omega), ← hj]
          simp [intC, hja]
        have NB2 : Hid (∀ (j : Nat) (u : Value), (intC ((L'.drop p).map Prod.snd))[j]? = some u → wa.cell? ⟨gv, p + j, none⟩ = some u) := fun j u hj => by
          have hja : j < i - p := by have := (List.getElem?_eq_some_iff.1 hj).1; rwa [LB2.out] at this
          rw [HV2.out.cellAt (p + j) (by omega), ← hj]
          simp [intC, List.getElem?_drop]
        go_upto_region 20 with fail
        go_cut [] (fun wx => Hid (∃ v3, wx.heap[r]? = some (.cells #[.int .i64 cap, k3, v3, .int .i64 h, .int .i64 m] 66 (0, 0)) ∧ wx.ownsRow 0 3 1 v3 (i - 1) (intC ((L'.take a ++ L'.drop p).map Prod.snd)) ∧ Tch (fun k => k = r) wa wx))
        case first =>
          by_cases hkc : vc = p
          · obtain rfl : p = vc := hkc.symm
            go_region_law (first
              | (refine step_append_at rfl (.tmp 96) (.tmp 102) 35 rfl wa.heap.size 3 i0 (.int .i64 0) 1 8 Try.underlying35 hi0 hz0 hz1 hz2 rfl (by decide) (.slice (some ⟨wa.heap.size, 0, none⟩) 0 0) 0 [] (by first | (simp [Act.eval, Act.put]; done) | (simp [Act.eval, Act.put]; omega)) (by first | exact own_empty wa.drew wa.heap.size rfl wa.heap.size _ _ (Nat.le_refl _) | exact (own_empty wa wa.heap.size rfl wa.heap.size _ _ (Nat.le_refl _)).drew) ⟨gv, 0, none⟩ a p (intC ((L'.take a).map Prod.snd)) (by first | (simp [Act.eval, Act.put]; done) | (simp [Act.eval, Act.put]; omega)) (by rw [Nat.mul_one]; exact LA2.out) ?news (intC_one _) (by unfold maxLen; omega) (by omega) (by simp) ?_
                 case news => (intro j u hj; rw [Addr.add_lit, Nat.zero_add]; refine ((show Below wa.heap.size wa _ from (by first | exact ((Below.refl _ _).drew).alloc (by simp) _ | exact ((Below.refl _ _).alloc (by simp) _).drew)).cell (p := ⟨gv, j, none⟩) hgv2).trans (NA2.out j u hj))
                 intro v5 w5 hown hgrow
                 obtain ⟨e5, f5, rfl⟩ := ownv hown
                 simp only [Nat.zero_add, List.nil_append] at hown ⊢
                 have O5 : Hid (w5.ownsRow wa.heap.size 3 1 (.slice e5 a f5) a (intC ((L'.take a).map Prod.snd))) := hown
                 have hb : Below wa.heap.size wa w5 := (Below.grown (w := _) (by first | exact ((Below.refl _ wa).drew).alloc (by simp) _ | exact ((Below.refl _ wa).alloc (by simp) _).drew) hgrow (by simp) (fun k hk => by simp [Value.ownBlock] at hk; omega))
                 have B5 : Hid (Below wa.heap.size wa w5) := hb
                 have p1 : w5.cell? ⟨r, 2, none⟩ = some (.slice (some ⟨gv, 0, none⟩) i p) := (hb.cell (p := ⟨r, 2, none⟩) hrl2).trans q2
                 clear hown hgrow hb)
              | (refine step_append_at rfl (.tmp 103) (.tmp 110) 35 rfl wa.heap.size 3 i0 (.int .i64 0) 1 8 Try.underlying35 hi0 hz0 hz1 hz2 rfl (by decide) (.slice e5 a f5) a (intC ((L'.take a).map Prod.snd)) (by first | (simp [Act.eval, Act.put]; done) | (simp [Act.eval, Act.put]; omega)) (by first | exact O5.out | exact O5.out.drew) ⟨gv, 0, none⟩ (i - p) (p - p) (intC ((L'.drop p).map Prod.snd)) (by first | (simp [Act.eval, Act.put]; done) | (simp [Act.eval, Act.put]; omega)) (by rw [Nat.mul_one]; exact LB2.out) ?news (intC_one _) (by unfold maxLen; omega) (by omega) (by first | exact B5.out.size | (simp; exact B5.out.size)) ?_
                 case news => (intro j u hj; rw [Addr.add_lit]; exfalso; have := (List.getElem?_eq_some_iff.1 hj).1; rw [LB2.out] at this; omega)
                 intro v6 w6 hown hgrow
                 obtain ⟨M6, hM6⟩ : ∃ M6, M6 = a + (i - p) := ⟨_, rfl⟩
                 rw [← hM6] at hown
                 have HM6 : Hid (M6 = i - 1) := hM6.trans HAP.out
                 clear hM6
                 obtain ⟨e6, f6, rfl⟩ := ownv hown
                 have O6 : Hid (w6.ownsRow wa.heap.size 3 1 (.slice e6 M6 f6) M6 (intC ((L'.take a).map Prod.snd) ++ intC ((L'.drop p).map Prod.snd))) := hown
                 have hb : Below wa.heap.size wa w6 := (Below.grown (w := _) (by first | exact B5.out | exact B5.out.drew) hgrow (by first | exact B5.out.size | (simp; exact B5.out.size)) (fun k hk => (O5.out.lt k hk).1))
                 have B6 : Hid (Below wa.heap.size wa w6) := hb
                 have p2 : w6.cell? ⟨r, 2, none⟩ = some (.slice (some ⟨gv, 0, none⟩) i p) := (hb.cell (p := ⟨r, 2, none⟩) hrl2).trans q2
                 have p3 : w6.frozen? ⟨r, 2, none⟩ = false := (hb.frozen (p := ⟨r, 2, none⟩) hrl2).trans qf2
                 clear hown hgrow hb))
            all_goals (go_wp2_with fail)
            all_goals go_meet
            all_goals exact (by obtain ⟨v3, f1, f2, f3⟩ := cut_fin2 (ys := intC ((L'.take a ++ L'.drop p).map Prod.snd)) HR3.out hrl2 B6.out O6.out HM6.out (by simp [intC]); exact ⟨v3, f1, own_mono f2 (Nat.zero_le _), f3⟩)
          · have hkb : ¬ (vc = p) := hkc
            go_region_law (first
              | (refine step_append_at rfl (.tmp 96) (.tmp 102) 35 rfl wa.heap.size 3 i0 (.int .i64 0) 1 8 Try.underlying35 hi0 hz0 hz1 hz2 rfl (by decide) (.slice (some ⟨wa.heap.size, 0, none⟩) 0 0) 0 [] (by first | (simp [Act.eval, Act.put]; done) | (simp [Act.eval, Act.put]; omega)) (by first | exact own_empty wa.drew wa.heap.size rfl wa.heap.size _ _ (Nat.le_refl _) | exact (own_empty wa wa.heap.size rfl wa.heap.size _ _ (Nat.le_refl _)).drew) ⟨gv, 0, none⟩ a vc (intC ((L'.take a).map Prod.snd)) (by first | (simp [Act.eval, Act.put]; done) | (simp [Act.eval, Act.put]; omega)) (by rw [Nat.mul_one]; exact LA2.out) ?news (intC_one _) (by unfold maxLen; omega) (by omega) (by simp) ?_
                 case news => (intro j u hj; rw [Addr.add_lit, Nat.zero_add]; refine ((show Below wa.heap.size wa _ from (by first | exact ((Below.refl _ _).drew).alloc (by simp) _ | exact ((Below.refl _ _).alloc (by simp) _).drew)).cell (p := ⟨gv, j, none⟩) hgv2).trans (NA2.out j u hj))
                 intro v5 w5 hown hgrow
                 obtain ⟨e5, f5, rfl⟩ := ownv hown
                 simp only [Nat.zero_add, List.nil_append] at hown ⊢
                 have O5 : Hid (w5.ownsRow wa.heap.size 3 1 (.slice e5 a f5) a (intC ((L'.take a).map Prod.snd))) := hown
                 have hb : Below wa.heap.size wa w5 := (Below.grown (w := _) (by first | exact ((Below.refl _ wa).drew).alloc (by simp) _ | exact ((Below.refl _ wa).alloc (by simp) _).drew) hgrow (by simp) (fun k hk => by simp [Value.ownBlock] at hk; omega))
                 have B5 : Hid (Below wa.heap.size wa w5) := hb
                 have p1 : w5.cell? ⟨r, 2, none⟩ = some (.slice (some ⟨gv, 0, none⟩) i vc) := (hb.cell (p := ⟨r, 2, none⟩) hrl2).trans q2
                 clear hown hgrow hb)
              | (refine step_append_at rfl (.tmp 103) (.tmp 110) 35 rfl wa.heap.size 3 i0 (.int .i64 0) 1 8 Try.underlying35 hi0 hz0 hz1 hz2 rfl (by decide) (.slice e5 a f5) a (intC ((L'.take a).map Prod.snd)) (by first | (simp [Act.eval, Act.put]; done) | (simp [Act.eval, Act.put]; omega)) (by first | exact O5.out | exact O5.out.drew) ⟨gv, p, none⟩ (i - p) (vc - p) (intC ((L'.drop p).map Prod.snd)) (by first | (simp [Act.eval, Act.put]; done) | (simp [Act.eval, Act.put]; omega)) (by rw [Nat.mul_one]; exact LB2.out) ?news (intC_one _) (by unfold maxLen; omega) (by omega) (by first | exact B5.out.size | (simp; exact B5.out.size)) ?_
                 case news => (intro j u hj; rw [Addr.add_lit]; refine ((show Below wa.heap.size wa _ from (by first | exact B5.out | exact B5.out.drew)).cell (p := ⟨gv, p + j, none⟩) hgv2).trans (NB2.out j u hj))
                 intro v6 w6 hown hgrow
                 obtain ⟨M6, hM6⟩ : ∃ M6, M6 = a + (i - p) := ⟨_, rfl⟩
                 rw [← hM6] at hown
                 have HM6 : Hid (M6 = i - 1) := hM6.trans HAP.out
                 clear hM6
                 obtain ⟨e6, f6, rfl⟩ := ownv hown
                 have O6 : Hid (w6.ownsRow wa.heap.size 3 1 (.slice e6 M6 f6) M6 (intC ((L'.take a).map Prod.snd) ++ intC ((L'.drop p).map Prod.snd))) := hown
                 have hb : Below wa.heap.size wa w6 := (Below.grown (w := _) (by first | exact B5.out | exact B5.out.drew) hgrow (by first | exact B5.out.size | (simp; exact B5.out.size)) (fun k hk => (O5.out.lt k hk).1))
                 have B6 : Hid (Below wa.heap.size wa w6) := hb
                 have p2 : w6.cell? ⟨r, 2, none⟩ = some (.slice (some ⟨gv, 0, none⟩) i vc) := (hb.cell (p := ⟨r, 2, none⟩) hrl2).trans q2
                 have p3 : w6.frozen? ⟨r, 2, none⟩ = false := (hb.frozen (p := ⟨r, 2, none⟩) hrl2).trans qf2
                 clear hown hgrow hb))
            all_goals (go_wp2_with fail)
            all_goals go_meet
            all_goals exact (by obtain ⟨v3, f1, f2, f3⟩ := cut_fin2 (ys := intC ((L'.take a ++ L'.drop p).map Prod.snd)) HR3.out hrl2 B6.out O6.out HM6.out (by simp [intC]); exact ⟨v3, f1, own_mono f2 (Nat.zero_le _), f3⟩)
        case rest =>
          obtain ⟨wb, rfl⟩ : ∃ wb, wb = wc := ⟨_, rfl⟩
          obtain ⟨v3, hr4, ho4, ht4⟩ := hcut.out
          have HF : Hid (RcAt wb r cap k3 v3 (L'.take a ++ L'.drop p) h m ∧ Tch (fun k => k = r) W wb) := by
            have hlen : (L'.take a ++ L'.drop p).length = i - 1 := by rw [List.length_append, List.length_take, List.length_drop, HN.out, ← HAP.out]; omega
            refine ⟨⟨hr4, ?_, ?_⟩, (TT.out.trans HT3.out (fun _ _ x => x)).trans ht4 (fun _ _ x => x)⟩
            · rw [hlen]
              refine own_mono (own_keep HO3.out (fun g' hg => ht4.blk g' (HO3.out.lt g' hg).2 (fun e => ?_))) (Nat.zero_le _)
              have := (HO3.out.lt g' hg).1
              omega
            · rw [hlen]; exact ho4
          rw [HP1.out] at HF
          clear hcut hr4 ho4 ht4 HR3 HO3 HT3 q2 qf2 HV2 NA2 NB2 LA2 LB2
          go_wp2
          go_ret3
          exact ⟨rfl, ⟨_, _, HF.out.1⟩, HF.out.2⟩
end Go.Proofs.Ytdjmjdlolhfejaa
