/- The document's cache: All. -/
import Derived.Test.YtdjmjdlolhfejaaKbP
namespace Go.Proofs.Ytdjmjdlolhfejaa
open Go.RowKit Go.Maps

/-- what a round of All has: the list that grows -/
structure AlW (W wr : World) (lv : Value) (A : List Int) : Prop where
  row : wr.ownsRow W.heap.size 3 1 lv A.length (intC A)
  t : Tch (fun _ => False) W wr
set_option maxRecDepth 100000 in
set_option maxHeartbeats 4000000 in
theorem rall_w {W : World} {r cap n N : Nat} {kv vv : Value} {L : List (Int × Int)} {h m : Int} (f : Int → Nat) (H : RcAt W r cap kv vv L h m) (hN32 : N ≤ 32) (hn9 : n ≤ 100) (HN : Hid (L.length = n))
    (HA : Hid (∀ w, Tch (fun _ => False) W w → Calls Try.prog 36 #[.pointer (some ⟨r, 0, none⟩)] w fun e w' => e = .returned (.int .i64 N) ∧ w' = w))
    (HS : Hid (0 < N → ∀ w x, Tch (fun _ => False) W w → Calls Try.prog 34 #[.pointer (some ⟨r, 0, none⟩), .int .i64 x] w fun e w' => e = .returned (.int .i64 (f x)) ∧ w' = w)) :
    Calls Try.prog 20 #[.pointer (some ⟨r, 0, none⟩)] W fun e w' => ∃ v', e = .returned v' ∧ w'.ownsRow W.heap.size 3 1 v' (allP f L N).length (intC (allP f L N)) ∧ Tch (fun _ => False) W w' := by
  obtain ⟨i0, hi0, hz0, hz1, hz2⟩ := info_parts Try.hinfoI
  have hks := H.ks
  rw [HN.out] at hks
  obtain ⟨ka, kc, rfl⟩ := ownv hks
  have HK : Hid (W.ownsRow 0 3 1 (.slice ka n kc) n (intC (L.map Prod.fst))) := hks
  have HH : Hid (RcAt W r cap (.slice ka n kc) vv L h m) := H
  clear H hks
  go_enter Try.func20, Try.ntmps20
  go_wp2
  go_loopw [3, 4] (fun lv sv wr => ∃ (s : Nat) (A : List Int), sv = .int .i64 s ∧ s ≤ N ∧ Hid (A = allP f L s) ∧ A.length ≤ s * 100 ∧ Hid (AlW W wr lv A)) (fun _ sv _ => N - (intOf sv).toNat)
  case atStart => exact ⟨0, [], rfl, Nat.zero_le _, rfl, Nat.le_refl _, ⟨World.ownsRow_nil _ _ _ _, Tch.refl _ _⟩⟩
  case round =>
    obtain ⟨s, A, rfl, hs, hA, hAl, hW⟩ := hrel
    obtain ⟨wo, rfl⟩ : ∃ wo, wo = wr := ⟨_, rfl⟩
    obtain ⟨la, lc, rfl⟩ := ownv hW.out.row
    have SA : Hid (Calls Try.prog 36 #[.pointer (some ⟨r, 0, none⟩)] wo fun e w' => e = .returned (.int .i64 N) ∧ w' = wo) := HA.out _ hW.out.t
    by_cases hlt : s < N
    · have hsI : (s : Int) < (N : Int) := by omega
      have HX : Hid (allP f L (s + 1) = A ++ selK f s L) := by rw [Hid, allP, hA.out]
      clear hA
      go_wp2_with (go_at_call 36; refine SA.out.mono ?_; rintro e w' ⟨rfl, hwq⟩; obtain rfl := hwq.symm; clear SA)
      go_loopw [3, 5] (fun lv iv wr => ∃ (i : Nat) (B : List Int), iv = .int .i64 i ∧ i ≤ n ∧ Hid (B = A ++ selK f s (L.take i)) ∧ B.length ≤ s * 100 + i ∧ Hid (AlW W wr lv B)) (fun _ iv _ => n - (intOf iv).toNat)
      case atStart => exact ⟨0, A, rfl, Nat.zero_le _, by simp [Hid, selK], by omega, hW⟩
      case round =>
        obtain ⟨i, B, rfl, hi, hB, hBl, hV⟩ := hrel
        have RO := HH.out.tch hV.out.t
        have c1 := RO.cells.2.1
        have hrl := RO.cells.2.2.2.2.2.2
        obtain ⟨ba, bc, rfl⟩ := ownv hV.out.row
        clear hW
        by_cases hlt2 : i < n
        · obtain ⟨⟨x1, x2⟩, hx⟩ : ∃ x, L[i]? = some x := ⟨_, List.getElem?_eq_getElem (by rw [HN.out]; exact hlt2)⟩
          have hiI : (i : Int) < (n : Int) := by omega
          obtain ⟨g, rfl⟩ : ∃ g, ka = some ⟨g, 0, none⟩ := by
            rcases HK.out.2 with ⟨_, e⟩ | ⟨g, c, cur, e, _⟩
            · omega
            · cases e; exact ⟨g, rfl⟩
          have hgl : g < W.heap.size := (HK.out.lt g rfl).2
          have y0 : W.cell? ⟨g, i, none⟩ = some (.int .i64 x1) := (HK.out.cellAt i (by omega)).trans (by simp [intC, hx])
          have y : wr.cell? ⟨g, i, none⟩ = some (.int .i64 x1) := (World.cell?_of_block (a := ⟨g, i, none⟩) (hV.out.t.blk g hgl (fun x => x))).trans y0
          have SS : Hid (∀ x, Calls Try.prog 34 #[.pointer (some ⟨r, 0, none⟩), .int .i64 x] wr fun e w' => e = .returned (.int .i64 (f x)) ∧ w' = wr) := fun x => HS.out (by omega) _ _ hV.out.t
          have hsn := selK_snoc (f := f) (s := s) hx
          have SZ : Hid (W.heap.size ≤ wr.heap.size) := hV.out.t.size
          obtain ⟨M, hM⟩ : ∃ M, B.length = M := ⟨_, rfl⟩
          rw [hM] at hBl
          have HM : Hid (B.length = M) := hM
          have R3 : Hid (wr.ownsRow W.heap.size 3 1 (.slice ba M bc) M (intC B)) := by rw [Hid, ← hM]; exact hV.out.row
          have T3 : Hid (Tch (fun _ => False) W wr) := hV.out.t
          rw [hM]
          clear RO hM y0 hV
          by_cases e : f x1 = s
          · have HZ : Hid (B ++ [x1] = A ++ selK f s (L.take (i + 1))) := by rw [Hid, hsn, if_pos e, hB.out]; simp
            have e2 : ((f x1 : Int) = (s : Int)) := by omega
            clear hsn hx hB e
            go_wp2_with (first
              | (go_at_call 34; refine (SS.out _).mono ?_; rintro e w' ⟨rfl, hwq⟩; obtain rfl := hwq.symm; clear SS)
              | (at_builtin; refine wpList_append_kp rfl _ _ 35 rfl W.heap.size 3 i0 (.int .i64 0) 1 8 Try.underlying35 hi0 hz0 hz1 hz2 rfl (by decide) (.slice ba M bc) M (intC B) rfl ?own ⟨wr.heap.size, 0, none⟩ 1 1 [.int .i64 x1] rfl rfl ?news ?one ?b1 ?b2 ?b3 ?_
                 case own => exact R3.out.alloc _
                 case news => exact new1' _ x1
                 case one => (intro u hu; simp at hu; subst hu; rfl)
                 case b1 => (unfold maxLen; omega)
                 case b2 => omega
                 case b3 => (have := SZ.out; simp; omega)
                 intro v' w2 hown hgrow hnew hkp
                 have O8 : Hid (w2.ownsRow W.heap.size 3 1 v' (B ++ [x1]).length (intC (B ++ [x1]))) := (by rw [Hid, List.length_append, HM.out]; simpa [intC] using hown)
                 have T2 : Hid (Tch (fun _ => False) W w2) := (T3.out.alloc _).grown hgrow (fun k hk => .inr (R3.out.lt k hk).1)
                 clear hown hgrow hnew hkp R3 T3 SZ y c1))
            go_roundw
            case rel => exact ⟨i + 1, B ++ [x1], by go_num, by omega, HZ, by rw [List.length_append, HM.out]; simp; omega, ⟨O8.out, T2.out⟩⟩
            case measure => simp [intOf]; omega
          · have HZ : Hid (B = A ++ selK f s (L.take (i + 1))) := by rw [Hid, hsn, if_neg e, hB.out]; simp
            have e2 : ¬ ((f x1 : Int) = (s : Int)) := by omega
            clear hsn hx hB
            go_wp2_with (go_at_call 34; refine (SS.out _).mono ?_; rintro e w' ⟨rfl, hwq⟩; obtain rfl := hwq.symm; clear SS)
            go_roundw
            case rel => exact ⟨i + 1, B, by go_num, by omega, HZ, by rw [HM.out]; omega, ⟨by rw [HM.out]; exact R3.out, T3.out⟩⟩
            case measure => simp [intOf]; omega
        · obtain rfl : i = n := by omega
          have e : L.take i = L := List.take_of_length_le (by rw [HN.out]; exact Nat.le_refl _)
          have HZ : Hid (B = allP f L (s + 1)) := by rw [Hid, HX.out, hB.out, e]
          clear e hB RO
          go_wp2
          go_roundw
          case rel => exact ⟨s + 1, B, by go_num, by omega, HZ, by omega, hV⟩
          case measure => simp [intOf]; omega
    · obtain rfl : s = N := by omega
      have hsI : ¬ (s : Int) < (s : Int) := by omega
      go_wp2_with (go_at_call 36; refine SA.out.mono ?_; rintro e w' ⟨rfl, hwq⟩; obtain rfl := hwq.symm; clear SA)
      go_ret
      exact ⟨_, rfl, by rw [← hA.out]; exact hW.out.row, hW.out.t⟩
theorem rall_c {W : World} {r cap : Nat} {kv vv : Value} {L : List (Int × Int)} {h m : Int} (H : RcAt W r cap kv vv L h m) (h64 : cap ≤ 64) (hL : L.length ≤ 100) :
    Calls Try.prog 20 #[.pointer (some ⟨r, 0, none⟩)] W fun e w' => ∃ v', e = .returned v' ∧ w'.ownsRow W.heap.size 3 1 v' (allP (sIx ((cap + 1) / 2)) L ((cap + 1) / 2)).length (intC (allP (sIx ((cap + 1) / 2)) L ((cap + 1) / 2))) ∧ Tch (fun _ => False) W w' := by
  refine rall_w (n := L.length) _ H (by omega) hL rfl (fun w ht => rsets_c (H.tch ht) h64) (fun hp w x ht => ?_)
  exact rset_c (H.tch ht) h64 (by omega) x
end Go.Proofs.Ytdjmjdlolhfejaa
