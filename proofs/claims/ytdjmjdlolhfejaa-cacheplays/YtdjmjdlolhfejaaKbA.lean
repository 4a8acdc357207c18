/- The document's cache (arbiterref18) in memory: New, sets, set, room, place, Clear. -/
import Derived.Test.YtdjmjdlolhfejaaKaU
namespace Go.Proofs.Ytdjmjdlolhfejaa
open Go.RowKit Go.Maps

/-- block r is the document's cache: its capacity, its entries (last used first), hits and misses -/
structure RcAt (w : World) (r cap : Nat) (kv vv : Value) (L : List (Int × Int)) (h m : Int) : Prop where
  hr : w.heap[r]? = some (.cells #[.int .i64 cap, kv, vv, .int .i64 h, .int .i64 m] 66 (0, 0))
  ks : w.ownsRow 0 3 1 kv L.length (intC (L.map Prod.fst))
  vs : w.ownsRow 0 3 1 vv L.length (intC (L.map Prod.snd))
theorem own_int {w : World} {N : Nat} {v : Value} {n : Nat} {xs : List Value} (h : w.ownsRow N 3 1 v n xs) {g : Nat} (hg : v.ownBlock = some g) : ∃ c, w.heap[g]? = some (.cells c 3 (0, 0)) := by
  rcases h.2 with ⟨rfl, _⟩ | ⟨g', cap, cur, rfl, h1, h2, _⟩
  · simp [Value.ownBlock] at hg
  · simp [Value.ownBlock] at hg; subst hg; exact ⟨cur, h2⟩
theorem RcAt.cells {w : World} {r cap : Nat} {kv vv : Value} {L : List (Int × Int)} {h m : Int} (H : RcAt w r cap kv vv L h m) : w.cell? ⟨r, 0, none⟩ = some (.int .i64 cap) ∧ w.cell? ⟨r, 1, none⟩ = some kv ∧ w.cell? ⟨r, 2, none⟩ = some vv ∧ w.cell? ⟨r, 3, none⟩ = some (.int .i64 h) ∧ w.cell? ⟨r, 4, none⟩ = some (.int .i64 m) ∧ (∀ k, w.frozen? ⟨r, k, none⟩ = false) ∧ r < w.heap.size :=
  ⟨(cell_of_row w r 0 _ _ _ H.hr).trans rfl, (cell_of_row w r 1 _ _ _ H.hr).trans rfl, (cell_of_row w r 2 _ _ _ H.hr).trans rfl, (cell_of_row w r 3 _ _ _ H.hr).trans rfl, (cell_of_row w r 4 _ _ _ H.hr).trans rfl, fun k => frozen_of_row w r k _ _ H.hr, (Array.getElem?_eq_some_iff.1 H.hr).1⟩
theorem RcAt.nek {w : World} {r cap : Nat} {kv vv : Value} {L : List (Int × Int)} {h m : Int} (H : RcAt w r cap kv vv L h m) {g : Nat} (hg : kv.ownBlock = some g ∨ vv.ownBlock = some g) : g ≠ r := by
  rintro rfl
  rcases hg with hg | hg
  · obtain ⟨c, hc⟩ := own_int H.ks hg; rw [H.hr] at hc; cases hc
  · obtain ⟨c, hc⟩ := own_int H.vs hg; rw [H.hr] at hc; cases hc
/-- the document's cache stays where nothing is turned -/
theorem RcAt.tch {W w : World} {r cap : Nat} {kv vv : Value} {L : List (Int × Int)} {h m : Int} (H : RcAt W r cap kv vv L h m) (ht : Tch (fun _ => False) W w) : RcAt w r cap kv vv L h m :=
  ⟨(ht.blk r H.cells.2.2.2.2.2.2 (fun x => x)).trans H.hr, own_keep H.ks (fun g hg => ht.blk g (H.ks.lt g hg).2 (fun x => x)), own_keep H.vs (fun g hg => ht.blk g (H.vs.lt g hg).2 (fun x => x))⟩
/-- ..and where a cache of the package's is turned -/
theorem RcAt.tc {W w : World} {N r cap : Nat} {kv vv : Value} {L : List (Int × Int)} {h m : Int} (H : RcAt W r cap kv vv L h m) (ht : TC N W w) : RcAt w r cap kv vv L h m :=
  ⟨(ht.kind H.hr (by rfl)).trans H.hr, own_keep H.ks (fun g hg => by obtain ⟨c, hc⟩ := own_int H.ks hg; exact ht.kind hc (by rfl)), own_keep H.vs (fun g hg => by obtain ⟨c, hc⟩ := own_int H.vs hg; exact ht.kind hc (by rfl))⟩
/-- a number of the document's cache is turned -/
theorem RcAt.setn {w : World} {r cap : Nat} {kv vv : Value} {L : List (Int × Int)} {h m : Int} (H : RcAt w r cap kv vv L h m) (o : Nat) (u : Value) {h' m' : Int} (e : (#[.int .i64 cap, kv, vv, .int .i64 h, .int .i64 m] : Array Value).setIfInBounds o u = #[.int .i64 cap, kv, vv, .int .i64 h', .int .i64 m']) : RcAt (w.setCell ⟨r, o, none⟩ u) r cap kv vv L h' m' :=
  ⟨by rw [Go.Joins.block_setCell H.hr, e], own_keep H.ks (fun g hg => Below.heap_setCell _ _ _ _ (H.nek (.inl hg))), own_keep H.vs (fun g hg => Below.heap_setCell _ _ _ _ (H.nek (.inr hg)))⟩
set_option maxRecDepth 100000 in
theorem rnew_c (cap : Nat) (h64 : cap ≤ 64) (W : World) :
    Calls Try.prog 9 #[.int .i64 (cap : Int)] W fun e w' => e = .returned (.tuple #[.pointer (some ⟨W.heap.size, 0, none⟩), .int .i64 0]) ∧ RcAt w' W.heap.size cap (.slice none 0 0) (.slice none 0 0) [] 0 0 ∧ Tch (fun _ => False) W w' := by
  have h0 : ¬ ((cap : Int) < 0) := by omega
  have h1 : ¬ ((64 : Int) < cap) := by omega
  go_enter Try.func9, Try.ntmps9
  go_wp2
  go_ret2
  exact ⟨rfl, ⟨halloc1 _ _, World.ownsRow_nil _ _ _ _, World.ownsRow_nil _ _ _ _⟩, (Tch.refl _ _).alloc _⟩
set_option maxRecDepth 100000 in
theorem rnew_no (c : Int) (h : c < 0 ∨ 64 < c) (W : World) :
    Calls Try.prog 9 #[.int .i64 c] W fun e w' => e = .returned (.tuple #[.pointer none, .int .i64 7]) ∧ w' = W := by
  go_enter Try.func9, Try.ntmps9
  by_cases g1 : c < 0
  · go_wp2
    go_ret2
    exact ⟨rfl, rfl⟩
  · have g2 : (64 : Int) < c := by omega
    go_wp2
    go_ret2
    exact ⟨rfl, rfl⟩
set_option maxRecDepth 100000 in
theorem rsets_c {W : World} {r cap : Nat} {kv vv : Value} {L : List (Int × Int)} {h m : Int} (H : RcAt W r cap kv vv L h m) (h64 : cap ≤ 64) :
    Calls Try.prog 36 #[.pointer (some ⟨r, 0, none⟩)] W fun e w' => e = .returned (.int .i64 ((cap + 1) / 2 : Nat)) ∧ w' = W := by
  have c0 := H.cells.1
  obtain ⟨n, hn⟩ : ∃ n, (cap + 1) / 2 = n := ⟨_, rfl⟩
  rw [hn]
  have hq1 : Int.tdiv ((cap : Int) + 1) 2 = (n : Int) := by rw [Int.tdiv_eq_ediv_of_nonneg (by omega)]; omega
  have hw1 : wrap64 ((cap : Int) + 1) = (cap : Int) + 1 := by unfold wrap64; omega
  have hw2 : wrap64 (n : Int) = n := by unfold wrap64; omega
  clear hn H
  go_enter Try.func36, Try.ntmps36
  go_wp2
  go_ret
  exact ⟨by show Ending.returned (.int .i64 (wrap64 (n : Int))) = _; rw [hw2], rfl⟩
set_option maxRecDepth 100000 in
set_option maxHeartbeats 1000000 in
theorem rset_c {W : World} {r cap : Nat} {kv vv : Value} {L : List (Int × Int)} {h m : Int} (H : RcAt W r cap kv vv L h m) (h64 : cap ≤ 64) (h1 : 1 ≤ cap) (key : Int) :
    Calls Try.prog 34 #[.pointer (some ⟨r, 0, none⟩), .int .i64 key] W fun e w' => e = .returned (.int .i64 (sIx ((cap + 1) / 2) key)) ∧ w' = W := by
  have HS : Hid (Calls Try.prog 36 #[.pointer (some ⟨r, 0, none⟩)] W fun e w' => e = .returned (.int .i64 ((cap + 1) / 2 : Nat)) ∧ w' = W) := rsets_c H h64
  obtain ⟨n, hn⟩ : ∃ n, (cap + 1) / 2 = n := ⟨_, rfl⟩
  have hk : 0 < n := by omega
  have hk2 : n ≤ 32 := by omega
  rw [hn] at HS ⊢
  have hlt := sIx_lt hk key
  have hz : ¬ ((n : Int) = 0) := by omega
  clear hn H
  by_cases hc : Int.tmod key n < 0
  · have e1 := tmod_neg hk key hc
    generalize hj : sIx n key = j at *
    have hw : wrap64 (Int.tmod key n + n) = (j : Int) := by rw [e1]; unfold wrap64; omega
    clear hj e1
    go_enter Try.func34, Try.ntmps34
    go_wp2_with (go_at_call 36; refine HS.out.mono ?_; rintro e w' ⟨rfl, hwq⟩; obtain rfl := hwq.symm)
    go_ret
    exact ⟨by first | rfl | (rw [hw]; rfl), rfl⟩
  · have e1 := tmod_pos hk key hc
    have E1 : Hid (Int.tmod key n = (sIx n key : Int)) := e1
    clear e1
    go_enter Try.func34, Try.ntmps34
    go_wp2_with (go_at_call 36; refine HS.out.mono ?_; rintro e w' ⟨rfl, hwq⟩; obtain rfl := hwq.symm)
    go_ret
    exact ⟨by rw [← E1.out]; rfl, rfl⟩
set_option maxRecDepth 100000 in
theorem rclear_c {W : World} {r cap : Nat} {kv vv : Value} {L : List (Int × Int)} {h m : Int} (H : RcAt W r cap kv vv L h m) :
    Calls Try.prog 23 #[.pointer (some ⟨r, 0, none⟩)] W fun e w' => e = .returned (.tuple #[]) ∧ RcAt w' r cap (.slice none 0 0) (.slice none 0 0) [] h m ∧ Tch (fun k => k = r) W w' := by
  obtain ⟨c0, c1, c2, c3, c4, cf, hl⟩ := H.cells
  have f1 := cf 1
  have f2 := cf 2
  have HR : Hid (W.heap[r]? = some (.cells #[.int .i64 cap, kv, vv, .int .i64 h, .int .i64 m] 66 (0, 0))) := H.hr
  clear H c0 c3 c4 cf
  go_enter Try.func23, Try.ntmps23
  go_wp2
  refine bodyPost_end (results_none rfl _ _ _) rfl ⟨rfl, ⟨?_, World.ownsRow_nil _ _ _ _, World.ownsRow_nil _ _ _ _⟩, ?_⟩
  · rw [Go.Joins.block_setCell (Go.Joins.block_setCell HR.out _)]; rfl
  · exact Tch.set (S := fun k => k = r) (Tch.set (S := fun k => k = r) (Tch.refl _ W) (.inl rfl) _) (.inl rfl) _
/-- the place of a key among keys, or -1 -/
def plI (key : Int) : List (Int × Int) → Nat → Int
  | [], _ => -1
  | x :: r, k => if x.1 = key then (k : Int) else plI key r (k + 1)
theorem plI_at {key : Int} {L : List (Int × Int)} {k : Nat} {x : Int × Int} (h : L[k]? = some x) : plI key (L.drop k) k = if x.1 = key then (k : Int) else plI key (L.drop (k + 1)) (k + 1) := by
  obtain ⟨h1, h2⟩ := List.getElem?_eq_some_iff.1 h
  rw [List.drop_eq_getElem_cons h1, h2, plI]
set_option maxRecDepth 100000 in
set_option maxHeartbeats 1000000 in
theorem rplace_c {W : World} {r cap : Nat} {kv vv : Value} {L : List (Int × Int)} {h m : Int} (H : RcAt W r cap kv vv L h m) (hL : L.length ≤ 1000) (key : Int) :
    Calls Try.prog 32 #[.pointer (some ⟨r, 0, none⟩), .int .i64 key] W fun e w' => e = .returned (.int .i64 (plI key L 0)) ∧ w' = W := by
  have c1 := H.cells.2.1
  have hks := H.ks
  obtain ⟨n, hn⟩ : ∃ n, L.length = n := ⟨_, rfl⟩
  rw [hn] at hks hL
  obtain ⟨ka, kc, rfl⟩ := ownv hks
  have HK : Hid (W.ownsRow 0 3 1 (.slice ka n kc) n (intC (L.map Prod.fst))) := hks
  have HN : Hid (L.length = n) := hn
  clear H hks hn
  go_enter Try.func32, Try.ntmps32
  go_wp2
  go_loopw [5] (fun iv wr => ∃ i : Nat, iv = .int .i64 i ∧ i ≤ n ∧ wr = W ∧ Hid (plI key (L.drop i) i = plI key L 0)) (fun iv _ => n - (intOf iv).toNat)
  case atStart => exact ⟨0, rfl, Nat.zero_le _, rfl, rfl⟩
  case round =>
    obtain ⟨i, rfl, hi, rfl, hp⟩ := hrel
    by_cases hlt : i < n
    · obtain ⟨⟨x1, x2⟩, hx⟩ : ∃ x, L[i]? = some x := ⟨_, List.getElem?_eq_getElem (by rw [HN.out]; exact hlt)⟩
      obtain ⟨g, rfl⟩ : ∃ g, ka = some ⟨g, 0, none⟩ := by
        rcases HK.out.2 with ⟨_, e⟩ | ⟨g, c, cur, e, _⟩
        · omega
        · cases e; exact ⟨g, rfl⟩
      have y : wr.cell? ⟨g, i, none⟩ = some (.int .i64 x1) := (HK.out.cellAt i (by omega)).trans (by simp [intC, hx])
      have hp2 := plI_at (key := key) hx
      rw [hp.out] at hp2
      by_cases e : x1 = key
      · subst e
        have HZ : Hid (plI x1 L 0 = (i : Int)) := by rw [Hid, hp2]; simp
        clear hp hp2 hx
        go_wp2
        go_ret
        exact ⟨ret_int HZ.out.symm, rfl⟩
      · have HZ : Hid (plI key (L.drop (i + 1)) (i + 1) = plI key L 0) := by rw [Hid, hp2, if_neg e]
        have eb : (x1 == key) = false := by simpa using e
        clear hp hp2 hx
        go_wp2
        go_roundw
        case rel => exact ⟨i + 1, by go_num, by omega, by first | rfl | trivial, HZ⟩
        case measure => simp [intOf]; omega
    · obtain rfl : i = n := by omega
      have HZ : Hid (plI key L 0 = -1) := by rw [Hid, ← hp.out, List.drop_of_length_le (by rw [HN.out]; exact Nat.le_refl _)]; rfl
      clear hp
      go_wp2
      go_ret
      exact ⟨ret_int HZ.out.symm, rfl⟩
end Go.Proofs.Ytdjmjdlolhfejaa
