/- The document's cache: take. -/
import Derived.Test.YtdjmjdlolhfejaaKbA
import Derived.Test.YtdjmjdlolhfejaaKbN
namespace Go.Proofs.Ytdjmjdlolhfejaa
open Go.RowKit Go.Maps

/-- a list without the one at a place -/
def rmA (at_ : Int) : List (Int × Int) → Nat → List (Int × Int)
  | [], _ => []
  | x :: r, k => if (k : Int) = at_ then rmA at_ r (k + 1) else x :: rmA at_ r (k + 1)
theorem rmA_app (at_ : Int) : ∀ (a b : List (Int × Int)) (k : Nat), rmA at_ (a ++ b) k = rmA at_ a k ++ rmA at_ b (k + a.length)
  | [], b, k => by simp [rmA]
  | x :: a, b, k => by
    have e : k + 1 + a.length = k + (a.length + 1) := by omega
    by_cases h : (k : Int) = at_
    · simp only [List.cons_append, rmA, if_pos h, rmA_app at_ a b (k + 1), List.length_cons, e]
    · simp only [List.cons_append, rmA, if_neg h, rmA_app at_ a b (k + 1), List.length_cons, e]
theorem rmA_len (at_ : Int) : ∀ (a : List (Int × Int)) (k : Nat), (rmA at_ a k).length ≤ a.length
  | [], _ => by simp [rmA]
  | x :: a, k => by
    have := rmA_len at_ a (k + 1)
    by_cases h : (k : Int) = at_
    · simp only [rmA, if_pos h, List.length_cons]; omega
    · simp only [rmA, if_neg h, List.length_cons]; omega
theorem rmA_snoc {at_ : Int} {L : List (Int × Int)} {i : Nat} {x : Int × Int} (h : L[i]? = some x) : rmA at_ (L.take (i + 1)) 0 = rmA at_ (L.take i) 0 ++ (if (i : Int) = at_ then [] else [x]) := by
  have hl := (List.getElem?_eq_some_iff.1 h).1
  rw [List.take_add_one, h, rmA_app]
  have e : 0 + (L.take i).length = i := by rw [List.length_take]; omega
  rw [e]
  by_cases hc : (i : Int) = at_
  · simp [rmA, hc]
  · simp [rmA, hc]
theorem new1' (w : World) (x : Int) : ∀ j u, [Value.int .i64 x][j]? = some u → (w.alloc (.cells #[.int .i64 x] 3)).cell? ((⟨w.heap.size, 0, none⟩ : Addr).add j) = some u
  | 0, u, hj => by
    simp at hj; subst hj
    rw [Addr.add_lit]
    exact (cell_of_row _ w.heap.size 0 _ _ _ (halloc1 _ _)).trans rfl
  | j + 1, u, hj => by simp at hj
/-- what a round of take has: two lists that grow side by side -/
structure TkW (W wr : World) (key value at_ : Int) (L : List (Int × Int)) (i : Nat) (v8 v9 : Value) (M : Nat) : Prop where
  len : M = ((key, value) :: rmA at_ (L.take i) 0).length
  r8 : wr.ownsRow W.heap.size 3 1 v8 M (intC (((key, value) :: rmA at_ (L.take i) 0).map Prod.fst))
  r9 : wr.ownsRow W.heap.size 3 1 v9 M (intC (((key, value) :: rmA at_ (L.take i) 0).map Prod.snd))
  ne : ∀ g, v8.ownBlock = some g → v9.ownBlock ≠ some g
  t : Tch (fun _ => False) W wr
set_option maxRecDepth 100000 in
set_option maxHeartbeats 4000000 in
theorem rtake_c {W : World} {r cap : Nat} {kv vv : Value} {L : List (Int × Int)} {h m : Int} (H : RcAt W r cap kv vv L h m) (hL : L.length ≤ 100) (at_ key value : Int) :
    Calls Try.prog 33 #[.pointer (some ⟨r, 0, none⟩), .int .i64 at_, .int .i64 key, .int .i64 value] W fun e w' => e = .returned (.tuple #[]) ∧ (∃ kv' vv', RcAt w' r cap kv' vv' ((key, value) :: rmA at_ L 0) h m) ∧ Tch (fun k => k = r) W w' := by
  obtain ⟨i0, hi0, hz0, hz1, hz2⟩ := info_parts Try.hinfoI
  have HH : Hid (RcAt W r cap kv vv L h m) := H
  have hrl := H.cells.2.2.2.2.2.2
  obtain ⟨n, hn⟩ : ∃ n, L.length = n := ⟨_, rfl⟩
  have hks := H.ks
  have hvs := H.vs
  rw [hn] at hks hvs hL
  obtain ⟨ka, kc, rfl⟩ := ownv hks
  obtain ⟨wa, wc, rfl⟩ := ownv hvs
  have HN : Hid (L.length = n) := hn
  have HK : Hid (W.ownsRow 0 3 1 (.slice ka n kc) n (intC (L.map Prod.fst))) := hks
  have HV : Hid (W.ownsRow 0 3 1 (.slice wa n wc) n (intC (L.map Prod.snd))) := hvs
  clear H hks hvs hn
  go_enter Try.func33, Try.ntmps33
  go_wp2
  go_loopw [8, 9, 10] (fun v8 v9 iv wr => ∃ (i M : Nat), iv = .int .i64 i ∧ i ≤ n ∧ M ≤ i + 1 ∧ Hid (TkW W wr key value at_ L i v8 v9 M)) (fun _ _ iv _ => n - (intOf iv).toNat)
  case atStart =>
    refine ⟨0, 1, rfl, Nat.zero_le _, by omega, ⟨by simp [rmA], ?_, ?_, by intro g h1 h2; simp [Value.ownBlock] at h1 h2; omega, ((Tch.refl _ W).alloc _).alloc _⟩⟩
    · exact ⟨by simp [intC, rmA], .inr ⟨_, 1, _, rfl, Nat.le_refl _, hkeep (halloc1 _ _), Nat.le_refl _, by unfold maxLen; omega, by simp, by simp [intC, rmA]⟩⟩
    · exact ⟨by simp [intC, rmA], .inr ⟨_, 1, _, rfl, by omega, halloc2 _ _ (by simp), Nat.le_refl _, by unfold maxLen; omega, by simp, by simp [intC, rmA]⟩⟩
  case round =>
    obtain ⟨i, M, rfl, hi, hM, TW⟩ := hrel
    obtain ⟨wo, rfl⟩ : ∃ wo, wo = wr := ⟨_, rfl⟩
    obtain ⟨a8, c8, rfl⟩ := ownv TW.out.r8
    obtain ⟨a9, c9, rfl⟩ := ownv TW.out.r9
    have RO := HH.out.tch TW.out.t
    have q1 := RO.cells.2.1
    have q2 := RO.cells.2.2.1
    have qf := RO.cells.2.2.2.2.2.1
    by_cases hlt : i < n
    · obtain ⟨⟨x1, x2⟩, hx⟩ : ∃ x, L[i]? = some x := ⟨_, List.getElem?_eq_getElem (by rw [HN.out]; exact hlt)⟩
      have hsn := rmA_snoc (at_ := at_) hx
      by_cases e : (i : Int) = at_
      · have TW2 : Hid (TkW W wo key value at_ L (i + 1) (.slice a8 M c8) (.slice a9 M c9) M) := by
          rw [if_pos e, List.append_nil] at hsn
          obtain ⟨t1, t2, t3, t4, t5⟩ := TW.out
          exact ⟨by rw [hsn]; exact t1, by rw [hsn]; exact t2, by rw [hsn]; exact t3, t4, t5⟩
        clear TW hsn hx RO
        subst e
        go_wp2
        go_roundw
        case rel => exact ⟨i + 1, M, by go_num, by omega, by omega, TW2⟩
        case measure => simp [intOf]; omega
      · have eb : ((i : Int) == at_) = false := by simpa using e
        obtain ⟨gk, rfl⟩ : ∃ g, ka = some ⟨g, 0, none⟩ := by
          rcases HK.out.2 with ⟨_, e⟩ | ⟨g, c, cur, e, _⟩
          · omega
          · cases e; exact ⟨g, rfl⟩
        obtain ⟨gv, rfl⟩ : ∃ g, wa = some ⟨g, 0, none⟩ := by
          rcases HV.out.2 with ⟨_, e⟩ | ⟨g, c, cur, e, _⟩
          · omega
          · cases e; exact ⟨g, rfl⟩
        have yk : W.cell? ⟨gk, i, none⟩ = some (.int .i64 x1) := (HK.out.cellAt i (by omega)).trans (by simp [intC, hx])
        have yv : W.cell? ⟨gv, i, none⟩ = some (.int .i64 x2) := (HV.out.cellAt i (by omega)).trans (by simp [intC, hx])
        have YV : Hid (W.cell? ⟨gv, i, none⟩ = some (.int .i64 x2)) := yv
        have y8 : wo.cell? ⟨gk, i, none⟩ = some (.int .i64 x1) := (World.cell?_of_block (a := ⟨gk, i, none⟩) (TW.out.t.blk gk (HK.out.lt gk rfl).2 (fun x => x))).trans yk
        rw [if_neg e] at hsn
        have HSN : Hid (rmA at_ (L.take (i + 1)) 0 = rmA at_ (L.take i) 0 ++ [(x1, x2)]) := hsn
        have HM : Hid (M = ((key, value) :: rmA at_ (L.take i) 0).length) := TW.out.len
        have R8 : Hid (wo.ownsRow W.heap.size 3 1 (.slice a8 M c8) M (intC (((key, value) :: rmA at_ (L.take i) 0).map Prod.fst))) := TW.out.r8
        have R9 : Hid (wo.ownsRow W.heap.size 3 1 (.slice a9 M c9) M (intC (((key, value) :: rmA at_ (L.take i) 0).map Prod.snd))) := TW.out.r9
        have NE : Hid (∀ g, (Value.slice a8 M c8).ownBlock = some g → (Value.slice a9 M c9).ownBlock ≠ some g) := TW.out.ne
        have T0 : Hid (Tch (fun _ => False) W wo) := TW.out.t
        have SZ : Hid (W.heap.size ≤ wo.heap.size) := TW.out.t.size
        generalize rmA at_ (L.take i) 0 = Pq at *
        clear TW hsn hx RO yk yv qf
        go_wp2_with (first
          | (at_builtin; refine wpList_append_kp rfl _ _ 35 rfl W.heap.size 3 i0 (.int .i64 0) 1 8 Try.underlying35 hi0 hz0 hz1 hz2 rfl (by decide) (.slice a8 M c8) M (intC (((key, value) :: Pq).map Prod.fst)) rfl ?own ⟨wo.heap.size, 0, none⟩ 1 1 [.int .i64 x1] rfl rfl ?news ?one ?b1 ?b2 ?b3 ?_
             case own => exact R8.out.alloc _
             case news => exact new1' _ x1
             case one => (intro u hu; simp at hu; subst hu; rfl)
             case b1 => (unfold maxLen; omega)
             case b2 => omega
             case b3 => (have := SZ.out; simp; omega)
             intro v' w2 hown hgrow hnew hkp
             obtain ⟨b8, d8, rfl⟩ := ownv hown
             have O8 : Hid (w2.ownsRow W.heap.size 3 1 (.slice b8 (M + 1) d8) (M + 1) (intC (((key, value) :: (Pq ++ [(x1, x2)])).map Prod.fst))) := (by rw [Hid]; simpa [intC] using hown)
             have O9 : Hid (w2.ownsRow W.heap.size 3 1 (.slice a9 M c9) M (intC (((key, value) :: Pq).map Prod.snd))) := (R9.out.alloc _).kept hgrow (by by_cases hq : (Value.slice a9 M c9).ownBlock = none; exact .inl hq; exact .inr (fun eq => by obtain ⟨g, hg⟩ := Option.ne_none_iff_exists'.1 hq; exact NE.out g (by rw [← eq]; exact hg) hg))
             have NE2 : Hid (∀ g, (Value.slice b8 (M + 1) d8).ownBlock = some g → (Value.slice a9 M c9).ownBlock ≠ some g) := fun g hg h9 => (by rcases hnew g hg with x | x; exact NE.out g x h9; have := (R9.out.lt g h9).2; simp at x; omega)
             have T2 : Hid (Tch (fun _ => False) W w2) := (T0.out.alloc _).grown hgrow (fun k hk => .inr (R8.out.lt k hk).1)
             have SZ2 : Hid (W.heap.size ≤ w2.heap.size) := T2.out.size
             have RO2 := HH.out.tch T2.out
             have p2 := RO2.cells.2.2.1
             have y9 : w2.cell? ⟨gv, i, none⟩ = some (.int .i64 x2) := (World.cell?_of_block (a := ⟨gv, i, none⟩) (T2.out.blk gv (HV.out.lt gv rfl).2 (fun x => x))).trans YV.out
             clear hown hgrow hnew hkp R8 R9 NE T0 SZ RO2 y8 q1 q2)
          | (at_builtin; refine wpList_append_kp rfl _ _ 35 rfl W.heap.size 3 i0 (.int .i64 0) 1 8 Try.underlying35 hi0 hz0 hz1 hz2 rfl (by decide) (.slice a9 M c9) M (intC (((key, value) :: Pq).map Prod.snd)) rfl ?own ⟨w2.heap.size, 0, none⟩ 1 1 [.int .i64 x2] rfl rfl ?news ?one ?b1 ?b2 ?b3 ?_
             case own => exact O9.out.alloc _
             case news => exact new1' _ x2
             case one => (intro u hu; simp at hu; subst hu; rfl)
             case b1 => (unfold maxLen; omega)
             case b2 => omega
             case b3 => (have := SZ2.out; simp; omega)
             intro v' w3 hown hgrow hnew hkp
             obtain ⟨b9, d9, rfl⟩ := ownv hown
             have Q9 : Hid (w3.ownsRow W.heap.size 3 1 (.slice b9 (M + 1) d9) (M + 1) (intC (((key, value) :: (Pq ++ [(x1, x2)])).map Prod.snd))) := (by rw [Hid]; simpa [intC] using hown)
             have Q8 : Hid (w3.ownsRow W.heap.size 3 1 (.slice b8 (M + 1) d8) (M + 1) (intC (((key, value) :: (Pq ++ [(x1, x2)])).map Prod.fst))) := (O8.out.alloc _).kept hgrow (by by_cases hq : (Value.slice b8 (M + 1) d8).ownBlock = none; exact .inl hq; exact .inr (fun eq => by obtain ⟨g, hg⟩ := Option.ne_none_iff_exists'.1 hq; exact NE2.out g hg (by rw [← eq]; exact hg)))
             have NE3 : Hid (∀ g, (Value.slice b8 (M + 1) d8).ownBlock = some g → (Value.slice b9 (M + 1) d9).ownBlock ≠ some g) := fun g hg h9 => (by rcases hnew g h9 with x | x; exact NE2.out g hg x; have := (O8.out.lt g hg).2; simp at x; omega)
             have T3 : Hid (Tch (fun _ => False) W w3) := (T2.out.alloc _).grown hgrow (fun k hk => .inr (O9.out.lt k hk).1)
             clear hown hgrow hnew hkp O8 O9 NE2 T2 SZ2 y9 p2))
        go_roundw
        case rel => exact ⟨i + 1, M + 1, by go_num, by omega, by omega, ⟨by rw [HSN.out, HM.out]; simp, by rw [HSN.out]; exact Q8.out, by rw [HSN.out]; exact Q9.out, NE3.out, T3.out⟩⟩
        case measure => simp [intOf]; omega
    · obtain rfl : i = n := by omega
      have e : L.take i = L := List.take_of_length_le (by rw [HN.out]; exact Nat.le_refl _)
      have f1 := qf 1
      have f2 := qf 2
      have HRO : Hid (wo.heap[r]? = some (.cells #[.int .i64 cap, .slice ka i kc, .slice wa i wc, .int .i64 h, .int .i64 m] 66 (0, 0))) := RO.hr
      clear RO qf
      go_wp2
      refine bodyPost_end (results_none rfl _ _ _) rfl ⟨rfl, ⟨.slice a8 M c8, .slice a9 M c9, ?_, ?_, ?_⟩, ?_⟩
      · rw [Go.Joins.block_setCell (Go.Joins.block_setCell HRO.out _)]; rfl
      · have t2 : wo.ownsRow W.heap.size 3 1 (.slice a8 M c8) ((key, value) :: rmA at_ L 0).length (intC (((key, value) :: rmA at_ L 0).map Prod.fst)) := by
          have q := TW.out.r8
          have l := TW.out.len
          rw [e] at q l
          rw [← l]; exact q
        refine own_mono (own_keep t2 (fun g hg => ?_)) (Nat.zero_le _)
        have hb := (TW.out.r8.lt g hg).1
        rw [Below.heap_setCell _ _ _ _ (by simp; omega), Below.heap_setCell _ _ _ _ (by simp; omega)]
      · have t3 : wo.ownsRow W.heap.size 3 1 (.slice a9 M c9) ((key, value) :: rmA at_ L 0).length (intC (((key, value) :: rmA at_ L 0).map Prod.snd)) := by
          have q := TW.out.r9
          have l := TW.out.len
          rw [e] at q l
          rw [← l]; exact q
        refine own_mono (own_keep t3 (fun g hg => ?_)) (Nat.zero_le _)
        have hb := (TW.out.r9.lt g hg).1
        rw [Below.heap_setCell _ _ _ _ (by simp; omega), Below.heap_setCell _ _ _ _ (by simp; omega)]
      · exact Tch.set (S := fun k => k = r) (Tch.set (S := fun k => k = r) (TW.out.t.mono fun _ _ x => x.elim) (.inl rfl) _) (.inl rfl) _
end Go.Proofs.Ytdjmjdlolhfejaa
