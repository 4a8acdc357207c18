/- The document's cache: Get and Put, joined; a cache of the package's beside it. -/
import Derived.Test.YtdjmjdlolhfejaaKbE
import Derived.Test.YtdjmjdlolhfejaaKbF
import Derived.Test.YtdjmjdlolhfejaaKbG
namespace Go.Proofs.Ytdjmjdlolhfejaa
open Go.RowKit Go.Maps

theorem rmA_at (L : List (Int × Int)) (i : Nat) : rmA (i : Int) L 0 = L.take i ++ L.drop (i + 1) := by
  have := rmA_eq L i 0
  rwa [Nat.zero_add] at this
theorem rget_c {W : World} {r cap : Nat} {kv vv : Value} {L : List (Int × Int)} {h m : Int} (H : RcAt W r cap kv vv L h m) (hL : L.length ≤ 100) (key : Int) :
    Calls Try.prog 18 #[.pointer (some ⟨r, 0, none⟩), .int .i64 key] W fun e w' => e = .returned (.tuple #[.int .i64 (fdS key L).1, .bool (fdS key L).2.1]) ∧ (∃ kv' vv', RcAt w' r cap kv' vv' (fdS key L).2.2 (if (fdS key L).2.1 then wrap64 (h + 1) else h) (if (fdS key L).2.1 then m else wrap64 (m + 1))) ∧ Tch (fun k => k = r) W w' := by
  rcases plI_cases key L 0 with ⟨_, h2⟩ | ⟨i, y, h1, h2, h3⟩
  · have e : fdS key L = (0, false, L) := by rw [fdS, tkM_of_no h2]
    rw [e]
    exact (rget_no H hL key h2).mono fun e w' ⟨a, b, c⟩ => ⟨a, ⟨_, _, b⟩, c⟩
  · rw [Nat.zero_add] at h2
    have e : fdS key L = (y, true, (key, y) :: rmA i L 0) := by rw [fdS, tkM_first h1 h3, rmA_at]
    rw [e]
    exact rget_yes H hL key h1 h2
theorem rput_c {W : World} {r cap : Nat} {kv vv : Value} {L : List (Int × Int)} {h m : Int} (H : RcAt W r cap kv vv L h m) (h1 : 1 ≤ cap) (h64 : cap ≤ 64) (hL : L.length ≤ 90) (key value : Int) :
    Calls Try.prog 19 #[.pointer (some ⟨r, 0, none⟩), .int .i64 key, .int .i64 value] W fun e w' => e = .returned (.tuple #[.int .i64 (dpS ((cap + 1) / 2) cap (key, value) L).1.1, .int .i64 (dpS ((cap + 1) / 2) cap (key, value) L).1.2, .bool (dpS ((cap + 1) / 2) cap (key, value) L).2.1]) ∧ (∃ kv' vv', RcAt w' r cap kv' vv' (dpS ((cap + 1) / 2) cap (key, value) L).2.2 h m) ∧ Tch (fun k => k = r) W w' := by
  rcases plI_cases key L 0 with ⟨hp, h2⟩ | ⟨i, y, g1, g2, g3⟩
  · have hk : tkM key L = none := tkM_of_no h2
    have HP : Calls Try.prog 32 #[.pointer (some ⟨r, 0, none⟩), .int .i64 key] W fun e w' => e = .returned (.int .i64 (-1)) ∧ w' = W := by have q := rplace_c H (by omega) key; rw [hp] at q; exact q
    have HC : Calls Try.prog 33 #[.pointer (some ⟨r, 0, none⟩), .int .i64 (-1), .int .i64 key, .int .i64 value] W fun e w' => e = .returned (.tuple #[]) ∧ (∃ kv' vv', RcAt w' r cap kv' vv' ((key, value) :: L) h m) ∧ Tch (fun k => k = r) W w' := by have q := rtake_c H (by omega) (-1) key value; rw [rmA_none] at q; exact q
    have hlt := sIx_lt (n := (cap + 1) / 2) (by omega) key
    have hln : ((key, value) :: L).length ≤ 100 := by simp; omega
    by_cases hfit : cnF (sIx ((cap + 1) / 2)) (sIx ((cap + 1) / 2) key) ((key, value) :: L) ≤ rrmV cap (sIx ((cap + 1) / 2) key)
    · have e : dpS ((cap + 1) / 2) cap (key, value) L = ((0, 0), false, (key, value) :: L) := by simp only [dpS, hk, if_pos hfit]
      rw [e]
      exact rput_fit_w (sIx ((cap + 1) / 2)) key value (by omega) hln rfl HP HC H.cells.1 (fun w kv vv x hw => rset_c hw h64 h1 x) (fun w kv vv hw => rroom_c hw h64 _ (by omega)) hfit
    · obtain ⟨i, ⟨z1, z2⟩, hz1, hz2, hz3, hz4⟩ := (laF_spec (sIx ((cap + 1) / 2)) (sIx ((cap + 1) / 2) key) ((key, value) :: L) 0 0).2 (by omega)
      rw [Nat.zero_add] at hz3
      have e : dpS ((cap + 1) / 2) cap (key, value) L = ((z1, z2), true, ((key, value) :: L).take i ++ ((key, value) :: L).drop (i + 1)) := by simp only [dpS, hk, if_neg hfit, hz3, hz1]
      rw [e]
      exact rput_cut_w (sIx ((cap + 1) / 2)) key value (by omega) hln rfl HP HC H.cells.1 (fun w kv vv x hw => rset_c hw h64 h1 x) (fun w kv vv hw => rroom_c hw h64 _ (by omega)) (Nat.lt_of_not_le hfit) hz1 hz3
  · rw [Nat.zero_add] at g2
    have e : dpS ((cap + 1) / 2) cap (key, value) L = ((0, 0), false, (key, value) :: rmA i L 0) := by simp only [dpS, tkM_first g1 g3, rmA_at]
    rw [e]
    exact rput_yes H h1 (by omega) key value g2
/-- a cache stays where blocks of its kinds stay -/
theorem CaK.kinds {W w : World} {N p : Nat} {K : Sk} {cap : Nat} {ss : List (List (Int × Int))} {h m s r : Int} (H : CaK W N p K cap ss h m s r) (hk : ∀ (k : Nat) (c : Array Value) (e : TypeId), W.heap[k]? = some (.cells c e (0, 0)) → cty2 e = true → w.heap[k]? = W.heap[k]?) : CaK w N p K cap ss h m s r := by
  refine ⟨H.np, (hk p _ _ H.hp (by rfl)).trans H.hp, ?_⟩
  have h := H.st
  cases K using Sk.elim with
  | no => exact h
  | one q =>
    obtain ⟨h1, l, h2, h3, x, h4, h5⟩ := h
    refine ⟨h1, l, h2, h3, x, (hk q _ _ h4 (by rfl)).trans h4, h5.keep ?_⟩
    rintro b rfl
    rcases h5 with ⟨e, _⟩ | ⟨b', k, v, e, _, h6⟩
    · cases e
    · cases e; exact hk b _ _ h6 (by rfl)
  | many q a =>
    obtain ⟨vs, h⟩ := h
    obtain ⟨C, hC, _⟩ := h.ha
    refine ⟨vs, h.keep (hk q _ _ h.hq (by rfl)) (hk a _ _ hC (by rfl)) (fun j v g hv hg => ?_)⟩
    obtain ⟨l, hl⟩ : ∃ l, ss[j]? = some l := ⟨_, List.getElem?_eq_getElem (by have := (List.getElem?_eq_some_iff.1 hv).1; have := h.lv; omega)⟩
    obtain ⟨c, hc⟩ := own_entry (h.row j v l hv hl).1 hg
    exact hk g _ _ hc (by rfl)
/-- ..where the document's cache is turned -/
theorem CaK.doc {W w : World} {N p r cap cp : Nat} {K : Sk} {ss : List (List (Int × Int))} {h m h' m' : Int} {kv vv : Value} {L : List (Int × Int)} (H : CaK W N p K cap ss h m 0 0) (D : RcAt W r cp kv vv L h' m') (ht : Tch (fun k => k = r) W w) : CaK w N p K cap ss h m 0 0 :=
  H.kinds fun k c e hk he => ht.blk k (Array.getElem?_eq_some_iff.1 hk).1 (by rintro rfl; rw [D.hr] at hk; cases hk; exact absurd he (by decide))
theorem CaK.tch {W w : World} {N p cap : Nat} {K : Sk} {ss : List (List (Int × Int))} {h m s r : Int} (H : CaK W N p K cap ss h m s r) (ht : Tch (fun _ => False) W w) : CaK w N p K cap ss h m s r :=
  H.kinds fun k _ _ hk _ => ht.blk k (Array.getElem?_eq_some_iff.1 hk).1 (fun x => x)
/-- both caches, the same entries, hits and misses -/
def Both (w : World) (N p r cap : Nat) (K : Sk) : Prop := ∃ ss kv vv L h m, CaK w N p K cap ss h m 0 0 ∧ RcAt w r cap kv vv L h m ∧ RelC cap ss L
theorem own_kind {N M : Nat} {W w : World} {v : Value} {n : Nat} {xs : List Value} (h : W.ownsRow M 3 1 v n xs) (ht : TC N W w) : w.ownsRow M 3 1 v n xs :=
  own_keep h fun g hg => by obtain ⟨c, hc⟩ := own_int h hg; exact ht.kind hc (by rfl)
theorem own_tch {M : Nat} {W w : World} {v : Value} {n : Nat} {xs : List Value} (h : W.ownsRow M 3 1 v n xs) (ht : Tch (fun _ => False) W w) : w.ownsRow M 3 1 v n xs :=
  own_keep h fun g hg => ht.blk g (h.lt g hg).2 (fun x => x)
theorem Tch.bN {N r : Nat} {W w : World} (h : Tch (fun k => k = r) W w) (hr : N ≤ r) (hN : N ≤ W.heap.size) : Below N W w := Tch.below h hN fun _ e => e ▸ hr
end Go.Proofs.Ytdjmjdlolhfejaa
