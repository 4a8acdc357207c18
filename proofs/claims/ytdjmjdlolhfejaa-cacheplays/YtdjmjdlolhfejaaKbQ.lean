/- The document's cache: plain facts of Put of a new key; an append in a region that draws. (Written by genkbe.py.) -/
import Derived.Test.YtdjmjdlolhfejaaKbD
import Derived.Deep.DeepCutAuto
import Derived.Deep.RegionLaw
namespace Go.Proofs.Ytdjmjdlolhfejaa
open Go.RowKit Go.Maps

/-- how many of a list belong to a set; the place of the last of them -/
def cnF (f : Int → Nat) (j : Nat) : List (Int × Int) → Nat
  | [] => 0
  | x :: r => (if f x.1 = j then 1 else 0) + cnF f j r
def laF (f : Int → Nat) (j : Nat) : List (Int × Int) → Nat → Nat → Nat
  | [], _, a => a
  | x :: r, k, a => laF f j r (k + 1) (if f x.1 = j then k else a)
theorem cnF_at {f : Int → Nat} {j : Nat} {L : List (Int × Int)} {k : Nat} {x : Int × Int} (h : L[k]? = some x) : cnF f j (L.drop k) = (if f x.1 = j then 1 else 0) + cnF f j (L.drop (k + 1)) := by
  obtain ⟨h1, h2⟩ := List.getElem?_eq_some_iff.1 h
  rw [List.drop_eq_getElem_cons h1, h2, cnF]
theorem laF_at {f : Int → Nat} {j a : Nat} {L : List (Int × Int)} {k : Nat} {x : Int × Int} (h : L[k]? = some x) : laF f j (L.drop k) k a = laF f j (L.drop (k + 1)) (k + 1) (if f x.1 = j then k else a) := by
  obtain ⟨h1, h2⟩ := List.getElem?_eq_some_iff.1 h
  rw [List.drop_eq_getElem_cons h1, h2, laF]
theorem cnF_le (f : Int → Nat) (j : Nat) : ∀ L : List (Int × Int), cnF f j L ≤ L.length
  | [] => by simp [cnF]
  | x :: r => by have := cnF_le f j r; simp only [cnF, List.length_cons]; split <;> omega
/-- where some are of the set: the last of them -/
theorem laF_spec (f : Int → Nat) (j : Nat) : ∀ (L : List (Int × Int)) (k a : Nat), (cnF f j L = 0 → laF f j L k a = a ∧ ∀ y ∈ L, f y.1 ≠ j) ∧ (0 < cnF f j L → ∃ i x, L[i]? = some x ∧ f x.1 = j ∧ laF f j L k a = k + i ∧ ∀ y ∈ L.drop (i + 1), f y.1 ≠ j)
  | [], _, _ => ⟨fun _ => ⟨rfl, by simp⟩, fun h => by simp [cnF] at h⟩
  | x :: r, k, a => by
    by_cases e : f x.1 = j
    · have ec : cnF f j (x :: r) = 1 + cnF f j r := by rw [cnF, if_pos e]
      have el : laF f j (x :: r) k a = laF f j r (k + 1) k := by rw [laF, if_pos e]
      refine ⟨fun h => by omega, fun _ => ?_⟩
      obtain ⟨p, q⟩ := laF_spec f j r (k + 1) k
      by_cases hz : cnF f j r = 0
      · exact ⟨0, x, rfl, e, by rw [el, (p hz).1]; rfl, by simpa using (p hz).2⟩
      · obtain ⟨i, y, h1, h2, h3, h4⟩ := q (by omega)
        exact ⟨i + 1, y, by simpa using h1, h2, by rw [el, h3]; omega, by simpa using h4⟩
    · have ec : cnF f j (x :: r) = cnF f j r := by rw [cnF, if_neg e]; omega
      have el : laF f j (x :: r) k a = laF f j r (k + 1) a := by rw [laF, if_neg e]
      obtain ⟨p, q⟩ := laF_spec f j r (k + 1) a
      rw [ec]
      refine ⟨fun h => ?_, fun h => ?_⟩
      · refine ⟨by rw [el]; exact (p h).1, fun y hy => ?_⟩
        rcases List.mem_cons.1 hy with rfl | hy
        · exact e
        · exact (p h).2 y hy
      · obtain ⟨i, y, h1, h2, h3, h4⟩ := q h
        exact ⟨i + 1, y, by simpa using h1, h2, by rw [el, h3]; omega, by simpa using h4⟩
theorem rmA_none : ∀ (L : List (Int × Int)) (k : Nat), rmA (-1) L k = L
  | [], _ => rfl
  | x :: r, k => by rw [rmA, if_neg (by omega), rmA_none r (k + 1)]
theorem rmA_past (i : Nat) : ∀ (L : List (Int × Int)) (k : Nat), i < k → rmA (i : Int) L k = L
  | [], _, _ => rfl
  | x :: r, k, h => by rw [rmA, if_neg (by omega), rmA_past i r (k + 1) (by omega)]
theorem rmA_eq : ∀ (L : List (Int × Int)) (i k : Nat), rmA ((k + i : Nat) : Int) L k = L.take i ++ L.drop (i + 1)
  | [], i, k => by simp [rmA]
  | x :: r, 0, k => by rw [rmA, if_pos (by simp)]; simpa using rmA_past k r (k + 1) (by omega)
  | x :: r, i + 1, k => by
    rw [rmA, if_neg (by omega)]
    have := rmA_eq r i (k + 1)
    rw [show ((k + (i + 1) : Nat) : Int) = ((k + 1 + i : Nat) : Int) by omega, this]; simp
/-- an append to a row of one's own, at a step of a region that draws, of any piece of a row -/
theorem step_append_at {P : Program} {w : World} {ops : Array Oper} {o : Oper} {a : Act} {K : Act → World → Prop} {Q : Exit → Act → World → Prop} {E : Prop} (hgd : o.guard = none) (s x : Operand) (t : TypeId)
    (ho : o.op = .call { callee := .builtin .append, args := #[s, x], argTypes := #[t, t] })
    (base : Nat) (e : TypeId) (i : TypeInfo) (z : Value) (size bytes : Nat) (ht : P.underlying t = some (.slice e)) (hi : P.info? e = some i) (hz : i.zero = some z)
    (hsize : i.size = size) (hby : i.bytes = bytes) (hzs : z.cells.size = size) (hsz : 0 < size)
    (v : Value) (n : Nat) (xs : List Value) (hs : a.eval s = v) (hown : w.ownsRow base e size v n xs) (ad : Addr) (m c : Nat) (news : List Value) (hx : a.eval x = .slice (some ad) m c) (hl : news.length = m * size) (hnews : ∀ j u, news[j]? = some u → w.cell? (ad.add j) = some u) (h1 : ∀ u ∈ news, u.oneCell' = true)
    (h63 : n + m ≤ maxLen) (hbytes : (n + m) * bytes ≤ 140737488355328) (hbase : base ≤ w.heap.size)
    (h : ∀ v' w', w'.ownsRow base e size v' (n + m) (xs ++ news) → w.grownBy w' v.ownBlock → K (a.put o.dst v') w') :
    if Region.wanted o (yielded ops a.tmps) = true then Oper.wp P o a w K Q else E := by
  have hw : Region.wanted o (yielded ops a.tmps) = true := by simp [Region.wanted, hgd]
  rw [if_pos hw]
  obtain ⟨v', w', hr', h2, h3, _, _⟩ := run_append_own_at (P := P) w base t o.type e i z size bytes ht hi hz hsize hby hzs hsz v n xs hown ad m c news hl hnews h1 h63 hbytes hbase
  unfold Oper.wp execOp
  simp only [ho, resolve, invoke, builtin, Sem.run_bind, Sem.run_pure, Result.andThen_ok, List.map_toArray, List.map_cons, List.map_nil, hs, hx, hr']
  exact h v' w' h2 h3
/-- an empty list that was written out -/
theorem own_empty (w : World) (m : Nat) (hm : w.heap.size = m) (base : Nat) (e size : Nat) (hb : base ≤ w.heap.size) : (w.alloc (.cells #[] e)).ownsRow base e size (.slice (some ⟨m, 0, none⟩) 0 0) 0 [] := by
  subst hm
  refine ⟨by simp, .inr ⟨w.heap.size, 0, #[], rfl, hb, halloc1 w _, Nat.le_refl _, by unfold maxLen; omega, ?_, ?_⟩⟩ <;> simp
/-- behind the two appends: a field of the document's cache is set -/
theorem cut_fin {w w6 : World} {r cap n k : Nat} {kv vv v6 : Value} {h m : Int} {xs ys : List Value} (hr : w.heap[r]? = some (.cells #[.int .i64 cap, kv, vv, .int .i64 h, .int .i64 m] 66 (0, 0))) (hl : r < w.heap.size) (hb : Below w.heap.size w w6) (ho : w6.ownsRow w.heap.size 3 1 v6 n xs) (hn : n = k) (he : xs = ys) :
    ∃ k3, (w6.setCell ⟨r, 1, none⟩ v6).heap[r]? = some (.cells #[.int .i64 cap, k3, vv, .int .i64 h, .int .i64 m] 66 (0, 0)) ∧ (w6.setCell ⟨r, 1, none⟩ v6).ownsRow w.heap.size 3 1 k3 k ys ∧ Tch (fun k => k = r) w (w6.setCell ⟨r, 1, none⟩ v6) := by
  subst hn he
  refine ⟨v6, by rw [Go.Joins.block_setCell ((hb.block r hl).trans hr)]; rfl, own_keep ho (fun g hg => Below.heap_setCell _ _ _ _ (by have := (ho.lt g hg).1; simp; omega)), Tch.set (S := fun k => k = r) ((Tch.refl _ w).bel hb) (.inl rfl) _⟩
theorem cut_fin2 {w w6 : World} {r cap n k : Nat} {kv vv v6 : Value} {h m : Int} {xs ys : List Value} (hr : w.heap[r]? = some (.cells #[.int .i64 cap, kv, vv, .int .i64 h, .int .i64 m] 66 (0, 0))) (hl : r < w.heap.size) (hb : Below w.heap.size w w6) (ho : w6.ownsRow w.heap.size 3 1 v6 n xs) (hn : n = k) (he : xs = ys) :
    ∃ k3, (w6.setCell ⟨r, 2, none⟩ v6).heap[r]? = some (.cells #[.int .i64 cap, kv, k3, .int .i64 h, .int .i64 m] 66 (0, 0)) ∧ (w6.setCell ⟨r, 2, none⟩ v6).ownsRow w.heap.size 3 1 k3 k ys ∧ Tch (fun k => k = r) w (w6.setCell ⟨r, 2, none⟩ v6) := by
  subst hn he
  refine ⟨v6, by rw [Go.Joins.block_setCell ((hb.block r hl).trans hr)]; rfl, own_keep ho (fun g hg => Below.heap_setCell _ _ _ _ (by have := (ho.lt g hg).1; simp; omega)), Tch.set (S := fun k => k = r) ((Tch.refl _ w).bel hb) (.inl rfl) _⟩
theorem intC_one (l : List Int) : ∀ u ∈ intC l, u.oneCell' = true := by
  intro u hu
  obtain ⟨x, _, rfl⟩ := List.mem_map.1 hu
  rfl
end Go.Proofs.Ytdjmjdlolhfejaa
