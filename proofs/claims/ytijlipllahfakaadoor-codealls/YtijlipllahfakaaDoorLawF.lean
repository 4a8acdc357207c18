/- Laws of package code over lists of instructions: a list's copy with more behind it, in a row of the call's own. -/
import Derived.Test.YtijlipllahfakaaDoorOwnL
import Derived.Test.YtijlipllahfakaaDoorLawP
import Derived.Laws.AppendOwnNone
import Derived.Deep.Slices
import Derived.Deep.Strs
namespace Go.Proofs.YtijlipllahfakaaDoor
open Go.RowKit Go.Deep Go.Joins

theorem Tryd.info25 : (Tryd.prog.info? 25).map (fun i => (i.zero, i.size, i.bytes)) = some (some (.agg #[.int .i64 0, .int .i64 0, .string ⟨#[]⟩, .bool false, .string ⟨#[]⟩, .string ⟨#[]⟩, .string ⟨#[]⟩]), 7, 88) := by kernel_rfl

/-- an append of a list that may be nil -/
theorem wpList_append_opt {P : Program} (w : World) {ops : Array Oper} {rest : List Oper} {o : Oper} {a : Act} {Q : Exit → Act → World → Prop} (hgd : o.guard = none) (s x : Operand) (t : TypeId)
    (ho : o.op = .call { callee := .builtin .append, args := #[s, x], argTypes := #[t, t] })
    (base : Nat) (e : TypeId) (i : TypeInfo) (z : Value) (size bytes : Nat) (ht : P.underlying t = some (.slice e)) (hi : P.info? e = some i) (hz : i.zero = some z)
    (hsize : i.size = size) (hby : i.bytes = bytes) (hzs : z.cells.size = size) (hsz : 0 < size)
    (v : Value) (n : Nat) (xs : List Value) (hs : a.eval s = v) (hown : w.ownsRow base e size v n xs)
    (vx : Value) (m : Nat) (news : List Value) (hx : a.eval x = vx) (hl : news.length = m * size)
    (hv : (vx = .slice none 0 0 ∧ m = 0) ∨ ∃ ad c, vx = .slice (some ad) m c ∧ ∀ j u, news[j]? = some u → w.cell? (ad.add j) = some u) (h1 : ∀ u ∈ news, u.oneCell' = true)
    (h63 : n + m ≤ maxLen) (hbytes : (n + m) * bytes ≤ 140737488355328) (hbase : base ≤ w.heap.size)
    (h : ∀ v' w', w'.ownsRow base e size v' (n + m) (xs ++ news) → w.grownBy w' v.ownBlock → wpList P ops Q rest (a.put o.dst v') w') : wpList P ops Q (o :: rest) a w := by
  rcases hv with ⟨rfl, rfl⟩ | ⟨ad, c, rfl, hc⟩
  · have hnil : news = [] := List.length_eq_zero_iff.1 (by simpa using hl)
    subst hnil
    refine wpList_append_own_none hgd s x t ho base e i size ht hi v n xs hs hown hx ?_
    refine h v w (by simpa using hown) ⟨rfl, rfl, rfl, Nat.le_refl _, fun _ _ _ => rfl⟩
  · exact wpList_append_own w hgd s x t ho base e i z size bytes ht hi hz hsize hby hzs hsz v n xs hs hown ad m c news hx hl hc h1 h63 hbytes hbase (fun v' w' h2 h3 _ => h v' w' h2 h3)

theorem flatI_one (l : List Ins) : ∀ u ∈ flatI l, u.oneCell' = true := by
  intro u hu
  obtain ⟨t, _, ht⟩ := List.mem_flatMap.1 hu
  simp [insC] at ht
  rcases ht with rfl | rfl | rfl | rfl | rfl | rfl | rfl <;> rfl
theorem empty_own (w : World) (base : Nat) (hb : base ≤ w.heap.size) : (w.alloc (.cells #[] 25)).ownsRow base 25 7 (.slice (some ⟨w.heap.size, 0, none⟩) 0 0) 0 [] :=
  World.ownsRow_made w #[] 0 hb (by unfold maxLen; omega) rfl
theorem new_cells (w : World) (cs : List Value) (t : TypeId) (j : Nat) (u : Value) (hj : cs[j]? = some u) : (w.alloc (.cells cs.toArray t)).cell? ((⟨w.heap.size, 0, none⟩ : Addr).add j) = some u := by
  rw [WideShapes.add_plain, Nat.zero_add, cell_of_row _ w.heap.size j _ t (0, 0) (heap_alloc_new w _)]
  simpa using hj
theorem inss_slice {w : World} {v : Value} {l : List Ins} (h : IsInss w v l) : ∃ ao cap, v = .slice ao l.length cap := by
  obtain ⟨ao, cap, e, _⟩ := h
  exact ⟨ao, cap, e⟩
theorem sameL_self (l : List Ins) : sameL l l = true := by
  induction l with
  | nil => rfl
  | cons x l ih => rw [sameL, ih, sameI, r_self]; simp

/-- a list and more behind it stand in a row of the call's own; what was handed in is as it was -/
structure Ws (W : World) (l ms : List Ins) (g cap : Nat) (wr : World) : Prop where
  own : wr.ownsRow W.heap.size 25 7 (.slice (some ⟨g, 0, none⟩) (l.length + ms.length) cap) (l.length + ms.length) (flatI (l ++ ms))
  bel : Below W.heap.size W wr
section
variable {W wr w1 : World} {l ms : List Ins} {g cap : Nat}
theorem Ws.size (h : Ws W l ms g cap wr) : W.heap.size ≤ g ∧ g < wr.heap.size := h.own.lt g rfl
theorem Ws.keep (h : Ws W l ms g cap wr) (hb : Below wr.heap.size wr w1) : Ws W l ms g cap w1 :=
  ⟨own_below h.own hb (Nat.le_refl _), h.bel.trans (hb.mono h.bel.size)⟩
theorem Ws.caps (h : Ws W l ms g cap wr) : l.length + ms.length ≤ cap ∧ cap ≤ maxLen := by
  rcases h.own.2 with ⟨q, _⟩ | ⟨g1, c1, cur, q, _, _, a1, a2, _⟩
  · simp at q
  · simp only [Value.slice.injEq, Option.some.injEq, Addr.mk.injEq, and_true, true_and] at q
    obtain ⟨_, rfl⟩ := q
    exact ⟨a1, a2⟩
theorem Ws.cell (h : Ws W l ms g cap wr) (k : Nat) (t : Ins) (hk : (l ++ ms)[k]? = some t) : InsAt wr g (k * 7) t := by
  have hlt : k < (l ++ ms).length := (List.getElem?_eq_some_iff.1 hk).1
  rw [List.length_append] at hlt
  obtain ⟨e0, e1, e2, e3, e4, e5, e6⟩ := flatI_at _ k t hk
  exact ⟨by rw [h.own.cellAt (k * 7) (by omega)]; exact e0, by rw [h.own.cellAt (k * 7 + 1) (by omega)]; exact e1, by rw [h.own.cellAt (k * 7 + 2) (by omega)]; exact e2, by rw [h.own.cellAt (k * 7 + 3) (by omega)]; exact e3, by rw [h.own.cellAt (k * 7 + 4) (by omega)]; exact e4, by rw [h.own.cellAt (k * 7 + 5) (by omega)]; exact e5, by rw [h.own.cellAt (k * 7 + 6) (by omega)]; exact e6⟩
theorem Ws.inss (h : Ws W l ms g cap wr) : IsInss wr (.slice (some ⟨g, 0, none⟩) l.length cap) l := by
  obtain ⟨c1, c2⟩ := h.caps
  refine ⟨_, cap, rfl, by omega, c2, fun _ => ⟨g, 0, rfl, h.size.2, fun k t hk => ?_⟩⟩
  have hlt : k < l.length := (List.getElem?_eq_some_iff.1 hk).1
  rw [Nat.zero_add]
  exact h.cell k t (by rw [List.getElem?_append_left hlt]; exact hk)
theorem Ws.whole (h : Ws W l ms g cap wr) : IsInss wr (.slice (some ⟨g, 0, none⟩) (l.length + ms.length) cap) (l ++ ms) := by
  obtain ⟨c1, c2⟩ := h.caps
  refine ⟨_, cap, by rw [List.length_append], by rw [List.length_append]; exact c1, c2, fun _ => ⟨g, 0, rfl, h.size.2, fun k t hk => ?_⟩⟩
  rw [Nat.zero_add]
  exact h.cell k t hk
end
/-- the two marks behind the list -/
def marks : List Ins := [⟨-71, 0, ⟨#[]⟩, false, ⟨#[]⟩, ⟨#[]⟩, ⟨#[]⟩⟩, ⟨-72, 0, ⟨#[]⟩, false, ⟨#[]⟩, ⟨#[]⟩, ⟨#[]⟩⟩]
/-- one more Return behind the list -/
def ret1 : List Ins := [⟨38, 0, ⟨#[]⟩, false, ⟨#[]⟩, ⟨#[]⟩, ⟨#[]⟩⟩]

end Go.Proofs.YtijlipllahfakaaDoor
