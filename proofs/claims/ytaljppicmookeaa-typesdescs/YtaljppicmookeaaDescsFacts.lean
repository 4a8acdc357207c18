/- What the statement TypesDescs leans on: a sound descriptor's text is parsed to it again; an append of a list that may be nil; two descriptors of a call's own, apart. -/
import Derived.Test.YtaljppicmookeaaRefText
import Derived.Test.YtaljppicmookeaaTextsFacts
import Derived.Laws.AppendOwnNone
namespace Go.Proofs.Ytaljppicmookeaa
open Go.RowKit

theorem natT_natOf {t : Int × ByteArray} (h : sndT t = true) : natT (natOf t) = t := by
  obtain ⟨d, n⟩ := t
  obtain ⟨k, rfl, _⟩ := snd_nat h
  simp [natT, natOf]

theorem snd_namedT {d : Int} {l : List UInt8} (h : sndB d l = true) : namedT (d.toNat, l) = true := by
  unfold sndB at h
  simp only [Bool.and_eq_true] at h
  have h2 := h.2
  cases l with
  | nil => rfl
  | cons c r => simpa [namedT] using h2

/-- the answered type of a descriptor, as plain data -/
def retO (vb : Bool) (rd : Int) (rn : ByteArray) : Option (Nat × List UInt8) := if vb then none else some (rd.toNat, rn.data.toList)

theorem textD_writeD (ts : List (Int × ByteArray)) (vb : Bool) (rd : Int) (rn : ByteArray) : textD ts vb rd rn = writeD (ts.map natOf, retO vb rd rn) := by
  unfold textD writeD retO retS
  cases vb <;> simp [writeRet]

theorem dt_zero {ts : List (Int × ByteArray)} {vb : Bool} {rd : Int} {rn : ByteArray} (h : dtE ts vb rd rn = 0) : sndD ts vb rd rn = true ∧ ts.length ≤ 20 ∧ (textD ts vb rd rn).length ≤ 2000 ∧ dtS ts vb rd rn = textD ts vb rd rn := by
  have h0 := h
  unfold dtE at h
  cases hs : sndD ts vb rd rn with
  | false => rw [hs] at h; simp at h
  | true =>
    rw [hs, if_pos rfl] at h
    by_cases h1 : 20 < ts.length
    · rw [if_pos h1] at h; simp at h
    · rw [if_neg h1] at h
      by_cases h2 : 2000 < (textD ts vb rd rn).length
      · rw [if_pos h2] at h; simp at h
      · exact ⟨rfl, by omega, by omega, by rw [dtS, if_pos h0]⟩

theorem map_self {α : Type} (f : α → α) (l : List α) (h : ∀ x ∈ l, f x = x) : l.map f = l := by
  induction l with
  | nil => rfl
  | cons x l ih => rw [List.map_cons, h x (List.mem_cons_self ..), ih (fun y hy => h y (List.mem_cons_of_mem _ hy))]

/-- a descriptor that is written is parsed to it again -/
theorem pd_text {ts : List (Int × ByteArray)} {vb : Bool} {rd : Int} {rn : ByteArray} (h : dtE ts vb rd rn = 0) :
    pdE (dtS ts vb rd rn) = 0 ∧ (pdD (dtS ts vb rd rn)).1.map natT = ts ∧ voidB (pdD (dtS ts vb rd rn)).2 = vb ∧ (((retT (pdD (dtS ts vb rd rn)).2).1 : Nat) : Int) = rd ∧ (⟨(retT (pdD (dtS ts vb rd rn)).2).2.toArray⟩ : ByteArray) = rn := by
  obtain ⟨hs, hn, hl, ht⟩ := dt_zero h
  rw [ht, textD_writeD]
  have hall : ∀ t ∈ ts, sndT t = true := by
    rw [sndD] at hs
    simp only [Bool.and_eq_true] at hs
    exact List.all_eq_true.1 hs.1
  have hret : vb = false → sndB rd rn.data.toList = true := fun e => by
    rw [sndD, e] at hs
    simp only [Bool.and_eq_true] at hs
    simpa using hs.2
  have hvd : vb = true → rd = 0 ∧ rn.toList = [] := fun e => by
    rw [sndD, e] at hs
    simp only [Bool.and_eq_true] at hs
    have h2 := hs.2
    simp only [if_true, Bool.and_eq_true, decide_eq_true_eq] at h2
    exact ⟨h2.1, List.isEmpty_iff.1 h2.2⟩
  have hnm : namedD (ts.map natOf, retO vb rd rn) := by
    constructor
    · intro t ht
      obtain ⟨u, hu, rfl⟩ := List.mem_map.1 ht
      exact snd_namedT (hall u hu)
    · intro t ht
      cases vb with
      | true => simp [retO] at ht
      | false =>
        simp [retO] at ht
        rw [← ht]
        exact snd_namedT (hret rfl)
  have hrd := readD_write _ hnm
  have hlen : ¬ 2000 < (writeD (ts.map natOf, retO vb rd rn)).length := by rw [← textD_writeD]; omega
  have hmap : (ts.map natOf).map natT = ts := by
    rw [List.map_map]
    exact map_self _ ts (fun t ht => natT_natOf (hall t ht))
  have hlg : largeD (ts.map natOf, retO vb rd rn) = false := by
    simp only [largeD, Bool.or_eq_false_iff, decide_eq_false_iff_not, List.length_map]
    refine ⟨⟨by omega, ?_⟩, ?_⟩
    · cases vb with
      | true => simp [retO, retT]
      | false =>
        obtain ⟨k, hk, hk2⟩ := snd_nat (hret rfl)
        simp [retO, retT, hk]
        omega
    · rw [hmap, List.any_eq_false]
      intro t ht
      obtain ⟨k, hk, hk2⟩ := snd_nat (hall t ht)
      unfold deepI
      rw [hk]
      simp
      omega
  have he : pdE (writeD (ts.map natOf, retO vb rd rn)) = 0 := by rw [pdE, if_neg hlen, hrd]; simp [hlg]
  have hd : pdD (writeD (ts.map natOf, retO vb rd rn)) = (ts.map natOf, retO vb rd rn) := by rw [pdD, if_pos he, hrd]; rfl
  rw [hd]
  refine ⟨he, hmap, ?_, ?_, ?_⟩
  · cases vb <;> rfl
  · cases vb with
    | true => rw [(hvd rfl).1]; rfl
    | false =>
      obtain ⟨k, hk, _⟩ := snd_nat (hret rfl)
      simp [retO, retT, hk]
  · cases vb with
    | true =>
      have h2 := (hvd rfl).2
      apply bytes_ext
      rw [← Lib.toList_data rn, h2]
      rfl
    | false => rfl

/-- ParseDesc of a sound descriptor's text -/
theorem parse_text (ts : List (Int × ByteArray)) (vb : Bool) (rd : Int) (rn : ByteArray) (h : dtE ts vb rd rn = 0) (w : World) :
    Calls Try.prog 14 #[.string ⟨(dtS ts vb rd rn).toArray⟩] w fun e w' => ∃ v, e = .returned (.tuple #[.agg #[v, .bool vb, .int .i64 rd, .string rn], .int .i64 0]) ∧ w'.ownsRow w.heap.size 24 2 v ts.length (flatT ts) ∧ Below w.heap.size w w' := by
  obtain ⟨hs, hn, hl, ht⟩ := dt_zero h
  obtain ⟨p1, p2, p3, p4, p5⟩ := pd_text h
  have hc := parseDesc_any ⟨(dtS ts vb rd rn).toArray⟩ (by rw [mk_size, ht]; unfold maxLen; omega) w
  unfold DOut at hc
  have e1 : (⟨(dtS ts vb rd rn).toArray⟩ : ByteArray).data.toList = dtS ts vb rd rn := by simp
  have e2 : (pdD (dtS ts vb rd rn)).1.length = ts.length := by rw [← p2, List.length_map]; rw [p2]
  rw [e1, p1, p2, p3, p4, p5, e2] at hc
  exact hc

/-- an append of a list that may be nil -/
theorem wpList_append_opt {P : Program} (w : World) {ops : Array Oper} {rest : List Oper} {o : Oper} {a : Act} {Q : Exit → Act → World → Prop} (hgd : o.guard = none) (s x : Operand) (t : TypeId)
    (ho : o.op = .call { callee := .builtin .append, args := #[s, x], argTypes := #[t, t] })
    (base : Nat) (e : TypeId) (i : TypeInfo) (z : Value) (size bytes : Nat) (ht : P.underlying t = some (.slice e)) (hi : P.info? e = some i) (hz : i.zero = some z)
    (hsize : i.size = size) (hby : i.bytes = bytes) (hzs : z.cells.size = size) (hsz : 0 < size)
    (v : Value) (n : Nat) (xs : List Value) (hs : a.eval s = v) (hown : w.ownsRow base e size v n xs)
    (vx : Value) (m : Nat) (news : List Value) (hx : a.eval x = vx) (hl : news.length = m * size)
    (hv : (vx = .slice none 0 0 ∧ m = 0) ∨ ∃ ad c, vx = .slice (some ad) m c ∧ ∀ j u, news[j]? = some u → w.cell? (ad.add j) = some u) (h1 : ∀ u ∈ news, u.oneCell' = true)
    (h63 : n + m ≤ maxLen) (hbytes : (n + m) * bytes ≤ 140737488355328) (hbase : base ≤ w.heap.size)
    (h : ∀ v' w', w'.ownsRow base e size v' (n + m) (xs ++ news) → w.grownBy w' v.ownBlock → wpList P ops Q rest (a.put o.dst v') w') : wpList P ops Q (o :: rest) a w := by
  rcases hv with ⟨rfl, rfl⟩ | ⟨ad, c, rfl, hc⟩
  · have hnil : news = [] := List.length_eq_zero_iff.1 (by simpa using hl)
    subst hnil
    refine wpList_append_own_none hgd s x t ho base e i size ht hi v n xs hs hown hx ?_
    refine h v w (by simpa using hown) ⟨rfl, rfl, rfl, Nat.le_refl _, fun _ _ _ => rfl⟩
  · exact wpList_append_own w hgd s x t ho base e i z size bytes ht hi hz hsize hby hzs hsz v n xs hs hown ad m c news hx hl hc h1 h63 hbytes hbase (fun v' w' h2 h3 _ => h v' w' h2 h3)

theorem flatT_one (ts : List (Int × ByteArray)) : ∀ u ∈ flatT ts, u.oneCell' = true := by
  intro u hu
  obtain ⟨t, _, ht⟩ := List.mem_flatMap.1 hu
  simp [tyC] at ht
  rcases ht with rfl | rfl <;> rfl

/-- the two marks behind the list -/
def marks : List (Int × ByteArray) := [(-71, ⟨#[]⟩), (-72, ⟨#[]⟩)]

/-- the whole list stands in a row of the call's own; what was handed in, and the descriptor's block, are as they were -/
structure Ds (w : World) (D : Obj) (ts : List (Int × ByteArray)) (g cap : Nat) (wr : World) : Prop where
  own : wr.ownsRow (w.heap.size + 1) 24 2 (.slice (some ⟨g, 0, none⟩) (ts.length + 2) cap) (ts.length + 2) (flatT (ts ++ marks))
  bel : Below (w.heap.size + 1) (w.alloc D) wr

section
variable {w wr w1 : World} {D : Obj} {ts : List (Int × ByteArray)} {g cap : Nat}

theorem Ds.size (h : Ds w D ts g cap wr) : w.heap.size + 1 ≤ g ∧ g < wr.heap.size := h.own.lt g rfl
theorem Ds.keep (h : Ds w D ts g cap wr) (hb : Below wr.heap.size wr w1) : Ds w D ts g cap w1 :=
  ⟨own_below h.own hb (Nat.le_refl _), h.bel.trans (hb.mono (by have := h.size; omega))⟩
theorem Ds.old (h : Ds w D ts g cap wr) : Below w.heap.size w wr := ((Below.refl _ _).alloc (Nat.le_refl _) _).trans (h.bel.mono (Nat.le_succ _))
theorem Ds.caps (h : Ds w D ts g cap wr) : ts.length + 2 ≤ cap ∧ cap ≤ maxLen := by
  rcases h.own.2 with ⟨q, _⟩ | ⟨g1, c1, cur, q, _, _, a1, a2, _⟩
  · simp at q
  · simp only [Value.slice.injEq, Option.some.injEq, Addr.mk.injEq, and_true, true_and] at q
    obtain ⟨_, rfl⟩ := q
    exact ⟨a1, a2⟩
theorem Ds.cell (h : Ds w D ts g cap wr) (k : Nat) (t : Int × ByteArray) (hk : (ts ++ marks)[k]? = some t) : wr.cell? ⟨g, k * 2, none⟩ = some (.int .i64 t.1) ∧ wr.cell? ⟨g, k * 2 + 1, none⟩ = some (.string t.2) := by
  have hlt : k < (ts ++ marks).length := (List.getElem?_eq_some_iff.1 hk).1
  simp [marks] at hlt
  obtain ⟨e1, e2⟩ := flatT_at _ k t hk
  exact ⟨by rw [h.own.cellAt (k * 2) (by omega)]; exact e1, by rw [h.own.cellAt (k * 2 + 1) (by omega)]; exact e2⟩
theorem Ds.tys (h : Ds w D ts g cap wr) : IsTys wr (.slice (some ⟨g, 0, none⟩) ts.length cap) ts := by
  obtain ⟨c1, c2⟩ := h.caps
  refine ⟨_, cap, rfl, by omega, c2, fun _ => ⟨g, 0, rfl, h.size.2, fun k t hk => ?_⟩⟩
  have hlt : k < ts.length := (List.getElem?_eq_some_iff.1 hk).1
  rw [Nat.zero_add]
  exact h.cell k t (by rw [List.getElem?_append_left hlt]; exact hk)
theorem Ds.marked (h : Ds w D ts g cap wr) : wr.cell? ⟨g, ts.length * 2, none⟩ = some (.int .i64 (-71)) ∧ wr.cell? ⟨g, (ts.length + 1) * 2, none⟩ = some (.int .i64 (-72)) :=
  ⟨(h.cell ts.length (-71, ⟨#[]⟩) (by simp [marks])).1, (h.cell (ts.length + 1) (-72, ⟨#[]⟩) (by simp [marks])).1⟩
end

end Go.Proofs.Ytaljppicmookeaa
