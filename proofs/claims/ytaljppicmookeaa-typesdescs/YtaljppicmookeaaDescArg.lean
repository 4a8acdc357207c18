/- How a descriptor among the arguments reads: as the walk takes it; and what the reach gives of its length. -/
import Derived.Test.YtaljppicmookeaaDescsWalk
import Derived.Deep.Slices
import Derived.Deep.Strs
import Derived.SizedLaws
namespace Go.Proofs.Ytaljppicmookeaa
open Go.ChangeShapes Go.WideShapes Go.ChangeAt Go.RowKit Go.Joins Go.Deep

theorem Try.cells31 : Try.prog.cellsOf 31 = 4 := by kernel_rfl
theorem Try.cells29 : Try.prog.cellsOf 29 = 1 := by kernel_rfl
theorem Try.cells24 : Try.prog.cellsOf 24 = 2 := by kernel_rfl
theorem Try.cells9' : Try.prog.cellsOf 9 = 1 := by kernel_rfl
theorem Try.cells4 : Try.prog.cellsOf 4 = 1 := by kernel_rfl
theorem Try.cells3 : Try.prog.cellsOf 3 = 1 := by kernel_rfl
theorem Try.bytes24 : Try.prog.bytesOf 24 = 24 := by kernel_rfl

theorem read_type {H : Type} {enc : TypeId × Value → H} {W : World} {fuel : Nat} {cs : List Value} {x : DataW H × List MemPlace} (hl : cs.length = 2)
    (h : DataW.trod enc Try.prog W 0 (fun _ => true) true fuel 24 cs = some x) : ∃ (d : Int) (n : ByteArray), cs = [.int .i64 d, .string n] ∧ n.size ≤ maxLen := by
  obtain ⟨y0, y1, n, _, _, h0, h1⟩ := trod_struct2 Try.underlying24 h
  obtain ⟨c0, c1, rfl⟩ : ∃ c0 c1, cs = [c0, c1] := by
    match cs, hl with
    | [c0, c1], _ => exact ⟨c0, c1, rfl⟩
  simp only [List.drop_zero, List.drop_succ_cons, Try.cells3, Try.cells9', List.take_succ_cons, List.take_zero] at h0 h1
  obtain ⟨a, e0, _, _⟩ := DataW.trod_int Try.underlying3 h0
  obtain ⟨b, e1, _, wb⟩ := DataW.trod_string Try.underlying9 h1
  simp at e0 e1
  subst e0 e1
  exact ⟨a, b, rfl, wb⟩

theorem add_add (a : Addr) (h : a.spot = none) (i j : Nat) : (a.add i).add j = a.add (i + j) := by
  obtain ⟨b, o, sp⟩ := a
  simp at h
  subst h
  rw [add_plain, add_plain, add_plain, Nat.add_assoc]

/-- a list of types among the arguments -/
theorem read_tys {H : Type} {enc : TypeId × Value → H} {W : World} {fuel : Nat} {cs : List Value} {x : DataW H × List MemPlace} (h : DataW.trod enc Try.prog W 0 (fun _ => true) true fuel 29 cs = some x) :
    ∃ (v : Value) (ts : List (Int × ByteArray)), cs = [v] ∧ IsTys W v ts ∧ ((v = .slice none 0 0 ∧ ts.length = 0) ∨ ∃ ad c, v = .slice (some ad) ts.length c ∧ ∀ j u, (flatT ts)[j]? = some u → W.cell? (ad.add j) = some u) ∧
      (∀ t ∈ ts, t.2.size ≤ maxLen) ∧ (ts.length = 0 ∨ ∃ elems spare, x.1 = .slice elems spare ∧ elems.length = ts.length) := by
  rcases open_slice Try.underlying29 h with ⟨rfl, rfl⟩ | ⟨a, len, cap, m, n, D, Pl, rfl, _, hl, hm, hmm, hx, hel⟩
  · exact ⟨_, [], rfl, ⟨none, 0, rfl, Nat.le_refl _, by unfold maxLen; omega, fun h => absurd rfl h⟩, .inl ⟨rfl, rfl⟩, fun t ht => by simp at ht, .inl rfl⟩
  · simp at hmm
    obtain ⟨V, hV⟩ := choose_lt (α := Int × ByteArray) (n := len) (p := fun i t => (W.cell? ((a.add (i * 2)).add 0) = some (.int .i64 t.1) ∧ W.cell? ((a.add (i * 2)).add 1) = some (.string t.2)) ∧ t.2.size ≤ maxLen) (fun i hi => by
      obtain ⟨cs', h1, h2⟩ := hel i (by omega)
      rw [Try.cells24] at h1
      obtain ⟨_, hlen, hc⟩ := World.cells?_some h1
      obtain ⟨d, nm, rfl, hsz⟩ := read_type hlen h2
      exact ⟨(d, nm), ⟨by simpa using hc 0 (by omega), by simpa using hc 1 (by omega)⟩, hsz⟩)
    have hspot : 0 < len → a.spot = none := fun h0 => by
      have := World.cell?_spot (hV 0 h0).1.1
      obtain ⟨b, o, sp⟩ := a
      simpa [Addr.add] using this
    have htl : ((List.range len).map V).length = len := by simp
    have hat : ∀ k t, ((List.range len).map V)[k]? = some t → k < len ∧ t = V k := fun k t hk => by
      rw [List.getElem?_map] at hk
      cases e : (List.range len)[k]? with
      | none => rw [e] at hk; simp at hk
      | some y =>
        rw [e] at hk
        obtain ⟨h1, h2⟩ := List.getElem?_eq_some_iff.1 e
        simp at h1 h2 hk
        exact ⟨h1, by rw [← hk, ← h2]⟩
    refine ⟨_, (List.range len).map V, rfl, ?_, .inr ⟨a, cap, by rw [htl], ?_⟩, ?_, .inr ⟨_, _, by rw [hx], by simp⟩⟩
    · refine ⟨some a, cap, by rw [htl], by rw [htl]; exact hl, hm, fun hne => ?_⟩
      have h0 : 0 < len := by
        cases len with
        | zero => simp at hne
        | succ k => omega
      have hsp := hspot h0
      obtain ⟨b, o, sp⟩ := a
      simp at hsp
      subst hsp
      refine ⟨b, o, rfl, ?_, fun k t hk => ?_⟩
      · have := World.block_lt_of_cell? W _ (hV 0 h0).1.1
        rw [add_plain, add_plain] at this
        exact this
      · obtain ⟨hk1, rfl⟩ := hat k t hk
        have h1 := (hV k hk1).1
        rw [add_plain, add_plain, add_plain] at h1
        exact ⟨by simpa using h1.1, h1.2⟩
    · intro j u hj
      have hjl : j < len * 2 := by
        have := (List.getElem?_eq_some_iff.1 hj).1
        rw [flatT_length, htl] at this
        exact this
      have hk : j / 2 < len := by omega
      have hsp := hspot (by omega)
      have hkk : ((List.range len).map V)[j / 2]? = some (V (j / 2)) := by simp [hk]
      obtain ⟨e1, e2⟩ := flatT_at _ (j / 2) _ hkk
      have h1 := (hV (j / 2) hk).1
      rw [add_add a hsp, add_add a hsp] at h1
      rcases Nat.mod_two_eq_zero_or_one j with h2 | h2
      · have hj2 : j / 2 * 2 = j := by omega
        rw [hj2] at e1 h1
        rw [e1] at hj
        rw [← hj]
        simpa using h1.1
      · have hj2 : j / 2 * 2 + 1 = j := by omega
        rw [hj2] at e2 h1
        rw [e2] at hj
        rw [← hj]
        exact h1.2
    · intro t ht
      obtain ⟨k, hk⟩ := List.mem_iff_getElem?.1 ht
      obtain ⟨hk1, rfl⟩ := hat k t hk
      exact (hV k hk1).2

/-- a descriptor among the arguments -/
theorem read_desc {H : Type} {enc : TypeId × Value → H} {W : World} {base : Nat} {v0 : Value} {d : DataW H} {p : List MemPlace} (hv : Value.okWide Try.prog W .any base 31 v0) (h : DataW.Trod enc Try.prog W 0 (fun _ => true) true 31 v0 d p) :
    ∃ (v : Value) (ts : List (Int × ByteArray)) (vb : Bool) (rd : Int) (rn : ByteArray), v0 = .agg #[v, .bool vb, .int .i64 rd, .string rn] ∧ IsTys W v ts ∧ ((v = .slice none 0 0 ∧ ts.length = 0) ∨ ∃ ad c, v = .slice (some ad) ts.length c ∧ ∀ j u, (flatT ts)[j]? = some u → W.cell? (ad.add j) = some u) ∧
      (∀ t ∈ ts, t.2.size ≤ maxLen) ∧ rn.size ≤ maxLen ∧ (ts.length = 0 ∨ ∃ elems spare y1 y2, d = .agg [.slice elems spare, y1, y2] ∧ elems.length = ts.length) := by
  obtain ⟨cs, rfl, hsz⟩ := okWide_struct Try.underlying31 hv
  obtain ⟨c0, c1, c2, c3, rfl⟩ := array4 (hsz.trans Try.cells31)
  obtain ⟨fuel, hf⟩ := h
  obtain ⟨y0, y1, y2, n, hx, _, h0, h1, h2⟩ := trod_struct3 Try.underlying31 hf
  simp only [Value.cells, List.drop_zero, List.drop_succ_cons, Try.cells29, Try.cells4, Try.cells24, List.take_succ_cons, List.take_zero] at h0 h1 h2
  obtain ⟨v, ts, e0, k1, k2, k3, k4⟩ := read_tys h0
  obtain ⟨vb, e1, _⟩ := DataW.trod_bool Try.underlying4 h1
  obtain ⟨rd, rn, e2, k5⟩ := read_type (by rfl) h2
  simp at e0 e1 e2
  obtain ⟨rfl, rfl⟩ := e2
  subst e0 e1
  refine ⟨c0, ts, vb, rd, rn, rfl, k1, k2, k3, k5, ?_⟩
  rcases k4 with k4 | ⟨el, sp, k4, k6⟩
  · exact .inl k4
  · refine .inr ⟨el, sp, y1.1, y2.1, ?_, k6⟩
    simp only [Prod.mk.injEq] at hx
    rw [hx.1, k4]

/-- what the reach says of its length -/
theorem desc_reach {H : Type} {d : DataW H} {gs : List (DataW H)} {ts : List TypeId} {n : Nat} (h : (DataW.weightsEach Try.prog (31 :: ts) (d :: gs)).all (· ≤ reachBytes) = true) (hd : n = 0 ∨ ∃ elems spare y1 y2, d = .agg [.slice elems spare, y1, y2] ∧ elems.length = n) : n * 24 ≤ 140737488351232 := by
  rcases hd with rfl | ⟨el, sp, y1, y2, rfl, rfl⟩
  · omega
  · have hm : (el.length + sp.length) * 24 ∈ DataW.weightsEach Try.prog (31 :: ts) (.agg [.slice el sp, y1, y2] :: gs) := by
      simp [DataW.weightsEach, DataW.weights, Try.underlying31, Try.underlying29, Try.bytes24]
    have h1 : (el.length + sp.length) * 24 ≤ reachBytes := of_decide_eq_true (List.all_eq_true.1 h _ hm)
    have h2 : reachBytes = 140737488351232 := rfl
    omega

end Go.Proofs.Ytaljppicmookeaa
