/- A list of things to be done, and a list of keys, among the arguments. -/
import Derived.Test.YtdjmjdlolhfejaaKaP
import Derived.Deep.Slices
import Derived.Deep.Strs
import Derived.OpenShut
import Derived.ProofKit
namespace Go.Proofs.Ytdjmjdlolhfejaa
open Go.ChangeShapes Go.WideShapes Go.ChangeAt Go.RowKit Go.Joins Go.Deep

/-- a thing to be done: Kind, K, V -/
abbrev OpI := Int × Int × Int
def OpI.kd (t : OpI) : Int := t.1
def OpI.k (t : OpI) : Int := t.2.1
def OpI.v (t : OpI) : Int := t.2.2
/-- a list of them in memory -/
def IsOps (W : World) (v : Value) (ts : List OpI) : Prop := ∃ ao cap, v = .slice ao ts.length cap ∧ ts.length ≤ maxLen ∧ (ts ≠ [] → ∃ b o, ao = some ⟨b, o, none⟩ ∧ b < W.heap.size ∧ ∀ k t, ts[k]? = some t → W.cell? ⟨b, o + k * 3, none⟩ = some (.int .i64 t.kd) ∧ W.cell? ⟨b, o + k * 3 + 1, none⟩ = some (.int .i64 t.k) ∧ W.cell? ⟨b, o + k * 3 + 2, none⟩ = some (.int .i64 t.v))
def IsInts (W : World) (v : Value) (ts : List Int) : Prop := ∃ ao cap, v = .slice ao ts.length cap ∧ ts.length ≤ maxLen ∧ (ts ≠ [] → ∃ b o, ao = some ⟨b, o, none⟩ ∧ b < W.heap.size ∧ ∀ k t, ts[k]? = some t → W.cell? ⟨b, o + k, none⟩ = some (.int .i64 t))
theorem Try.cellsOp3 : Try.prog.cellsOf 33 = 3 := by kernel_rfl
theorem Try.cellsInt1 : Try.prog.cellsOf 3 = 1 := by kernel_rfl
theorem add_plain (b o k : Nat) : (⟨b, o, none⟩ : Addr).add k = ⟨b, o + k, none⟩ := Addr.add_lit ..
set_option maxRecDepth 100000 in
theorem read_op {H : Type} {enc : TypeId × Value → H} {W : World} {fuel : Nat} {cs : List Value} {x : DataW H × List MemPlace} (hl : cs.length = 3)
    (h : DataW.trod enc Try.prog W 0 (fun _ => true) true fuel 33 cs = some x) : ∃ a b c : Int, cs = [.int .i64 a, .int .i64 b, .int .i64 c] := by
  obtain ⟨y0, y1, y2, n, _, _, h0, h1, h2⟩ := trod_struct3 Try.underlying33 h
  obtain ⟨c0, c1, c2, rfl⟩ : ∃ c0 c1 c2, cs = [c0, c1, c2] := by
    match cs, hl with
    | [c0, c1, c2], _ => exact ⟨c0, c1, c2, rfl⟩
  simp only [List.drop_zero, List.drop_succ_cons, Try.cellsInt1, List.take_succ_cons, List.take_zero] at h0 h1 h2
  obtain ⟨a, e0, _, _⟩ := DataW.trod_int Try.underlying3 h0
  obtain ⟨b, e1, _, _⟩ := DataW.trod_int Try.underlying3 h1
  obtain ⟨c, e2, _, _⟩ := DataW.trod_int Try.underlying3 h2
  simp at e0 e1 e2
  subst e0 e1 e2
  exact ⟨a, b, c, rfl⟩
theorem range_at {α : Type} {len : Nat} {V : Nat → α} {k : Nat} {t : α} (hk : ((List.range len).map V)[k]? = some t) : k < len ∧ t = V k := by
  rw [List.getElem?_map] at hk
  cases e : (List.range len)[k]? with
  | none => rw [e] at hk; simp at hk
  | some y =>
    rw [e] at hk
    obtain ⟨h1, h2⟩ := List.getElem?_eq_some_iff.1 e
    simp at h1 h2 hk
    exact ⟨h1, by rw [← hk, ← h2]⟩
set_option maxRecDepth 100000 in
theorem read_ops {H : Type} {enc : TypeId × Value → H} {W : World} {fuel : Nat} {cs : List Value} {x : DataW H × List MemPlace} (h : DataW.trod enc Try.prog W 0 (fun _ => true) true fuel 22 cs = some x) :
    ∃ (v : Value) (ts : List OpI), cs = [v] ∧ IsOps W v ts := by
  rcases open_slice Try.underlying22 h with ⟨rfl, rfl⟩ | ⟨a, len, cap, m, n, D, Pl, rfl, _, hl, hm, hmm, hx, hel⟩
  · exact ⟨_, [], rfl, ⟨none, 0, rfl, by unfold maxLen; simp, fun h => absurd rfl h⟩⟩
  · simp at hmm
    obtain ⟨V, hV⟩ := choose_lt (α := OpI) (n := len) (p := fun i t => W.cell? ((a.add (i * 3)).add 0) = some (.int .i64 t.kd) ∧ W.cell? ((a.add (i * 3)).add 1) = some (.int .i64 t.k) ∧ W.cell? ((a.add (i * 3)).add 2) = some (.int .i64 t.v)) (fun i hi => by
      obtain ⟨cs', h1, h2⟩ := hel i (by omega)
      rw [Try.cellsOp3] at h1
      obtain ⟨_, hlen, hc⟩ := World.cells?_some h1
      obtain ⟨u, w, z, rfl⟩ := read_op hlen h2
      exact ⟨(u, w, z), by simpa [OpI.kd] using hc 0 (by omega), by simpa [OpI.k] using hc 1 (by omega), by simpa [OpI.v] using hc 2 (by omega)⟩)
    have hspot : 0 < len → a.spot = none := fun h0 => by
      have h1 := (hV 0 h0).1
      obtain ⟨b, o, sp⟩ := a
      have := World.cell?_spot h1
      simpa [Addr.add] using this
    have htl : ((List.range len).map V).length = len := by simp
    refine ⟨_, (List.range len).map V, rfl, some a, cap, by rw [htl], by rw [htl]; omega, fun hne => ?_⟩
    have h0 : 0 < len := by
      cases len with
      | zero => simp at hne
      | succ k => omega
    have hsp := hspot h0
    obtain ⟨b, o, sp⟩ := a
    simp at hsp
    subst hsp
    refine ⟨b, o, rfl, ?_, fun k t hk => ?_⟩
    · have := World.block_lt_of_cell? W _ (hV 0 h0).1
      rw [add_plain, add_plain] at this
      exact this
    · obtain ⟨hk1, rfl⟩ := range_at hk
      have h1 := hV k hk1
      rw [add_plain, add_plain, add_plain, add_plain] at h1
      exact ⟨by simpa using h1.1, h1.2.1, h1.2.2⟩
set_option maxRecDepth 100000 in
theorem read_ints {H : Type} {enc : TypeId × Value → H} {W : World} {fuel : Nat} {cs : List Value} {x : DataW H × List MemPlace} (h : DataW.trod enc Try.prog W 0 (fun _ => true) true fuel 35 cs = some x) :
    ∃ (v : Value) (ts : List Int), cs = [v] ∧ IsInts W v ts := by
  rcases open_slice Try.underlying35 h with ⟨rfl, rfl⟩ | ⟨a, len, cap, m, n, D, Pl, rfl, _, hl, hm, hmm, hx, hel⟩
  · exact ⟨_, [], rfl, ⟨none, 0, rfl, by unfold maxLen; simp, fun h => absurd rfl h⟩⟩
  · simp at hmm
    obtain ⟨V, hV⟩ := choose_lt (α := Int) (n := len) (p := fun i t => W.cell? ((a.add (i * 1)).add 0) = some (.int .i64 t)) (fun i hi => by
      obtain ⟨cs', h1, h2⟩ := hel i (by omega)
      rw [Try.cellsInt1] at h1
      obtain ⟨_, hlen, hc⟩ := World.cells?_some h1
      obtain ⟨u, e0, _, _⟩ := DataW.trod_int Try.underlying3 h2
      subst e0
      exact ⟨u, by simpa using hc 0 (by omega)⟩)
    have hspot : 0 < len → a.spot = none := fun h0 => by
      have h1 := hV 0 h0
      obtain ⟨b, o, sp⟩ := a
      have := World.cell?_spot h1
      simpa [Addr.add] using this
    have htl : ((List.range len).map V).length = len := by simp
    refine ⟨_, (List.range len).map V, rfl, some a, cap, by rw [htl], by rw [htl]; omega, fun hne => ?_⟩
    have h0 : 0 < len := by
      cases len with
      | zero => simp at hne
      | succ k => omega
    have hsp := hspot h0
    obtain ⟨b, o, sp⟩ := a
    simp at hsp
    subst hsp
    refine ⟨b, o, rfl, ?_, fun k t hk => ?_⟩
    · have := World.block_lt_of_cell? W _ (hV 0 h0)
      rw [add_plain, add_plain] at this
      exact this
    · obtain ⟨hk1, rfl⟩ := range_at hk
      have h1 := hV k hk1
      rw [add_plain, add_plain] at h1
      simpa using h1
theorem IsOps.at {W w : World} {v : Value} {ts : List OpI} (h : IsOps W v ts) (hb : Below W.heap.size W w) : IsOps w v ts := by
  obtain ⟨ao, cap, h1, h2, h3⟩ := h
  refine ⟨ao, cap, h1, h2, fun hne => ?_⟩
  obtain ⟨b, o, e, hl, hc⟩ := h3 hne
  refine ⟨b, o, e, Nat.lt_of_lt_of_le hl hb.size, fun k t hk => ?_⟩
  obtain ⟨a1, a2, a3⟩ := hc k t hk
  exact ⟨(hb.cell (p := ⟨b, o + k * 3, none⟩) hl).trans a1, (hb.cell (p := ⟨b, o + k * 3 + 1, none⟩) hl).trans a2, (hb.cell (p := ⟨b, o + k * 3 + 2, none⟩) hl).trans a3⟩
end Go.Proofs.Ytdjmjdlolhfejaa
