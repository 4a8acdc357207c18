/- A list of things to be done, and a list of values, among the arguments. -/
import Derived.Test.YtaphlhcenelkbaaSkL
import Derived.Deep.Slices
import Derived.Deep.Strs
import Derived.OpenShut
import Derived.ProofKit
namespace Go.Proofs.Ytaphlhcenelkbaa
open Go.ChangeShapes Go.WideShapes Go.ChangeAt Go.RowKit Go.Joins Go.Deep

/-- a thing to be done: Kind, A, B, V -/
abbrev OpS := Int × Int × Int × Bool × Int
def OpS.kd (t : OpS) : Int := t.1
def OpS.a (t : OpS) : Int := t.2.1
def OpS.b (t : OpS) : Int := t.2.2.1
def OpS.v (t : OpS) : Bool × Int := t.2.2.2
/-- a list of them in memory -/
def IsOpsS (W : World) (v : Value) (ts : List OpS) : Prop := ∃ ao cap, v = .slice ao ts.length cap ∧ ts.length ≤ maxLen ∧ (ts ≠ [] → ∃ b o, ao = some ⟨b, o, none⟩ ∧ b < W.heap.size ∧ ∀ k t, ts[k]? = some t → W.cell? ⟨b, o + k * 5, none⟩ = some (.int .i64 t.kd) ∧ W.cell? ⟨b, o + k * 5 + 1, none⟩ = some (.int .i64 t.a) ∧ W.cell? ⟨b, o + k * 5 + 2, none⟩ = some (.int .i64 t.b) ∧ W.cell? ⟨b, o + k * 5 + 3, none⟩ = some (.bool t.v.1) ∧ W.cell? ⟨b, o + k * 5 + 4, none⟩ = some (.int .i64 t.v.2))
def IsVals (W : World) (v : Value) (ts : List (Bool × Int)) : Prop := ∃ ao cap, v = .slice ao ts.length cap ∧ ts.length ≤ maxLen ∧ (ts ≠ [] → ∃ b o, ao = some ⟨b, o, none⟩ ∧ b < W.heap.size ∧ ∀ k t, ts[k]? = some t → W.cell? ⟨b, o + k * 2, none⟩ = some (.bool t.1) ∧ W.cell? ⟨b, o + k * 2 + 1, none⟩ = some (.int .i64 t.2))
theorem Try.cellsOp5 : Try.prog.cellsOf 34 = 5 := by kernel_rfl
theorem Try.cellsInt1 : Try.prog.cellsOf 3 = 1 := by kernel_rfl
theorem Try.cellsBool1 : Try.prog.cellsOf 4 = 1 := by kernel_rfl
theorem Try.cellsVal2 : Try.prog.cellsOf 32 = 2 := by kernel_rfl
theorem add_plain (b o k : Nat) : (⟨b, o, none⟩ : Addr).add k = ⟨b, o + k, none⟩ := Addr.add_lit ..
set_option maxRecDepth 100000 in
theorem read_val {H : Type} {enc : TypeId × Value → H} {W : World} {fuel : Nat} {cs : List Value} {x : DataW H × List MemPlace} (hl : cs.length = 2)
    (h : DataW.trod enc Try.prog W 0 (fun _ => true) true fuel 32 cs = some x) : ∃ (r : Bool) (n : Int), cs = [.bool r, .int .i64 n] := by
  obtain ⟨y0, y1, n, _, _, h0, h1⟩ := trod_struct2 Try.underlying32 h
  obtain ⟨c0, c1, rfl⟩ : ∃ c0 c1, cs = [c0, c1] := by
    match cs, hl with
    | [c0, c1], _ => exact ⟨c0, c1, rfl⟩
  simp only [List.drop_zero, List.drop_succ_cons, Try.cellsInt1, Try.cellsBool1, List.take_succ_cons, List.take_zero] at h0 h1
  obtain ⟨a, e0, _, _⟩ := DataW.trod_bool Try.underlying4 h0
  obtain ⟨b, e1, _, _⟩ := DataW.trod_int Try.underlying3 h1
  simp at e0 e1
  subst e0 e1
  exact ⟨a, b, rfl⟩
set_option maxRecDepth 100000 in
theorem read_opS {H : Type} {enc : TypeId × Value → H} {W : World} {fuel : Nat} {cs : List Value} {x : DataW H × List MemPlace} (hl : cs.length = 5)
    (h : DataW.trod enc Try.prog W 0 (fun _ => true) true fuel 34 cs = some x) : ∃ (a b c : Int) (r : Bool) (n : Int), cs = [.int .i64 a, .int .i64 b, .int .i64 c, .bool r, .int .i64 n] := by
  obtain ⟨y0, y1, y2, y3, n, _, _, h0, h1, h2, h3⟩ := trod_struct4 Try.underlying34 h
  obtain ⟨c0, c1, c2, c3, c4, rfl⟩ : ∃ c0 c1 c2 c3 c4, cs = [c0, c1, c2, c3, c4] := by
    match cs, hl with
    | [c0, c1, c2, c3, c4], _ => exact ⟨c0, c1, c2, c3, c4, rfl⟩
  simp only [List.drop_zero, List.drop_succ_cons, Try.cellsInt1, Try.cellsVal2, List.take_succ_cons, List.take_zero] at h0 h1 h2 h3
  obtain ⟨a, e0, _, _⟩ := DataW.trod_int Try.underlying3 h0
  obtain ⟨b, e1, _, _⟩ := DataW.trod_int Try.underlying3 h1
  obtain ⟨c, e2, _, _⟩ := DataW.trod_int Try.underlying3 h2
  obtain ⟨r, z, e3⟩ := read_val (by simp) h3
  simp at e0 e1 e2 e3
  obtain ⟨rfl, rfl⟩ := e3
  subst e0 e1 e2
  exact ⟨a, b, c, r, z, rfl⟩
theorem range_at {α : Type} {len : Nat} {V : Nat → α} {k : Nat} {t : α} (hk : ((List.range len).map V)[k]? = some t) : k < len ∧ t = V k := by
  rw [List.getElem?_map] at hk
  cases e : (List.range len)[k]? with
  | none => rw [e] at hk; simp at hk
  | some y =>
    rw [e] at hk
    obtain ⟨h1, h2⟩ := List.getElem?_eq_some_iff.1 e
    simp at h1 h2 hk
    exact ⟨h1, by rw [← hk, ← h2]⟩
set_option maxRecDepth 100000 in
theorem read_opss {H : Type} {enc : TypeId × Value → H} {W : World} {fuel : Nat} {cs : List Value} {x : DataW H × List MemPlace} (h : DataW.trod enc Try.prog W 0 (fun _ => true) true fuel 22 cs = some x) :
    ∃ (v : Value) (ts : List OpS), cs = [v] ∧ IsOpsS W v ts := by
  rcases open_slice Try.underlying22 h with ⟨rfl, rfl⟩ | ⟨a, len, cap, m, n, D, Pl, rfl, _, hl, hm, hmm, hx, hel⟩
  · exact ⟨_, [], rfl, ⟨none, 0, rfl, by unfold maxLen; simp, fun h => absurd rfl h⟩⟩
  · simp at hmm
    obtain ⟨V, hV⟩ := choose_lt (α := OpS) (n := len) (p := fun i t => W.cell? ((a.add (i * 5)).add 0) = some (.int .i64 t.kd) ∧ W.cell? ((a.add (i * 5)).add 1) = some (.int .i64 t.a) ∧ W.cell? ((a.add (i * 5)).add 2) = some (.int .i64 t.b) ∧ W.cell? ((a.add (i * 5)).add 3) = some (.bool t.v.1) ∧ W.cell? ((a.add (i * 5)).add 4) = some (.int .i64 t.v.2)) (fun i hi => by
      obtain ⟨cs', h1, h2⟩ := hel i (by omega)
      rw [Try.cellsOp5] at h1
      obtain ⟨_, hlen, hc⟩ := World.cells?_some h1
      obtain ⟨u, w, z, r, n, rfl⟩ := read_opS hlen h2
      exact ⟨(u, w, z, r, n), by simpa [OpS.kd] using hc 0 (by omega), by simpa [OpS.a] using hc 1 (by omega), by simpa [OpS.b] using hc 2 (by omega), by simpa [OpS.v] using hc 3 (by omega), by simpa [OpS.v] using hc 4 (by omega)⟩)
    have hspot : 0 < len → a.spot = none := fun h0 => by
      have h1 := (hV 0 h0).1
      obtain ⟨b, o, sp⟩ := a
      have := World.cell?_spot h1
      simpa [Addr.add] using this
    have htl : ((List.range len).map V).length = len := by simp
    refine ⟨_, (List.range len).map V, rfl, some a, cap, by rw [htl], by rw [htl]; omega, fun hne => ?_⟩
    have h0 : 0 < len := by
      cases len with
      | zero => simp at hne
      | succ k => omega
    have hsp := hspot h0
    obtain ⟨b, o, sp⟩ := a
    simp at hsp
    subst hsp
    refine ⟨b, o, rfl, ?_, fun k t hk => ?_⟩
    · have := World.block_lt_of_cell? W _ (hV 0 h0).1
      rw [add_plain, add_plain] at this
      exact this
    · obtain ⟨hk1, rfl⟩ := range_at hk
      have h1 := hV k hk1
      rw [add_plain, add_plain, add_plain, add_plain, add_plain, add_plain] at h1
      exact ⟨by simpa using h1.1, h1.2.1, h1.2.2.1, h1.2.2.2.1, h1.2.2.2.2⟩
set_option maxRecDepth 100000 in
theorem read_vals {H : Type} {enc : TypeId × Value → H} {W : World} {fuel : Nat} {cs : List Value} {x : DataW H × List MemPlace} (h : DataW.trod enc Try.prog W 0 (fun _ => true) true fuel 38 cs = some x) :
    ∃ (v : Value) (ts : List (Bool × Int)), cs = [v] ∧ IsVals W v ts := by
  rcases open_slice Try.underlying38 h with ⟨rfl, rfl⟩ | ⟨a, len, cap, m, n, D, Pl, rfl, _, hl, hm, hmm, hx, hel⟩
  · exact ⟨_, [], rfl, ⟨none, 0, rfl, by unfold maxLen; simp, fun h => absurd rfl h⟩⟩
  · simp at hmm
    obtain ⟨V, hV⟩ := choose_lt (α := Bool × Int) (n := len) (p := fun i t => W.cell? ((a.add (i * 2)).add 0) = some (.bool t.1) ∧ W.cell? ((a.add (i * 2)).add 1) = some (.int .i64 t.2)) (fun i hi => by
      obtain ⟨cs', h1, h2⟩ := hel i (by omega)
      rw [Try.cellsVal2] at h1
      obtain ⟨_, hlen, hc⟩ := World.cells?_some h1
      obtain ⟨r, n, rfl⟩ := read_val hlen h2
      exact ⟨(r, n), by simpa using hc 0 (by omega), by simpa using hc 1 (by omega)⟩)
    have hspot : 0 < len → a.spot = none := fun h0 => by
      have h1 := (hV 0 h0).1
      obtain ⟨b, o, sp⟩ := a
      have := World.cell?_spot h1
      simpa [Addr.add] using this
    have htl : ((List.range len).map V).length = len := by simp
    refine ⟨_, (List.range len).map V, rfl, some a, cap, by rw [htl], by rw [htl]; omega, fun hne => ?_⟩
    have h0 : 0 < len := by
      cases len with
      | zero => simp at hne
      | succ k => omega
    have hsp := hspot h0
    obtain ⟨b, o, sp⟩ := a
    simp at hsp
    subst hsp
    refine ⟨b, o, rfl, ?_, fun k t hk => ?_⟩
    · have := World.block_lt_of_cell? W _ (hV 0 h0).1
      rw [add_plain, add_plain] at this
      exact this
    · obtain ⟨hk1, rfl⟩ := range_at hk
      have h1 := hV k hk1
      rw [add_plain, add_plain, add_plain] at h1
      exact ⟨by simpa using h1.1, h1.2⟩
end Go.Proofs.Ytaphlhcenelkbaa
