/- Methods and classes as rows of cells; the walks of the document's Args (arbiterref02), Words and Find (arbiterref05); what was there before stays. -/
import Derived.Test.YtfbhjfpkhofifaaGreatDoorCodeL
import Derived.Test.YtfbhjfpkhofifaaGreatDoorRefDesc
import Derived.Test.YtfbhjfpkhofifaaGreatDoorFlagsParse
namespace Go.Proofs.YtfbhjfpkhofifaaGreatDoor
open Go.RowKit

/-- a method -/
structure Mth where
  nm : ByteArray
  ds : ByteArray
  fl : Int
  lo : Int
  st : Int
  code : List Ins

/-- a class -/
structure Cls where
  nm : ByteArray
  su : ByteArray
  ifs : List (List UInt8)
  fl : Int
  ld : Int
  ms : List Mth

/-- the six cells of a method at an address -/
def MthAt (w : World) (bk o : Nat) (m : Mth) : Prop :=
  w.cell? ⟨bk, o, none⟩ = some (.string m.nm) ∧ w.cell? ⟨bk, o + 1, none⟩ = some (.string m.ds) ∧ w.cell? ⟨bk, o + 2, none⟩ = some (.int .i64 m.fl) ∧ w.cell? ⟨bk, o + 3, none⟩ = some (.int .i64 m.lo) ∧ w.cell? ⟨bk, o + 4, none⟩ = some (.int .i64 m.st) ∧ ∃ v, w.cell? ⟨bk, o + 5, none⟩ = some v ∧ IsInss w v m.code

theorem MthAt.keep {w w' : World} {bk o : Nat} {m : Mth} (h : MthAt w bk o m) (hb : Below w.heap.size w w') (hlt : bk < w.heap.size) : MthAt w' bk o m := by
  obtain ⟨h0, h1, h2, h3, h4, v, h5, h6⟩ := h
  exact ⟨(hb.cell hlt).trans h0, (hb.cell hlt).trans h1, (hb.cell hlt).trans h2, (hb.cell hlt).trans h3, (hb.cell hlt).trans h4, v, (hb.cell hlt).trans h5, h6.keep hb⟩

/-- the value v is a list of methods l in the world w -/
def IsMths (w : World) (v : Value) (l : List Mth) : Prop :=
  ∃ ao cap, v = .slice ao l.length cap ∧ l.length ≤ cap ∧ cap ≤ maxLen ∧
    (l ≠ [] → ∃ bk o, ao = some ⟨bk, o, none⟩ ∧ bk < w.heap.size ∧ ∀ k m, l[k]? = some m → MthAt w bk (o + k * 6) m)

theorem IsMths.keep {w w' : World} {v : Value} {l : List Mth} (h : IsMths w v l) (hb : Below w.heap.size w w') : IsMths w' v l := by
  obtain ⟨ao, cap, rfl, h1, h2, h3⟩ := h
  refine ⟨ao, cap, rfl, h1, h2, fun hne => ?_⟩
  obtain ⟨bk, o, e, hlt, hc⟩ := h3 hne
  exact ⟨bk, o, e, Nat.lt_of_lt_of_le hlt hb.size, fun k i hk => (hc k i hk).keep hb hlt⟩

def clsV (c : Cls) (vi vm : Value) : Value := .agg #[.string c.nm, .string c.su, vi, .int .i64 c.fl, .int .i64 c.ld, vm]

/-- the place of a method among those from k on -/
def findM (nm ds : ByteArray) : List Mth → Nat → Int
  | [], _ => -1
  | m :: r, k => if (m.nm.toList == nm.toList) && (m.ds.toList == ds.toList) then k else findM nm ds r (k + 1)

theorem findM_at {l : List Mth} {nm ds : ByteArray} (k : Nat) (x : Mth) (h : l[k]? = some x) : findM nm ds (l.drop k) k = if (x.nm.toList == nm.toList) && (x.ds.toList == ds.toList) then (k : Int) else findM nm ds (l.drop (k + 1)) (k + 1) := by
  obtain ⟨h1, h2⟩ := List.getElem?_eq_some_iff.1 h
  rw [List.drop_eq_getElem_cons h1, h2, findM]

set_option maxRecDepth 100000 in
set_option maxHeartbeats 4000000 in
theorem rFind_any (cn cs : ByteArray) (vi : Value) (cf cl : Int) (vm : Value) (ms : List Mth) (nm ds : ByteArray) (W : World) (h : IsMths W vm ms) :
    Calls Tryz.prog 11 #[.agg #[.string cn, .string cs, vi, .int .i64 cf, .int .i64 cl, vm], .string nm, .string ds] W fun e w' => e = .returned (.int .i64 (findM nm ds ms 0)) ∧ Below W.heap.size W w' := by
  obtain ⟨ao, cap, rfl, h1, h2, h3⟩ := h
  obtain ⟨N, hN⟩ : ∃ N, ms.length = N := ⟨_, rfl⟩
  unfold maxLen at h2
  rw [hN] at h1 ⊢
  have HN1 : Hid (ms.length = N) := hN
  have HA : Hid _ := h3
  clear hN h3
  go_enter Tryz.func11, Tryz.ntmps11
  go_wp2
  go_loopw [7] (fun iv wr => ∃ i : Nat, iv = .int .i64 i ∧ i ≤ N ∧ wr.cell? ⟨W.heap.size, 5, none⟩ = some (.slice ao N cap) ∧ Hid (Below W.heap.size W wr) ∧ Hid (findM nm ds (ms.drop i) i = findM nm ds ms 0)) (fun iv _ => N - (intOf iv).toNat)
  case atStart => exact ⟨0, rfl, Nat.zero_le _, by simp [go_sem], (Below.refl _ _).alloc (Nat.le_refl _) _, rfl⟩
  case round =>
    obtain ⟨i, rfl, hi, c5, hb, hs⟩ := hrel
    by_cases hlt : i < N
    · obtain ⟨bk, o, hao, hbk, hc⟩ := HA.out (by intro e; have := HN1.out; rw [e] at this; simp at this; omega)
      obtain ⟨x, hx⟩ : ∃ x, ms[i]? = some x := ⟨_, List.getElem?_eq_getElem (by rw [HN1.out]; exact hlt)⟩
      subst hao
      have hst := findM_at (nm := nm) (ds := ds) i x hx
      rw [hs.out] at hst
      obtain ⟨p0, p1, _⟩ := hc i x hx
      replace p0 := (hb.out.cell hbk).trans p0
      replace p1 := (hb.out.cell hbk).trans p1
      have hbk2 : bk < wr.heap.size := Nat.lt_of_lt_of_le hbk hb.out.size
      obtain ⟨xn, xd, xf, xl, xs, xc⟩ := x
      simp only at p0 p1 hst
      clear hc hs HA hx
      cases q1 : (xn.toList == nm.toList) with
      | false =>
        have HN : Hid (findM nm ds (ms.drop (i + 1)) (i + 1) = findM nm ds ms 0) := by rw [Hid, hst, q1]; rfl
        clear hst
        go_wp2
        go_roundw
        case rel => exact ⟨i + 1, by go_num, by omega, c5, hb, HN⟩
        case measure => simp [intOf]; omega
      | true =>
        cases q2 : (xd.toList == ds.toList) with
        | false =>
          have HN : Hid (findM nm ds (ms.drop (i + 1)) (i + 1) = findM nm ds ms 0) := by rw [Hid, hst, q1, q2]; rfl
          clear hst
          go_wp2
          go_roundw
          case rel => exact ⟨i + 1, by go_num, by omega, c5, hb, HN⟩
          case measure => simp [intOf]; omega
        | true =>
          have HN : Hid (findM nm ds ms 0 = (i : Int)) := by rw [Hid, hst, q1, q2]; rfl
          clear hst
          go_wp2
          go_ret
          exact ⟨ret_int HN.out.symm, hb.out⟩
    · have e : i = N := by omega
      subst e
      have HN : Hid (findM nm ds ms 0 = -1) := by rw [Hid, ← hs.out, List.drop_of_length_le (by rw [HN1.out]; exact Nat.le_refl _)]; rfl
      clear hs HA
      go_wp2
      go_ret
      exact ⟨ret_int HN.out.symm, hb.out⟩
end Go.Proofs.YtfbhjfpkhofifaaGreatDoor
