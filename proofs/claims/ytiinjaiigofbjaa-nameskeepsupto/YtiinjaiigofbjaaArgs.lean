/- How a list of texts among the arguments reads: as the walks take it; and what the bound on bulk gives. -/
import Derived.Test.YtiinjaiigofbjaaRows
import Derived.Test.YtiinjaiigofbjaaJoin
import Derived.SliceStrings
import Derived.ProofKit
import Derived.OpenShut
namespace Go.Proofs.Ytiinjaiigofbjaa
open Go.ChangeShapes Go.WideShapes Go.ChangeAt Go.RowKit

def litT {H : Type} (p : List UInt8) : DataW H := .lit (.string p)

theorem Try.cells9 : Try.prog.cellsOf 9 = 1 := by kernel_rfl

theorem read_strs {H : Type} {enc : TypeId × Value → H} {W : World} {a0 : Option Addr} {len cap : Nat} {d : DataW H} {p : List MemPlace}
    (h : DataW.Trod enc Try.prog W 0 (fun _ => true) true 22 (.slice a0 len cap) d p) :
    (a0 = none ∧ len = 0 ∧ cap = 0 ∧ d = .nil) ∨
    ∃ ad ps spare, a0 = some ad ∧ len = List.length ps ∧ IsStrs W (.slice (some ad) ps.length cap) ps ∧ (ps ≠ [] → ad.block < W.heap.size) ∧
      (∀ j u, (ps.map strV)[j]? = some u → W.cell? (ad.add j) = some u) ∧ d = .slice (ps.map litT) spare := by
  obtain ⟨fuel, hf⟩ := h
  rcases open_strings Try.underlying22 Try.underlying9 Try.cells9 hf with ⟨hcs, hx⟩ | ⟨ad, l, c, ss, hcs, _, hl, hm, hz, hx, hcell, _⟩
  · left
    simp [Value.cells] at hcs
    simp at hx
    exact ⟨hcs.1, hcs.2.1, hcs.2.2, hx.1⟩
  · right
    simp [Value.cells] at hcs
    obtain ⟨rfl, rfl, rfl⟩ := hcs
    simp at hz
    have hpl : ((ss.take len).map (fun s : ByteArray => s.data.toList)).length = len := by simp; omega
    have hc2 : ∀ j u, (((ss.take len).map (fun s : ByteArray => s.data.toList)).map strV)[j]? = some u → W.cell? (ad.add j) = some u := by
      intro j u hj
      rw [List.map_map, List.getElem?_map] at hj
      cases e : (ss.take len)[j]? with
      | none => rw [e] at hj; simp at hj
      | some s =>
        rw [e] at hj
        simp at hj
        subst hj
        rw [List.getElem?_take] at e
        split at e
        · have hjl : j < ss.length := (List.getElem?_eq_some_iff.1 e).1
          rw [hcell j hjl]
          have : ss.getD j ByteArray.empty = s := by rw [List.getD_eq_getElem?_getD, e]; rfl
          rw [this]; rfl
        · simp at e
    have hone : ((ss.take len).map (fun s : ByteArray => s.data.toList)) ≠ [] → ∃ bk o, ad = ⟨bk, o, none⟩ ∧ bk < W.heap.size := by
      intro hne
      obtain ⟨u, hu⟩ : ∃ u, (((ss.take len).map (fun s : ByteArray => s.data.toList)).map strV)[0]? = some u := by
        cases e : (ss.take len).map (fun s : ByteArray => s.data.toList) with
        | nil => exact absurd e hne
        | cons x r => exact ⟨_, rfl⟩
      have h0 := hc2 0 u hu
      obtain ⟨b, off, spot⟩ := ad
      have hspot : spot = none := by simpa [Addr.add] using World.cell?_spot h0
      subst hspot
      have := World.block_lt_of_cell? W _ h0
      exact ⟨b, off, rfl, by simpa [Addr.add] using this⟩
    refine ⟨ad, (ss.take len).map (fun s : ByteArray => s.data.toList), strs (ss.drop len), rfl, hpl.symm, ?_, ?_, hc2, ?_⟩
    · refine ⟨some ad, cap, rfl, by rw [hpl]; exact hl, hm, fun hne => ?_⟩
      obtain ⟨bk, o, rfl, hb⟩ := hone hne
      refine ⟨bk, o, rfl, hb, fun k p hk => ?_⟩
      have := hc2 k (strV p) (by rw [List.getElem?_map, hk]; rfl)
      rw [add_plain] at this
      exact this
    · intro hne
      obtain ⟨bk, o, rfl, hb⟩ := hone hne
      exact hb
    · simp at hx
      rw [hx.1]
      simp [strs, litT, Function.comp_def]

theorem bulk_lits {H : Type} (ps : List (List UInt8)) : ps.length ≤ Rows.uptoBulkAll (ps.map (litT (H := H))) ∧ ∀ p ∈ ps, p.length ≤ Rows.uptoBulkAll (ps.map (litT (H := H))) := by
  induction ps with
  | nil => simp [Rows.uptoBulkAll]
  | cons x r ih =>
    have e : Rows.uptoBulkAll ((x :: r).map (litT (H := H))) = (x.length + 1) + Rows.uptoBulkAll (r.map (litT (H := H))) := by
      simp [Rows.uptoBulkAll, litT, Rows.uptoBulk]
    rw [e]
    refine ⟨by simp; omega, fun p hp => ?_⟩
    rcases List.mem_cons.1 hp with rfl | hp
    · omega
    · have := ih.2 p hp; omega

end Go.Proofs.Ytiinjaiigofbjaa
