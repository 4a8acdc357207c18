/- The walk of names.Join: it answers the joined parts or ErrForm, as the plain functions say; what was there before stays. -/
import Derived.Test.YtijlipllahfakaaDoorValid
import Derived.Test.YtijlipllahfakaaDoorFacts
import Derived.Test.YtijlipllahfakaaDoorShelf
import Derived.Lib.Join
namespace Go.Proofs.YtijlipllahfakaaDoor
open Go.RowKit

def joinOk (ps : List (List UInt8)) : Bool := !ps.isEmpty && ps.all partL && decide (ps.length - 1 + Lib.lens ps ≤ 60)
def joinS (ps : List (List UInt8)) : List UInt8 := if joinOk ps then Lib.join ps [47] else []
def joinE (ps : List (List UInt8)) : Int := if joinOk ps then 0 else 1

/-- the value v is a list of texts ps in the world w -/
def IsStrs (w : World) (v : Value) (ps : List (List UInt8)) : Prop :=
  ∃ ao cap, v = .slice ao ps.length cap ∧ ps.length ≤ cap ∧ cap ≤ maxLen ∧
    (ps ≠ [] → ∃ bk o, ao = some ⟨bk, o, none⟩ ∧ bk < w.heap.size ∧ ∀ k p, ps[k]? = some p → w.cell? ⟨bk, o + k, none⟩ = some (.string ⟨p.toArray⟩))

theorem IsStrs.keep {w w' : World} {v : Value} {ps : List (List UInt8)} (h : IsStrs w v ps) (hb : Below w.heap.size w w') : IsStrs w' v ps := by
  obtain ⟨ao, cap, rfl, h1, h2, h3⟩ := h
  refine ⟨ao, cap, rfl, h1, h2, fun hne => ?_⟩
  obtain ⟨bk, o, e, hlt, hc⟩ := h3 hne
  exact ⟨bk, o, e, Nat.lt_of_lt_of_le hlt hb.size, fun k p hk => (hb.cell hlt).trans (hc k p hk)⟩

theorem own_strs {w : World} {base : Nat} {v : Value} {ps : List (List UInt8)} (h : w.ownsRow base 9 1 v ps.length (ps.map strV)) : IsStrs w v ps := by
  by_cases hne : ps = []
  · subst hne
    rcases h.2 with ⟨rfl, _⟩ | ⟨g, cap, cur, rfl, hb, hg, hn, hm, _, _⟩
    · exact ⟨none, 0, rfl, Nat.le_refl _, by unfold maxLen; omega, fun h => absurd rfl h⟩
    · exact ⟨_, cap, rfl, hn, hm, fun h => absurd rfl h⟩
  · obtain ⟨g, cap, rfl, _, hgl, hcap, hcm, hcell⟩ := own_shape h hne
    exact ⟨_, cap, rfl, hcap, hcm, fun _ => ⟨g, 0, rfl, hgl, fun k p hk => by rw [Nat.zero_add]; exact hcell k p hk⟩⟩

theorem lens_take_le (ps : List (List UInt8)) (k : Nat) : Lib.lens (ps.take k) ≤ Lib.lens ps := by
  have h : Lib.lens (ps.take k ++ ps.drop k) = Lib.lens (ps.take k) + Lib.lens (ps.drop k) := by unfold Lib.lens; rw [List.map_append, List.sum_append]
  rw [List.take_append_drop] at h
  omega

theorem joinOk_stop (ps : List (List UInt8)) (k : Nat) (p : List UInt8) (h : ps[k]? = some p) (hp : partL p = false ∨ 60 < ps.length - 1 + Lib.lens (ps.take (k + 1))) : joinOk ps = false := by
  unfold joinOk
  rcases hp with hp | hp
  · rw [all_stop ps k p h hp]; simp
  · have := lens_take_le ps (k + 1)
    have : decide (ps.length - 1 + Lib.lens ps ≤ 60) = false := by simp; omega
    rw [this]; simp

theorem join_len (ps : List (List UInt8)) (h : ps ≠ []) : (Lib.join ps [47]).length = ps.length - 1 + Lib.lens ps := by
  cases ps with
  | nil => contradiction
  | cons x r => rw [Lib.join_length]; simp

end Go.Proofs.YtijlipllahfakaaDoor
