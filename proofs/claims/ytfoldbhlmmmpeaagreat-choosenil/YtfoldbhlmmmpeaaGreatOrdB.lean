/- Closures, plainly: what they begin with, in which order they are, and whence each of their numbers comes. -/
import Derived.Test.YtfoldbhlmmmpeaaGreatHrT
import Derived.Test.YtfoldbhlmmmpeaaGreatOrdA
namespace Go.Proofs.YtfoldbhlmmmpeaaGreat
open Go.RowKit

structure WI (ps : List Plc) : Prop where
  wo : WO (ps.map nd)
  pb : ∀ q ∈ ps, PlcB q
  lo : 3 ≤ ps.length
  hi : ps.length ≤ 300

theorem WI.nm {ps : List Plc} (h : WI ps) : ∀ q ∈ ps, q.c.nm.size ≤ maxLen := fun q hq => (h.pb q hq).nm

theorem wi3 : WI P3 := by
  refine ⟨⟨⟨nd ⟨objH, 0, []⟩, rfl, rfl, rfl, by decide⟩, ?_, ?_⟩, ?_, by decide, by decide⟩
  · intro k n h0 hk
    match k, hk with
    | 1, hk => simp [P3] at hk; subst hk; exact ⟨Nat.zero_lt_one, fun p hp => by simp [nd, P3] at hp; subst hp; exact ⟨by decide, fun i hi => by simp at hi⟩, fun _ => rfl⟩
    | 2, hk => simp [P3] at hk; subst hk; exact ⟨by show 0 < 2; decide, fun p hp => by simp [nd, P3] at hp; subst hp; exact ⟨by decide, fun i hi => by simp at hi⟩, fun _ => rfl⟩
    | (k + 3), hk => simp [P3] at hk
  · intro k n hk
    have hm : n ∈ P3.map nd := List.mem_of_getElem? hk
    simp [P3] at hm
    rcases hm with rfl | rfl | rfl <;> exact ⟨by simp [nd], fun i hi => by simp [nd] at hi⟩
  · intro q hq
    simp only [P3, List.mem_cons, List.not_mem_nil, or_false] at hq
    rcases hq with rfl | rfl | rfl
    · exact ⟨by decide, by decide, by decide, by decide, by decide⟩
    · exact ⟨by decide, by decide, by decide, by decide, by decide⟩
    · exact ⟨by decide, by decide, by decide, by decide, by decide⟩



end Go.Proofs.YtfoldbhlmmmpeaaGreat
