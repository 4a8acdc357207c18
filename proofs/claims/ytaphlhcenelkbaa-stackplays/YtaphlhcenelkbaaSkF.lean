/- What the calls that turn a stack leave: a local is set, an operand comes or goes, a frame comes or goes. -/
import Derived.Test.YtaphlhcenelkbaaSkE
namespace Go.Proofs.Ytaphlhcenelkbaa
open Go.RowKit Go.Maps

/-- what a call that turns a stack leaves -/
def SkN (k : Bool) (S : Nat → Prop) (W w' : World) (sb : Nat) (fs : List Fr) : Prop := (∃ fv, SkAt k w' (gS S W.heap.size w'.heap.size) sb fv fs) ∧ Tch S W w'
theorem SkN.bel {k : Bool} {S : Nat → Prop} {W wr w' : World} {sb : Nat} {fs : List Fr} (hb : Below W.heap.size W wr) (h : SkN k S wr w' sb fs) : SkN k S W w' sb fs := by
  obtain ⟨⟨fv, h1⟩, h2⟩ := h
  have hz := hb.size
  exact ⟨⟨fv, h1.mono (fun j hj => hj.elim (fun x => h1.sz j (.inl x)) (fun x => x.2)) (fun j _ hj => hj.imp id (fun x => ⟨by omega, x.2⟩))⟩, ((Tch.refl S W).bel hb).trans h2 (fun _ _ x => x)⟩
theorem SkN.same {k : Bool} {S : Nat → Prop} {W w' : World} {sb : Nat} {fv : Value} {fs : List Fr} (h : SkAt k W S sb fv fs) (hb : Below W.heap.size W w') : SkN k S W w' sb fs :=
  ⟨⟨fv, (h.below hb).mono (fun j hj => hj.elim (fun x => (h.below hb).sz j x) (fun x => x.2)) (fun _ _ hj => .inl hj)⟩, (Tch.refl S W).bel hb⟩
theorem SkN.aft {k : Bool} {S : Nat → Prop} {W w1 w' : World} {sb : Nat} {fs : List Fr} (h : SkN k S W w1 sb fs) (hb : Below w1.heap.size w1 w') : SkN k S W w' sb fs := by
  obtain ⟨⟨fv, h1⟩, h2⟩ := h
  have hz := hb.size
  exact ⟨⟨fv, (h1.below hb).mono (fun j hj => hj.elim (fun x => (h1.below hb).sz j (.inl x)) (fun x => x.2)) (fun j _ hj => hj.imp id (fun x => ⟨x.1, by omega⟩))⟩, h2.bel hb⟩
theorem set_fin {k : Bool} {W : World} {S : Nat → Prop} {sb : Nat} {fv : Value} {f : Fr} {r : List Fr} (h : SkAt k W S sb fv (f :: r)) (i : Nat) {b c : Nat} (hform : f.lv = .slice (some ⟨b, 0, none⟩) f.ls.length c) (v : Bool × Int) : SkN k S W ((W.setCell ⟨b, i * 2, none⟩ (.bool v.1)).setCell ⟨b, i * 2 + 1, none⟩ (.int .i64 v.2)) sb ({ f with ls := f.ls.set i v } :: r) := by
  have hm : f ∈ f :: r := List.mem_cons_self
  have own : f.own b := .inr (by rw [hform]; rfl)
  obtain ⟨far1, far2⟩ := h.own_far hm own
  have far : ∀ j, j ≠ b → ((W.setCell ⟨b, i * 2, none⟩ (.bool v.1)).setCell ⟨b, i * 2 + 1, none⟩ (.int .i64 v.2)).heap[j]? = W.heap[j]? := fun j hj => (Below.heap_setCell _ _ _ _ hj).trans (Below.heap_setCell _ _ _ _ hj)
  have bS : S b := h.eS f hm b own
  have hlo := h.lo f hm
  rw [hform] at hlo
  have ap := h.ap
  refine ⟨⟨fv, ?_⟩, ((Tch.refl S W).set (p := ⟨b, i * 2, none⟩) (.inl bS) _).set (p := ⟨b, i * 2 + 1, none⟩) (.inl bS) _⟩
  refine SkAt.turn (t := [f]) (t' := [{ f with ls := f.ls.set i v }]) h (by simp) (fun j hj h1 h2 h3 => far j (fun e => h3 f (by simp) (e ▸ own))) ?_ ?_ ?_ ?_ ?_ ?_ (fun j hj => .inl hj) ?_ ?_
  · rw [far sb (fun e => far1 e.symm), h.hh]
    cases k <;> simp [hdC, wdF]
  · have := own_keep h.ow (fun g hg => far g (fun e => far2 (e ▸ hg)))
    cases k <;> simpa [flatF, frC] using this
  · intro p hp
    simp at hp; subst hp
    exact own_keep (h.vo f hm) (fun g hg => far g (fun e => ap.1 g hg (by rw [hform, e]; rfl)))
  · intro p hp
    simp at hp; subst hp
    simp only [List.length_set]
    rw [flatV_set, hform]
    exact ((hlo.stored (i * 2) (.bool v.1)).1.stored (i * 2 + 1) (.int .i64 v.2)).1
  · intro p hp g hg
    simp at hp; subst hp
    exact .inl ⟨f, by simp, hg⟩
  · exact ⟨ap.1, by simp, trivial⟩
  · intro p hp
    simp at hp; subst hp
    simpa using h.bd f hm
  · have := h.n4
    simpa [wdF] using this
/-- the place of the operands among a frame's cells -/
def ofV (k : Bool) : Nat := match k with
  | true => 0
  | false => 1
theorem flatF_set (k : Bool) (f : Fr) (r : List Fr) (v : Value) (xs : List (Bool × Int)) : flatF k ({ f with vv := v, xs := xs } :: r) = (flatF k (f :: r)).set (r.length * 3 + ofV k) v := by
  have := flatF_len k r
  rw [flatF, flatF, List.set_append, if_neg (by omega), this]
  cases k <;> simp [frC, ofV]
theorem vv_fin {k : Bool} {W w5 : World} {S : Nat → Prop} {sb g c : Nat} {f : Fr} {r : List Fr} (h : SkAt k W S sb (.slice (some ⟨g, 0, none⟩) (r.length + 1) c) (f :: r)) (v' : Value) (xs : List (Bool × Int)) (G5 : W.grownBy w5 f.vv.ownBlock) (O5 : w5.ownsRow 0 32 2 v' xs.length (flatV xs)) (V5 : ∀ j, v'.ownBlock = some j → f.vv.ownBlock = some j ∨ W.heap.size ≤ j) (hl : xs.length ≤ f.rm) : SkN k S W (w5.setCell ⟨g, r.length * 3 + ofV k, none⟩ v') sb ({ f with vv := v', xs := xs } :: r) := by
  have hm : f ∈ f :: r := List.mem_cons_self
  have gl : g < W.heap.size := (h.ow.lt g rfl).2
  have gS' : S g := h.oS g rfl
  have gne : g ≠ sb := fun e => h.fne (e ▸ rfl)
  have z5 := G5.size
  have far : ∀ j, j ≠ g → (w5.setCell ⟨g, r.length * 3 + ofV k, none⟩ v').heap[j]? = w5.heap[j]? := fun j hj => Below.heap_setCell _ _ _ _ hj
  have k5 : ∀ j, j < W.heap.size → f.vv.ownBlock ≠ some j → w5.heap[j]? = W.heap[j]? := fun j hj hn => G5.block j hj (fun e => hn e.symm)
  have vg : f.vv.ownBlock ≠ some g := fun e => (h.own_far hm (.inl e)).2 rfl
  have lg : f.lv.ownBlock ≠ some g := fun e => (h.own_far hm (.inr e)).2 rfl
  have vs : f.vv.ownBlock ≠ some sb := fun e => (h.own_far hm (.inl e)).1 rfl
  have ap := h.ap
  refine ⟨⟨.slice (some ⟨g, 0, none⟩) (r.length + 1) c, ?_⟩, ((Tch.refl S W).grown G5 (fun j hj => .inl (h.eS f hm j (.inl hj)))).set (p := ⟨g, r.length * 3 + ofV k, none⟩) (.inl gS') _⟩
  refine SkAt.turn (t := [f]) (t' := [{ f with vv := v', xs := xs }]) h (by simpa using z5) (fun j hj h1 h2 h3 => (far j (fun e => h2 (e ▸ rfl))).trans (k5 j hj (fun e => h3 f (by simp) (.inl e)))) ?_ ?_ ?_ ?_ ?_ ?_ (fun j hj => .inl hj) ?_ ?_
  · rw [far sb (fun e => gne e.symm), k5 sb h.lt vs, h.hh]
    cases k <;> simp [hdC, wdF]
  · have h1 := own_keep h.ow (w' := w5) (fun j hj => k5 j (h.ow.lt j hj).2 (fun e => vg (by rw [e]; simp [Value.ownBlock] at hj; rw [hj])))
    have h2 := (h1.stored (r.length * 3 + ofV k) v').1
    rw [← flatF_set k f r v' xs] at h2
    exact h2
  · intro p hp
    simp at hp; subst hp
    exact own_keep O5 (fun j hj => far j (fun e => by subst e; rcases V5 j hj with x | x; exact vg x; omega))
  · intro p hp
    simp at hp; subst hp
    exact own_keep (h.lo f hm) (fun j hj => (far j (fun e => lg (e ▸ hj))).trans (k5 j ((h.lo f hm).lt j hj).2 (fun e => ap.1 j e hj)))
  · intro p hp j hj
    simp at hp; subst hp
    rcases hj with hj | hj
    · exact (V5 j hj).elim (fun x => .inl ⟨f, by simp, .inl x⟩) .inr
    · exact .inl ⟨f, by simp, .inr hj⟩
  · refine ⟨fun j hj x => ?_, by simp, trivial⟩
    rcases V5 j hj with y | y
    · exact ap.1 j y x
    · have := ((h.lo f hm).lt j x).2; omega
  · intro p hp
    simp at hp; subst hp
    exact ⟨(h.bd f hm).1, (h.bd f hm).2.1, hl⟩
  · have := h.n4
    simpa [wdF] using this
/-- a new frame: its locals at block b -/
def newF (b l m : Nat) : Fr := ⟨.slice none 0 0, [], m, .slice (some ⟨b, 0, none⟩) l l, List.replicate l (false, 0)⟩
theorem ent_fin {k : Bool} {W wr w5 w' : World} {S : Nat → Prop} {sb : Nat} {fv v' : Value} {fs : List Fr} (h : SkAt k W S sb fv fs) {l m b : Nat} (hl : l ≤ 40) (hm : m ≤ 40) (hw : wdF fs + l + m + 3 ≤ 4000) (hb : Below W.heap.size W wr) (hlb : W.heap.size ≤ b) (hB : wr.heap[b]? = some (.cells (flatV (List.replicate l (false, 0))).toArray 32 (0, 0)))
    (G5 : wr.grownBy w5 fv.ownBlock) (O5 : w5.ownsRow 0 (tyF k) 3 v' (fs.length + 1) (flatF k fs ++ frC k (newF b l m))) (V5 : ∀ j, v'.ownBlock = some j → fv.ownBlock = some j ∨ wr.heap.size ≤ j) (hz : w'.heap.size = w5.heap.size) (far : ∀ j, j ≠ sb → w'.heap[j]? = w5.heap[j]?) (hh : w'.heap[sb]? = some (.cells (hdC k v' (newF b l m :: fs)) (tyS k) (0, 0))) (T : Tch S W w') : SkN k S W w' sb (newF b l m :: fs) := by
  have z0 := hb.size
  have z5 := G5.size
  have bl : b < wr.heap.size := (Array.getElem?_eq_some_iff.1 hB).1
  have sl := h.lt
  have fl : ∀ j, fv.ownBlock = some j → j < W.heap.size := fun j hj => (h.ow.lt j hj).2
  have k5 : ∀ j, j < wr.heap.size → fv.ownBlock ≠ some j → w5.heap[j]? = wr.heap[j]? := fun j hj hn => G5.block j hj (fun e => hn e.symm)
  have b5 : w'.heap[b]? = some (.cells (flatV (List.replicate l (false, 0))).toArray 32 (0, 0)) := (far b (by omega)).trans ((k5 b bl (fun e => by have := fl b e; omega)).trans hB)
  refine ⟨⟨v', ?_⟩, T⟩
  refine SkAt.turn (t := []) (t' := [newF b l m]) h (by omega) (fun j hj h1 h2 _ => (far j h1).trans ((k5 j (by omega) h2).trans (hb.block j hj))) hh ?_ ?_ ?_ ?_ ?_ (fun j hj => (V5 j hj).imp id (fun x => by omega)) ?_ ?_
  · refine own_keep (w := w5) ?_ (fun j hj => far j (fun e => ?_))
    · simpa [flatF] using O5
    · subst e
      rcases V5 j hj with x | x
      · exact h.fne x
      · omega
  · intro p hp
    simp at hp; subst hp
    exact World.ownsRow_nil _ _ _ _
  · intro p hp
    simp at hp; subst hp
    refine ⟨by rw [flatV_len], .inr ⟨b, l, _, by simp [newF], Nat.zero_le _, b5, by simp [newF], by unfold maxLen; omega, by simp [flatV_len], ?_⟩⟩
    simp only [newF, List.length_replicate]
    rw [List.take_of_length_le (by simp [flatV_len])]
  · intro p hp j hj
    simp at hp; subst hp
    rcases hj with hj | hj
    · simp [newF, Value.ownBlock] at hj
    · simp [newF, Value.ownBlock] at hj; subst hj; exact .inr hlb
  · exact ⟨fun j hj => by simp [newF, Value.ownBlock] at hj, by simp, trivial⟩
  · intro p hp
    simp at hp; subst hp
    exact ⟨by simpa [newF] using hl, hm, Nat.zero_le _⟩
  · simp [wdF, newF]; omega
theorem lev_fin {k : Bool} {W w' : World} {S : Nat → Prop} {sb g c : Nat} {f : Fr} {r : List Fr} (h : SkAt k W S sb (.slice (some ⟨g, 0, none⟩) (r.length + 1) c) (f :: r)) (hz : W.heap.size ≤ w'.heap.size) (far : ∀ j, j < W.heap.size → j ≠ sb → j ≠ g → w'.heap[j]? = W.heap[j]?) (hh : w'.heap[sb]? = some (.cells (hdC k (.slice (some ⟨g, 0, none⟩) r.length c) r) (tyS k) (0, 0))) (ow : w'.ownsRow 0 (tyF k) 3 (.slice (some ⟨g, 0, none⟩) r.length c) r.length (flatF k r)) (T : Tch S W w') : SkN k S W w' sb r := by
  refine ⟨⟨.slice (some ⟨g, 0, none⟩) r.length c, ?_⟩, T⟩
  refine SkAt.turn (t := [f]) (t' := []) h hz (fun j hj h1 h2 _ => far j hj h1 (fun e => h2 (e ▸ rfl))) hh ow (by simp) (by simp) (by simp) trivial (fun j hj => .inl hj) (by simp) ?_
  have := h.n4
  simp only [wdF] at this
  simp only [List.nil_append]
  omega
end Go.Proofs.Ytaphlhcenelkbaa
