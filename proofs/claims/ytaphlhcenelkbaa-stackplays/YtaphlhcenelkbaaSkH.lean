/- Package stack: Put, take, Take. -/
import Derived.Test.YtaphlhcenelkbaaSkG
namespace Go.Proofs.Ytaphlhcenelkbaa
open Go.RowKit Go.Maps

/-- a frame without its places in memory -/
structure PF where
  xs : List (Bool × Int)
  rm : Nat
  ls : List (Bool × Int)
def Fr.p (f : Fr) : PF := ⟨f.xs, f.rm, f.ls⟩
/-- what a call leaves, by the frames without their places -/
def SkP (k : Bool) (S : Nat → Prop) (W w' : World) (sb : Nat) (ps : List PF) : Prop := ∃ fs, SkN k S W w' sb fs ∧ fs.map Fr.p = ps
theorem callPut (vs : Array Value) (w : World) : (callFunc 33 vs).run Try.prog w = .ok (.enter 33 vs) w := by simp [go_sem]
set_option maxRecDepth 100000 in
theorem putK_err {W : World} {p : Value} {v : Bool × Int} {E : Int} (hE : ¬ E = 0) (HT : Hid (∀ w, Below W.heap.size W w → Calls Try.prog 30 #[p] w fun e w' => e = .returned (.tuple #[.pointer none, .int .i64 E]) ∧ w' = w)) : Calls Try.prog 17 #[p, vlV v] W fun e w' => e = .returned (.int .i64 E) ∧ Below W.heap.size W w' := by
  obtain ⟨v1, v2⟩ := v
  unfold vlV
  go_enter Try.func17, Try.ntmps17
  go_wp2_with (go_at_call 30; refine (HT.out _ (by repeat (first | exact Below.refl _ _ | refine Below.setCell ?_ (by simp; try omega) _ | refine Below.alloc ?_ (by simp; try omega) _ | refine Below.drew ?_))).mono ?_; rintro e w1 ⟨rfl, rfl⟩)
  go_ret
  exact ⟨rfl, (by repeat (first | exact Below.refl _ _ | refine Below.setCell ?_ (by simp; try omega) _ | refine Below.alloc ?_ (by simp; try omega) _ | refine Below.drew ?_))⟩
theorem putK_nil (v : Bool × Int) (W : World) : Calls Try.prog 17 #[.pointer none, vlV v] W fun e w' => e = .returned (.int .i64 2) ∧ Below W.heap.size W w' := putK_err (by decide) (fun w _ => top_nil w)
set_option maxRecDepth 100000 in
set_option maxHeartbeats 1000000 in
theorem putK_any {W : World} {sb g q : Nat} {v : Bool × Int} {E : Int} {R : World → World → Prop} (HT : Hid (∀ w, Below W.heap.size W w → Calls Try.prog 30 #[.pointer (some ⟨sb, 0, none⟩)] w fun e w' => e = .returned (.tuple #[.pointer (some ⟨g, q, none⟩), .int .i64 0]) ∧ w' = w.drew)) (HP : Hid (∀ w, Below W.heap.size W w → Calls Try.prog 33 #[.pointer (some ⟨g, q, none⟩), vlV v] w fun e w' => e = .returned (.int .i64 E) ∧ R w w')) : Calls Try.prog 17 #[.pointer (some ⟨sb, 0, none⟩), vlV v] W fun e w' => e = .returned (.int .i64 E) ∧ ∃ wr, Below W.heap.size W wr ∧ R wr w' := by
  obtain ⟨v1, v2⟩ := v
  unfold vlV at *
  go_enter Try.func17, Try.ntmps17
  go_upto_region 4 with (go_at_call 30; refine (HT.out _ (by repeat (first | exact Below.refl _ _ | refine Below.setCell ?_ (by simp; try omega) _ | refine Below.alloc ?_ (by simp; try omega) _ | refine Below.drew ?_))).mono ?_; rintro e w1 ⟨rfl, rfl⟩)
  go_region_law (refine step_call2 rfl 33 callPut (.tmp 17) (.tmp 18) 65 32 rfl (.pointer (some ⟨g, q, none⟩)) (.agg #[.bool v1, .int .i64 v2]) (by first | (simp [Act.eval]; done) | (simp [Act.eval, Act.put]; done)) (by first | (simp [Act.eval]; done) | (simp [Act.eval, Act.put]; done)) (HP.out _ (by repeat (first | exact Below.refl _ _ | refine Below.setCell ?_ (by simp; try omega) _ | refine Below.alloc ?_ (by simp; try omega) _ | refine Below.drew ?_))) ?_; rintro e w3 ⟨rfl, hR⟩; refine ⟨_, rfl, ?_⟩; have HR : Hid (∃ wr, Below W.heap.size W wr ∧ R wr w3) := ⟨_, (by repeat (first | exact Below.refl _ _ | refine Below.setCell ?_ (by simp; try omega) _ | refine Below.alloc ?_ (by simp; try omega) _ | refine Below.drew ?_)), hR⟩; clear hR)
  all_goals go_wp2
  all_goals
    go_ret
    exact ⟨rfl, HR.out⟩
/-- a call's answer to a further operand, and the frames behind it -/
def puE : List PF → Int
  | [] => 6
  | f :: _ => if f.xs.length < f.rm then 0 else 35
def puP (v : Bool × Int) : List PF → List PF
  | [] => []
  | f :: r => if f.xs.length < f.rm then { f with xs := f.xs ++ [v] } :: r else f :: r
theorem putK_c {W : World} {S : Nat → Prop} {sb : Nat} {fv : Value} {fs : List Fr} (h : SkAt true W S sb fv fs) (v : Bool × Int) : Calls Try.prog 17 #[.pointer (some ⟨sb, 0, none⟩), vlV v] W fun e w' => e = .returned (.int .i64 (puE (fs.map Fr.p))) ∧ SkP true S W w' sb (puP v (fs.map Fr.p)) := by
  cases fs with
  | nil => exact (putK_err (E := 6) (by decide) (fun w hb => top_none (h.below hb))).mono (fun e w' x => ⟨x.1, [], SkN.same h x.2, rfl⟩)
  | cons f r =>
    obtain ⟨g, c, rfl, hc, hf, hg, hne⟩ := h.topc
    have HT : Hid (∀ w, Below W.heap.size W w → Calls Try.prog 30 #[.pointer (some ⟨sb, 0, none⟩)] w fun e w' => e = .returned (.tuple #[.pointer (some ⟨g, r.length * 3, none⟩), .int .i64 0]) ∧ w' = w.drew) := fun w hb => top_yes (h.below hb)
    obtain ⟨a, k1, hv⟩ := ownv (h.vo f List.mem_cons_self)
    have hbd := h.bd f List.mem_cons_self
    have c0 : ∀ w, Below W.heap.size W w → w.cell? ⟨g, r.length * 3, none⟩ = some (.slice a f.xs.length k1) := fun w hb => (hb.cell (p := ⟨g, r.length * 3, none⟩) hg).trans ((hc 0 (by omega)).trans (by rw [← hv]; rfl))
    have c1 : ∀ w, Below W.heap.size W w → w.cell? ⟨g, r.length * 3 + 1, none⟩ = some (.int .i64 (f.rm : Int)) := fun w hb => (hb.cell (p := ⟨g, r.length * 3 + 1, none⟩) hg).trans (hc 1 (by omega))
    simp only [List.map_cons, puE, puP]
    by_cases hr : f.xs.length < f.rm
    · have hr' : f.p.xs.length < f.p.rm := hr
      rw [if_pos hr', if_pos hr']
      refine (putK_any (R := _) HT (fun w hb => put_yes (c0 w hb) (c1 w hb) (fun j => (World.frozen?_of_block (hb.block g hg)).trans (hf j)) hr hbd.2.1 (by rw [← hv]; exact (h.below hb).vo f List.mem_cons_self) (by rw [← hv]; exact fun e => (h.own_far List.mem_cons_self (.inl e)).2 rfl) v)).mono ?_
      rintro e w' ⟨rfl, wr, hb, wq, w5, g5, c5, rfl, hb2, G5, O5, V5⟩
      refine ⟨rfl, { f with vv := .slice (some ⟨g5, 0, none⟩) (f.xs.length + 1) c5, xs := f.xs ++ [v] } :: r, ?_, by simp [Fr.p]⟩
      rw [← hv] at G5 V5
      have hB := Below.step hb hb2
      exact SkN.bel hB (vv_fin (h.below hB) _ _ G5 (by simpa using O5) (fun j hj => by simp [Value.ownBlock] at hj; subst hj; exact V5) (by simp; omega))
    · have hr' : ¬ f.p.xs.length < f.p.rm := hr
      rw [if_neg hr', if_neg hr']
      refine (putK_any (R := fun w w' => Below w.heap.size w w') HT (fun w hb => put_no (c0 w hb) (c1 w hb) (by omega) v)).mono ?_
      rintro e w' ⟨rfl, wr, hb, hb2⟩
      exact ⟨rfl, f :: r, SkN.same h (Below.step hb hb2), by simp [Fr.p]⟩
end Go.Proofs.Ytaphlhcenelkbaa
