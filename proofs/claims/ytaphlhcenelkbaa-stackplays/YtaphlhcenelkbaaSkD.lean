/- Package stack: Depth, peek, Peek, local, Local. -/
import Derived.Test.YtaphlhcenelkbaaSkC
namespace Go.Proofs.Ytaphlhcenelkbaa
open Go.RowKit Go.Maps

theorem callDep (vs : Array Value) (w : World) : (callFunc 31 vs).run Try.prog w = .ok (.enter 31 vs) w := by simp [go_sem]
theorem flatV_app : ∀ a b : List (Bool × Int), flatV (a ++ b) = flatV a ++ flatV b
  | [], b => rfl
  | v :: r, b => by simp [flatV, flatV_app r b]
set_option maxRecDepth 100000 in
theorem dpt_nil (W : World) : Calls Try.prog 13 #[.pointer none] W fun e w' => e = .returned (.int .i64 0) ∧ w' = W := by
  have HT : Hid (∀ w : World, Calls Try.prog 30 #[.pointer none] w fun e w' => e = .returned (.tuple #[.pointer none, .int .i64 2]) ∧ w' = w) := fun w => top_nil w
  go_enter Try.func13, Try.ntmps13
  go_wp2_with (go_at_call 30; refine (HT.out _).mono ?_; rintro e w1 ⟨rfl, rfl⟩)
  go_ret
  exact ⟨rfl, rfl⟩
set_option maxRecDepth 100000 in
theorem dpt_none {W : World} {S : Nat → Prop} {sb : Nat} {fv : Value} (h : SkAt true W S sb fv []) : Calls Try.prog 13 #[.pointer (some ⟨sb, 0, none⟩)] W fun e w' => e = .returned (.int .i64 0) ∧ w' = W := by
  have HT := top_none h
  clear h
  go_enter Try.func13, Try.ntmps13
  go_wp2_with (go_at_call 30; refine (HT).mono ?_; rintro e w1 ⟨rfl, rfl⟩)
  go_ret
  exact ⟨rfl, rfl⟩
theorem SkAt.drew {k : Bool} {w : World} {S : Nat → Prop} {sb : Nat} {fv : Value} {fs : List Fr} (h : SkAt k w S sb fv fs) : SkAt k w.drew S sb fv fs := h.below (Below.refl _ _).drew
set_option maxRecDepth 100000 in
theorem dpt_yes {W : World} {S : Nat → Prop} {sb : Nat} {fv : Value} {f : Fr} {r : List Fr} (h : SkAt true W S sb fv (f :: r)) : Calls Try.prog 13 #[.pointer (some ⟨sb, 0, none⟩)] W fun e w' => e = .returned (.int .i64 (f.xs.length : Int)) ∧ w' = W.drew := by
  obtain ⟨g, c, rfl, hc, hf, hg, hne⟩ := h.topc
  have HT := top_yes h
  obtain ⟨a1, k1, hv⟩ := ownv (h.vo f List.mem_cons_self)
  have c0 : W.drew.cell? ⟨g, r.length * 3, none⟩ = some (.slice a1 f.xs.length k1) := by rw [← hv]; exact hc 0 (by omega)
  have HD := dep_o c0
  clear h hc hf hg hne c0 hv
  go_enter Try.func13, Try.ntmps13
  go_wp2_with (first | (go_at_call 31; refine (HD).mono ?_; rintro e w1 ⟨rfl, rfl⟩) | (go_at_call 30; refine (HT).mono ?_; rintro e w1 ⟨rfl, rfl⟩))
  go_ret
  exact ⟨rfl, rfl⟩
/-- the top frame's operands -/
def dptI : List Fr → Nat
  | [] => 0
  | f :: _ => f.xs.length
theorem dpt_c {W : World} {S : Nat → Prop} {sb : Nat} {fv : Value} {fs : List Fr} (h : SkAt true W S sb fv fs) : Calls Try.prog 13 #[.pointer (some ⟨sb, 0, none⟩)] W fun e w' => e = .returned (.int .i64 (dptI fs : Int)) ∧ Below W.heap.size W w' := by
  cases fs with
  | nil => exact (dpt_none h).mono (fun e w' x => ⟨x.1, by rw [x.2]; exact Below.refl _ _⟩)
  | cons f r => exact (dpt_yes h).mono (fun e w' x => ⟨x.1, by rw [x.2]; exact (Below.refl _ _).drew⟩)

def noV : Value := .agg #[.bool false, .int .i64 0]
def vlV (v : Bool × Int) : Value := .agg #[.bool v.1, .int .i64 v.2]
set_option maxRecDepth 100000 in
theorem pk_no {W : World} {g q n c : Nat} {a : Option Addr} (h : W.cell? ⟨g, q, none⟩ = some (.slice a n c)) (hg : g < W.heap.size) (k : Int) (hk : k < 0 ∨ (n : Int) ≤ k) : Calls Try.prog 36 #[.pointer (some ⟨g, q, none⟩), .int .i64 k] W fun e w' => e = .returned (.tuple #[noV, .int .i64 35]) ∧ Below W.heap.size W w' := by
  have HD : Hid (∀ w, Below W.heap.size W w → Calls Try.prog 31 #[.pointer (some ⟨g, q, none⟩)] w fun e w' => e = .returned (.int .i64 (n : Int)) ∧ w' = w) := fun w hb => dep_o ((hb.cell (p := ⟨g, q, none⟩) hg).trans h)
  by_cases h1 : k < 0
  · clear h hk
    go_enter Try.func36, Try.ntmps36
    go_wp2
    refine bodyPost_ret (v := .tuple #[noV, .int .i64 35]) (by simp [results, Try.results36, go_sem, noV]) rfl ⟨rfl, (by repeat (first | exact Below.refl _ _ | refine Below.setCell ?_ (by simp; try omega) _ | refine Below.alloc ?_ (by simp; try omega) _ | refine Below.drew ?_))⟩
  · have h2 : (n : Int) ≤ k := by omega
    clear h hk
    go_enter Try.func36, Try.ntmps36
    go_wp2_with (go_at_call 31; refine (HD.out _ (by repeat (first | exact Below.refl _ _ | refine Below.setCell ?_ (by simp; try omega) _ | refine Below.alloc ?_ (by simp; try omega) _ | refine Below.drew ?_))).mono ?_; rintro e w1 ⟨rfl, rfl⟩)
    refine bodyPost_ret (v := .tuple #[noV, .int .i64 35]) (by simp [results, Try.results36, go_sem, noV]) rfl ⟨rfl, (by repeat (first | exact Below.refl _ _ | refine Below.setCell ?_ (by simp; try omega) _ | refine Below.alloc ?_ (by simp; try omega) _ | refine Below.drew ?_))⟩
set_option maxRecDepth 100000 in
set_option maxHeartbeats 2000000 in
theorem pk_yes {W : World} {g q c : Nat} {a : Option Addr} {xs : List (Bool × Int)} (h : W.cell? ⟨g, q, none⟩ = some (.slice a xs.length c)) (hg : g < W.heap.size) (hw : W.ownsRow 0 32 2 (.slice a xs.length c) xs.length (flatV xs)) (k : Nat) (hk : k < xs.length) (hn : xs.length ≤ 40) (v : Bool × Int) (hv : xs[xs.length - 1 - k]? = some v) : Calls Try.prog 36 #[.pointer (some ⟨g, q, none⟩), .int .i64 (k : Int)] W fun e w' => e = .returned (.tuple #[vlV v, .int .i64 0]) ∧ Below W.heap.size W w' := by
  obtain ⟨n, hN⟩ : ∃ n, xs.length = n := ⟨_, rfl⟩
  rw [hN] at h hw hk hn hv
  obtain ⟨b, c', hform⟩ := Go.Joins.ownsRow_form hw (by omega)
  injection hform with ha _ hc
  subst ha hc
  obtain ⟨f0, f1⟩ := flatV_at xs _ v hv
  have e0 : W.cell? ⟨b, (n - 1 - k) * 2, none⟩ = some (.bool v.1) := (hw.cellAt _ (by omega)).trans f0
  have e1 : W.cell? ⟨b, (n - 1 - k) * 2 + 1, none⟩ = some (.int .i64 v.2) := (hw.cellAt _ (by omega)).trans f1
  have hb2 : b < W.heap.size := World.block_lt_of_cell? W _ e0
  have hgn : ¬ g = W.heap.size := by omega
  have hbn : ¬ b = W.heap.size := by omega
  have HD : Hid (∀ w, Below W.heap.size W w → Calls Try.prog 31 #[.pointer (some ⟨g, q, none⟩)] w fun e w' => e = .returned (.int .i64 (n : Int)) ∧ w' = w) := fun w hb => dep_o ((hb.cell (p := ⟨g, q, none⟩) hg).trans h)
  have h1 : ¬ (k : Int) < 0 := by omega
  have h2 : ¬ (n : Int) ≤ (k : Int) := by omega
  obtain ⟨m, hm⟩ : ∃ m, n - 1 - k = m := ⟨_, rfl⟩
  have hm2 : (n : Int) - 1 - (k : Int) = (m : Int) := by omega
  have hm3 : m < n := by omega
  have w1 : IntKind.i64.wrap ((n : Int) - 1) = (n : Int) - 1 := by rw [IntKind.wrap_i64]; omega
  have w2 : IntKind.i64.wrap (m : Int) = (m : Int) := by rw [IntKind.wrap_i64]; omega
  rw [hm] at e0 e1
  clear hw hN hv f0 f1 hm hk
  obtain ⟨v1, v2⟩ := v
  simp only at e0 e1
  go_enter Try.func36, Try.ntmps36
  go_upto_region 3 with (go_at_call 31; refine (HD.out _ (by repeat (first | exact Below.refl _ _ | refine Below.setCell ?_ (by simp; try omega) _ | refine Below.alloc ?_ (by simp; try omega) _ | refine Below.drew ?_))).mono ?_; rintro e w1 ⟨rfl, rfl⟩)
  go_region_law (refine step_call1 rfl 31 callDep (.tmp 19) 72 rfl (.pointer (some ⟨g, q, none⟩)) (by first | (simp [Act.eval]; done) | (simp [Act.eval, Act.put]; done)) (HD.out _ (by repeat (first | exact Below.refl _ _ | refine Below.setCell ?_ (by simp; try omega) _ | refine Below.alloc ?_ (by simp; try omega) _ | refine Below.drew ?_))) ?_; rintro e w3 ⟨rfl, rfl⟩; refine ⟨_, rfl, ?_⟩)
  all_goals go_wp2
  all_goals refine bodyPost_ret (v := .tuple #[.agg #[.bool v1, .int .i64 v2], .int .i64 0]) (by simp [results, Try.results36, go_sem]) rfl ⟨rfl, (by repeat (first | exact Below.refl _ _ | refine Below.setCell ?_ (by simp; try omega) _ | refine Below.alloc ?_ (by simp; try omega) _ | refine Below.drew ?_))⟩

/-- what Peek answers: the value and the error -/
def pkI (xs : List (Bool × Int)) (k : Int) : Option (Bool × Int) := if 0 ≤ k ∧ k < (xs.length : Int) then xs[xs.length - 1 - k.toNat]? else none
def oV : Option (Bool × Int) → Value
  | none => noV
  | some v => vlV v
def oE (e : Int) : Option (Bool × Int) → Int
  | none => e
  | some _ => 0
theorem pk_c {W : World} {g q : Nat} {vv : Value} {xs : List (Bool × Int)} (h : W.cell? ⟨g, q, none⟩ = some vv) (hw : W.ownsRow 0 32 2 vv xs.length (flatV xs)) (k : Int) (hn : xs.length ≤ 40) : Calls Try.prog 36 #[.pointer (some ⟨g, q, none⟩), .int .i64 k] W fun e w' => e = .returned (.tuple #[oV (pkI xs k), .int .i64 (oE 35 (pkI xs k))]) ∧ Below W.heap.size W w' := by
  obtain ⟨a, c, rfl⟩ := ownv hw
  have hg := World.block_lt_of_cell? W _ h
  by_cases hk : 0 ≤ k ∧ k < (xs.length : Int)
  · obtain ⟨m, rfl⟩ : ∃ m : Nat, k = (m : Int) := ⟨k.toNat, by omega⟩
    have hl : xs.length - 1 - m < xs.length := by omega
    have e : pkI xs m = some xs[xs.length - 1 - m] := by rw [pkI, if_pos hk]; simp [hl]
    rw [e]
    exact pk_yes h hg hw m (by omega) hn _ (List.getElem?_eq_getElem hl)
  · have e : pkI xs k = none := by rw [pkI, if_neg hk]
    rw [e]
    exact pk_no h hg k (by omega)
set_option maxRecDepth 100000 in
theorem peek_nil (k : Int) (W : World) : Calls Try.prog 22 #[.pointer none, .int .i64 k] W fun e w' => e = .returned (.tuple #[noV, .int .i64 2]) ∧ Below W.heap.size W w' := by
  have HT : Hid (∀ w : World, Calls Try.prog 30 #[.pointer none] w fun e w' => e = .returned (.tuple #[.pointer none, .int .i64 2]) ∧ w' = w) := fun w => top_nil w
  go_enter Try.func22, Try.ntmps22
  go_wp2_with (go_at_call 30; refine (HT.out _).mono ?_; rintro e w1 ⟨rfl, rfl⟩)
  refine bodyPost_ret (v := .tuple #[noV, .int .i64 2]) (by simp [results, Try.results22, go_sem, noV]) rfl ⟨rfl, (by repeat (first | exact Below.refl _ _ | refine Below.setCell ?_ (by simp; try omega) _ | refine Below.alloc ?_ (by simp; try omega) _ | refine Below.drew ?_))⟩
set_option maxRecDepth 100000 in
theorem peek_none {W : World} {S : Nat → Prop} {sb : Nat} {fv : Value} (h : SkAt true W S sb fv []) (k : Int) : Calls Try.prog 22 #[.pointer (some ⟨sb, 0, none⟩), .int .i64 k] W fun e w' => e = .returned (.tuple #[noV, .int .i64 6]) ∧ Below W.heap.size W w' := by
  have HT : Hid (∀ w, Below W.heap.size W w → Calls Try.prog 30 #[.pointer (some ⟨sb, 0, none⟩)] w fun e w' => e = .returned (.tuple #[.pointer none, .int .i64 6]) ∧ w' = w) := fun w hb => top_none (h.below hb)
  clear h
  go_enter Try.func22, Try.ntmps22
  go_wp2_with (go_at_call 30; refine (HT.out _ (by repeat (first | exact Below.refl _ _ | refine Below.setCell ?_ (by simp; try omega) _ | refine Below.alloc ?_ (by simp; try omega) _ | refine Below.drew ?_))).mono ?_; rintro e w1 ⟨rfl, rfl⟩)
  refine bodyPost_ret (v := .tuple #[noV, .int .i64 6]) (by simp [results, Try.results22, go_sem, noV]) rfl ⟨rfl, (by repeat (first | exact Below.refl _ _ | refine Below.setCell ?_ (by simp; try omega) _ | refine Below.alloc ?_ (by simp; try omega) _ | refine Below.drew ?_))⟩
theorem oV_form (o : Option (Bool × Int)) : ∃ x y, oV o = .agg #[.bool x, .int .i64 y] := by
  cases o with
  | none => exact ⟨_, _, rfl⟩
  | some v => exact ⟨_, _, rfl⟩
set_option maxRecDepth 100000 in
theorem peek_yes {W : World} {S : Nat → Prop} {sb : Nat} {fv : Value} {f : Fr} {r : List Fr} (h : SkAt true W S sb fv (f :: r)) (k : Int) : Calls Try.prog 22 #[.pointer (some ⟨sb, 0, none⟩), .int .i64 k] W fun e w' => e = .returned (.tuple #[oV (pkI f.xs k), .int .i64 (oE 35 (pkI f.xs k))]) ∧ Below W.heap.size W w' := by
  obtain ⟨g, c, rfl, hc, hf, hg, hne⟩ := h.topc
  have HT : Hid (∀ w, Below W.heap.size W w → Calls Try.prog 30 #[.pointer (some ⟨sb, 0, none⟩)] w fun e w' => e = .returned (.tuple #[.pointer (some ⟨g, r.length * 3, none⟩), .int .i64 0]) ∧ w' = w.drew) := fun w hb => top_yes (h.below hb)
  have hbd := h.bd f List.mem_cons_self
  have HP : Hid (∀ w, Below W.heap.size W w → Calls Try.prog 36 #[.pointer (some ⟨g, r.length * 3, none⟩), .int .i64 k] w fun e w' => e = .returned (.tuple #[oV (pkI f.xs k), .int .i64 (oE 35 (pkI f.xs k))]) ∧ Below w.heap.size w w') := fun w hb => pk_c ((hb.cell (p := ⟨g, r.length * 3, none⟩) hg).trans (hc 0 (by omega))) ((h.below hb).vo f List.mem_cons_self) k (by omega)
  obtain ⟨x, y, hv⟩ := oV_form (pkI f.xs k)
  rw [hv] at HP ⊢
  clear h hc hf hne hv hbd
  go_enter Try.func22, Try.ntmps22
  go_wp2_with (first | (go_at_call 36; refine (HP.out _ (by repeat (first | exact Below.refl _ _ | refine Below.setCell ?_ (by simp; try omega) _ | refine Below.alloc ?_ (by simp; try omega) _ | refine Below.drew ?_))).mono ?_; rintro e w1 ⟨rfl, hb⟩; obtain ⟨zB, z0, z1, zf, zL, zN⟩ := k2c (n := W.heap.size) hb; have B1 : Hid (Below W.heap.size W w1) := Below.step ((Below.refl _ _).alloc (Nat.le_refl _) _) (Below.step (Below.refl _ _).drew hb); clear hb) | (go_at_call 30; refine (HT.out _ (by repeat (first | exact Below.refl _ _ | refine Below.setCell ?_ (by simp; try omega) _ | refine Below.alloc ?_ (by simp; try omega) _ | refine Below.drew ?_))).mono ?_; rintro e w1 ⟨rfl, rfl⟩))
  refine bodyPost_ret (v := .tuple #[.agg #[.bool x, .int .i64 y], .int .i64 (oE 35 (pkI f.xs k))]) (by simp [results, Try.results22, go_sem, z0, z1]) rfl ⟨rfl, (by repeat (first | refine Below.setCell ?_ (by simp; try omega) _ | refine Below.alloc ?_ (by have := B1.out.size; simp; try omega) _ | refine Below.drew ?_ | exact B1.out))⟩
end Go.Proofs.Ytaphlhcenelkbaa
