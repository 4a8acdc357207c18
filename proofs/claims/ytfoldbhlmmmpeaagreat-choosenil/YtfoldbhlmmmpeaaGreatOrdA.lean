/- The order of classes, plainly: what stands above what (chains and closures), and that it stays so when a class arrives. -/
import Derived.Test.YtfoldbhlmmmpeaaGreatHrR
namespace Go.Proofs.YtfoldbhlmmmpeaaGreat
open Go.RowKit

/-- what the order of classes hangs on: is it an interface, its superclass, its closure -/
structure Nd where
  i : Bool
  sp : Nat
  cl : List Nat

structure WO (ns : List Nd) : Prop where
  top : ∃ n, ns[0]? = some n ∧ n.sp = 0 ∧ n.cl = [] ∧ n.i = false
  sp : ∀ (k : Nat) (n : Nd), 0 < k → ns[k]? = some n → n.sp < k ∧ (∀ p, ns[n.sp]? = some p → p.i = false ∧ ∀ i ∈ p.cl, i ∈ n.cl) ∧ (n.i = true → n.sp = 0)
  cl : ∀ (k : Nat) (n : Nd), ns[k]? = some n → n.cl.Nodup ∧ ∀ i ∈ n.cl, i < k ∧ ∃ p, ns[i]? = some p ∧ p.i = true ∧ ∀ j ∈ p.cl, j ∈ n.cl

def spO (ns : List Nd) (k : Nat) : Nat := match ns[k]? with
  | some n => n.sp
  | none => 0
def clO (ns : List Nd) (k : Nat) : List Nat := match ns[k]? with
  | some n => n.cl
  | none => []
def upF (ns : List Nd) : Nat → Nat → List Nat
  | 0, k => [k]
  | f + 1, k => k :: (if k = 0 then [] else upF ns f (spO ns k))
/-- the chain of a class -/
def chL (ns : List Nd) (k : Nat) : List Nat := upF ns k k
/-- does a extend b? -/
def extB (ns : List Nd) (a b : Nat) : Bool := (chL ns a).contains b || (clO ns a).contains b

theorem WO.spLt {ns : List Nd} (h : WO ns) {k : Nat} (hk : k < ns.length) (h0 : 0 < k) : spO ns k < k := by
  have e : ns[k]? = some ns[k] := List.getElem?_eq_getElem hk
  have := (h.sp k _ h0 e).1
  rw [spO, e]; exact this
theorem upF_eq {ns : List Nd} (h : WO ns) : ∀ (f g k : Nat), k ≤ f → k ≤ g → k < ns.length → upF ns f k = upF ns g k
  | 0, 0, _, _, _, _ => rfl
  | 0, g + 1, k, hf, _, _ => by
    obtain rfl : k = 0 := by omega
    rfl
  | f + 1, 0, k, _, hg, _ => by
    obtain rfl : k = 0 := by omega
    rfl
  | f + 1, g + 1, k, hf, hg, hk => by
    rw [upF, upF]
    by_cases h0 : k = 0
    · rw [if_pos h0, if_pos h0]
    · rw [if_neg h0, if_neg h0]
      have := h.spLt hk (by omega)
      rw [upF_eq h f g (spO ns k) (by omega) (by omega) (by omega)]
theorem chL_zero (ns : List Nd) : chL ns 0 = [0] := rfl
theorem chL_cons {ns : List Nd} (h : WO ns) {k : Nat} (hk : k < ns.length) (h0 : 0 < k) : chL ns k = k :: chL ns (spO ns k) := by
  have hs := h.spLt hk h0
  obtain ⟨j, rfl⟩ : ∃ j, k = j + 1 := ⟨k - 1, by omega⟩
  rw [chL, upF, if_neg (by omega), chL, upF_eq h j (spO ns (j + 1)) (spO ns (j + 1)) (by omega) (Nat.le_refl _) (by omega)]
theorem chL_self (ns : List Nd) (k : Nat) : k ∈ chL ns k := by
  cases k with
  | zero => simp [chL_zero]
  | succ k => simp [chL, upF]
/-- a chain, from its foot up -/
theorem ch_ind {ns : List Nd} (h : WO ns) {P : Nat → Prop} (h0 : P 0) (hs : ∀ k, k < ns.length → 0 < k → spO ns k < k → P (spO ns k) → P k) : ∀ k, k < ns.length → P k := by
  intro k
  induction k using Nat.strongRecOn with
  | _ k ih =>
    intro hk
    by_cases hz : k = 0
    · rw [hz]; exact h0
    · have := h.spLt hk (by omega)
      exact hs k hk (by omega) this (ih _ this (by omega))
theorem ch_pos {ns : List Nd} (a : Nat) : 0 < (chL ns a).length := by
  have := chL_self ns a
  exact List.length_pos_of_mem this
def nd (q : Plc) : Nd := ⟨ifB q.c.fl, q.sp, q.cl⟩
end Go.Proofs.YtfoldbhlmmmpeaaGreat
