/- What holds of every world that is built, plainly. -/
import Derived.Test.YtfkdemkdkepmdaaGreatHrK
import Derived.Test.YtfkdemkdkepmdaaGreatHrT
namespace Go.Proofs.YtfkdemkdkepmdaaGreat
open Go.RowKit

/-- what the order of classes hangs on: is it an interface, its superclass, its closure -/
structure Nd where
  i : Bool
  sp : Nat
  cl : List Nat

structure WO (ns : List Nd) : Prop where
  top : ∃ n, ns[0]? = some n ∧ n.sp = 0 ∧ n.cl = [] ∧ n.i = false
  sp : ∀ (k : Nat) (n : Nd), 0 < k → ns[k]? = some n → n.sp < k ∧ (∀ p, ns[n.sp]? = some p → p.i = false ∧ ∀ i ∈ p.cl, i ∈ n.cl) ∧ (n.i = true → n.sp = 0)
  cl : ∀ (k : Nat) (n : Nd), ns[k]? = some n → n.cl.Nodup ∧ ∀ i ∈ n.cl, i < k ∧ ∃ p, ns[i]? = some p ∧ p.i = true ∧ ∀ j ∈ p.cl, j ∈ n.cl

def spO (ns : List Nd) (k : Nat) : Nat := match ns[k]? with
  | some n => n.sp
  | none => 0
def clO (ns : List Nd) (k : Nat) : List Nat := match ns[k]? with
  | some n => n.cl
  | none => []
def upF (ns : List Nd) : Nat → Nat → List Nat
  | 0, k => [k]
  | f + 1, k => k :: (if k = 0 then [] else upF ns f (spO ns k))
/-- the chain of a class -/
def chL (ns : List Nd) (k : Nat) : List Nat := upF ns k k
/-- does a extend b? -/
def extB (ns : List Nd) (a b : Nat) : Bool := (chL ns a).contains b || (clO ns a).contains b

theorem WO.spLt {ns : List Nd} (h : WO ns) {k : Nat} (hk : k < ns.length) (h0 : 0 < k) : spO ns k < k := by
  have e : ns[k]? = some ns[k] := List.getElem?_eq_getElem hk
  have := (h.sp k _ h0 e).1
  rw [spO, e]; exact this
theorem upF_eq {ns : List Nd} (h : WO ns) : ∀ (f g k : Nat), k ≤ f → k ≤ g → k < ns.length → upF ns f k = upF ns g k
  | 0, 0, _, _, _, _ => rfl
  | 0, g + 1, k, hf, _, _ => by
    obtain rfl : k = 0 := by omega
    rfl
  | f + 1, 0, k, _, hg, _ => by
    obtain rfl : k = 0 := by omega
    rfl
  | f + 1, g + 1, k, hf, hg, hk => by
    rw [upF, upF]
    by_cases h0 : k = 0
    · rw [if_pos h0, if_pos h0]
    · rw [if_neg h0, if_neg h0]
      have := h.spLt hk (by omega)
      rw [upF_eq h f g (spO ns k) (by omega) (by omega) (by omega)]
theorem chL_zero (ns : List Nd) : chL ns 0 = [0] := rfl
theorem chL_cons {ns : List Nd} (h : WO ns) {k : Nat} (hk : k < ns.length) (h0 : 0 < k) : chL ns k = k :: chL ns (spO ns k) := by
  have hs := h.spLt hk h0
  obtain ⟨j, rfl⟩ : ∃ j, k = j + 1 := ⟨k - 1, by omega⟩
  rw [chL, upF, if_neg (by omega), chL, upF_eq h j (spO ns (j + 1)) (spO ns (j + 1)) (by omega) (Nat.le_refl _) (by omega)]
theorem chL_self (ns : List Nd) (k : Nat) : k ∈ chL ns k := by
  cases k with
  | zero => simp [chL_zero]
  | succ k => simp [chL, upF]
/-- a chain, from its foot up -/
theorem ch_ind {ns : List Nd} (h : WO ns) {P : Nat → Prop} (h0 : P 0) (hs : ∀ k, k < ns.length → 0 < k → spO ns k < k → P (spO ns k) → P k) : ∀ k, k < ns.length → P k := by
  intro k
  induction k using Nat.strongRecOn with
  | _ k ih =>
    intro hk
    by_cases hz : k = 0
    · rw [hz]; exact h0
    · have := h.spLt hk (by omega)
      exact hs k hk (by omega) this (ih _ this (by omega))
theorem ch_le {ns : List Nd} (h : WO ns) (a : Nat) (ha : a < ns.length) : ∀ b ∈ chL ns a, b ≤ a := by
  refine ch_ind h (P := fun a => ∀ b ∈ chL ns a, b ≤ a) (by simp [chL_zero]) ?_ a ha
  intro k hk h0 hl ih b hb
  rw [chL_cons h hk h0] at hb
  rcases List.mem_cons.1 hb with rfl | hb
  · exact Nat.le_refl _
  · have := ih b hb; omega
theorem ch_zero {ns : List Nd} (h : WO ns) (a : Nat) (ha : a < ns.length) : 0 ∈ chL ns a := by
  refine ch_ind h (P := fun a => 0 ∈ chL ns a) (by simp [chL_zero]) ?_ a ha
  intro k hk h0 hl ih
  rw [chL_cons h hk h0]; exact List.mem_cons_of_mem _ ih
theorem ch_nodup {ns : List Nd} (h : WO ns) (a : Nat) (ha : a < ns.length) : (chL ns a).Nodup := by
  refine ch_ind h (P := fun a => (chL ns a).Nodup) (by simp [chL_zero]) ?_ a ha
  intro k hk h0 hl ih
  rw [chL_cons h hk h0]
  refine List.nodup_cons.2 ⟨fun hm => ?_, ih⟩
  have := ch_le h _ (by omega) k hm
  omega
theorem ch_pos {ns : List Nd} (a : Nat) : 0 < (chL ns a).length := by
  have := chL_self ns a
  exact List.length_pos_of_mem this
theorem ch_head {ns : List Nd} (a : Nat) : (chL ns a)[0]? = some a := by
  cases a with
  | zero => rfl
  | succ k => rfl
theorem ch_last {ns : List Nd} (h : WO ns) (a : Nat) (ha : a < ns.length) : (chL ns a)[(chL ns a).length - 1]? = some 0 := by
  refine ch_ind h (P := fun a => (chL ns a)[(chL ns a).length - 1]? = some 0) (by simp [chL_zero]) ?_ a ha
  intro k hk h0 hl ih
  have hp := ch_pos (ns := ns) (spO ns k)
  rw [chL_cons h hk h0, List.length_cons, Nat.add_sub_cancel]
  obtain ⟨m, hm⟩ : ∃ m, (chL ns (spO ns k)).length = m + 1 := ⟨_, (Nat.succ_pred_eq_of_pos hp).symm⟩
  rw [hm] at ih ⊢
  rw [List.getElem?_cons_succ]
  exact ih
theorem ch_next {ns : List Nd} (h : WO ns) (a : Nat) (ha : a < ns.length) : ∀ (i x : Nat), i + 1 < (chL ns a).length → (chL ns a)[i]? = some x → 0 < x ∧ x < ns.length ∧ (chL ns a)[i + 1]? = some (spO ns x) := by
  refine ch_ind h (P := fun a => ∀ (i x : Nat), i + 1 < (chL ns a).length → (chL ns a)[i]? = some x → 0 < x ∧ x < ns.length ∧ (chL ns a)[i + 1]? = some (spO ns x)) (by intro i x hi; simp [chL_zero] at hi) ?_ a ha
  intro k hk h0 hl ih i x hi hx
  rw [chL_cons h hk h0] at hi hx ⊢
  cases i with
  | zero =>
    simp only [List.getElem?_cons_zero, Option.some.injEq] at hx
    subst hx
    refine ⟨h0, hk, ?_⟩
    rw [List.getElem?_cons_succ]; exact ch_head _
  | succ i =>
    rw [List.getElem?_cons_succ] at hx
    rw [List.getElem?_cons_succ]
    exact ih i x (by simp only [List.length_cons] at hi; omega) hx
theorem ch_plain {ns : List Nd} (h : WO ns) (a : Nat) (ha : a < ns.length) : ∀ b ∈ chL ns a, b ≠ a → ∀ p, ns[b]? = some p → p.i = false := by
  refine ch_ind h (P := fun a => ∀ b ∈ chL ns a, b ≠ a → ∀ p, ns[b]? = some p → p.i = false) (by intro b hb hn; simp [chL_zero] at hb; exact absurd hb hn) ?_ a ha
  intro k hk h0 hl ih b hb hn p hp
  rw [chL_cons h hk h0] at hb
  rcases List.mem_cons.1 hb with rfl | hb
  · exact absurd rfl hn
  · by_cases hs : b = spO ns k
    · have e : ns[k]? = some ns[k] := List.getElem?_eq_getElem hk
      have h2 := (h.sp k _ h0 e).2.1
      rw [hs, spO, e] at hp
      exact (h2 p hp).1
    · exact ih b hb hs p hp
theorem ch_trans {ns : List Nd} (h : WO ns) (a : Nat) (ha : a < ns.length) : ∀ b ∈ chL ns a, ∀ c ∈ chL ns b, c ∈ chL ns a := by
  refine ch_ind h (P := fun a => ∀ b ∈ chL ns a, ∀ c ∈ chL ns b, c ∈ chL ns a) ?_ ?_ a ha
  · intro b hb c hc
    simp [chL_zero] at hb
    subst hb
    exact hc
  · intro k hk h0 hl ih b hb c hc
    rw [chL_cons h hk h0] at hb
    rcases List.mem_cons.1 hb with rfl | hb
    · exact hc
    · rw [chL_cons h hk h0]
      exact List.mem_cons_of_mem _ (ih b hb c hc)
theorem ch_cl {ns : List Nd} (h : WO ns) (a : Nat) (ha : a < ns.length) : ∀ b ∈ chL ns a, ∀ c ∈ clO ns b, c ∈ clO ns a := by
  refine ch_ind h (P := fun a => ∀ b ∈ chL ns a, ∀ c ∈ clO ns b, c ∈ clO ns a) ?_ ?_ a ha
  · intro b hb c hc
    simp [chL_zero] at hb
    subst hb
    exact hc
  · intro k hk h0 hl ih b hb c hc
    rw [chL_cons h hk h0] at hb
    rcases List.mem_cons.1 hb with rfl | hb
    · exact hc
    · have h1 := ih b hb c hc
      have e : ns[k]? = some ns[k] := List.getElem?_eq_getElem hk
      have h2 := (h.sp k _ h0 e).2.1
      have hs : spO ns k = ns[k].sp := by rw [spO, e]
      have hq : ns[k].sp < ns.length := by omega
      obtain ⟨p, e2⟩ : ∃ p, ns[ns[k].sp]? = some p := ⟨_, List.getElem?_eq_getElem hq⟩
      rw [clO, hs, e2] at h1
      rw [clO, e]
      exact (h2 _ e2).2 c h1
theorem cl_facts {ns : List Nd} (h : WO ns) {a i : Nat} (hi : i ∈ clO ns a) : i < a ∧ a < ns.length ∧ ∃ p, ns[i]? = some p ∧ p.i = true ∧ ∀ j ∈ p.cl, j ∈ clO ns a := by
  cases e : ns[a]? with
  | none => rw [clO, e] at hi; simp at hi
  | some n =>
    rw [clO, e] at hi ⊢
    obtain ⟨h1, h2⟩ := (h.cl a n e).2 i hi
    exact ⟨h1, (List.getElem?_eq_some_iff.1 e).1, h2⟩
theorem cl_nodup {ns : List Nd} (h : WO ns) (a : Nat) : (clO ns a).Nodup := by
  cases e : ns[a]? with
  | none => rw [clO, e]; simp
  | some n => rw [clO, e]; exact (h.cl a n e).1
/-- an interface's chain is itself and Object -/
theorem ch_iface {ns : List Nd} (h : WO ns) {b : Nat} {p : Nd} (hb : ns[b]? = some p) (hi : p.i = true) : ∀ c ∈ chL ns b, c = b ∨ c = 0 := by
  intro c hc
  have hl := (List.getElem?_eq_some_iff.1 hb).1
  by_cases hz : b = 0
  · subst hz; simp [chL_zero] at hc; exact .inl hc
  · have hs : spO ns b = 0 := by rw [spO, hb]; exact (h.sp b p (by omega) hb).2.2 hi
    rw [chL_cons h hl (by omega), hs, chL_zero] at hc
    simpa using hc
theorem ext_iff (ns : List Nd) (a b : Nat) : extB ns a b = true ↔ b ∈ chL ns a ∨ b ∈ clO ns a := by
  simp [extB]
theorem ext_le {ns : List Nd} (h : WO ns) {a b : Nat} (ha : a < ns.length) (he : extB ns a b = true) : b ≤ a := by
  rcases (ext_iff _ _ _).1 he with h1 | h1
  · exact ch_le h a ha b h1
  · exact Nat.le_of_lt (cl_facts h h1).1
theorem ext_self (ns : List Nd) (a : Nat) : extB ns a a = true := (ext_iff _ _ _).2 (.inl (chL_self _ _))
theorem ext_top {ns : List Nd} (h : WO ns) {a : Nat} (ha : a < ns.length) : extB ns a 0 = true := (ext_iff _ _ _).2 (.inl (ch_zero h a ha))
theorem ext_trans {ns : List Nd} (h : WO ns) {a b c : Nat} (ha : a < ns.length) (h1 : extB ns a b = true) (h2 : extB ns b c = true) : extB ns a c = true := by
  have hb := ext_le h ha h1
  rw [ext_iff] at h1 h2 ⊢
  rcases h1 with h1 | h1
  · rcases h2 with h2 | h2
    · exact .inl (ch_trans h a ha b h1 c h2)
    · exact .inr (ch_cl h a ha b h1 c h2)
  · obtain ⟨_, _, p, hp, hi, hcl⟩ := cl_facts h h1
    rcases h2 with h2 | h2
    · rcases ch_iface h hp hi c h2 with rfl | rfl
      · exact .inr h1
      · exact .inl (ch_zero h a ha)
    · rw [clO, hp] at h2
      exact .inr (hcl c h2)
theorem ext_anti {ns : List Nd} (h : WO ns) {a b : Nat} (ha : a < ns.length) (h1 : extB ns a b = true) (hn : a ≠ b) : extB ns b a = false := by
  have hb := ext_le h ha h1
  cases e : extB ns b a with
  | false => rfl
  | true => have := ext_le h (by omega) e; omega
theorem ch_apart {ns : List Nd} (h : WO ns) {a b : Nat} (ha : a < ns.length) (h1 : b ∈ chL ns a) : b ∉ clO ns a := by
  intro h2
  obtain ⟨hlt, _, p, hp, hi, _⟩ := cl_facts h h2
  have := ch_plain h a ha b h1 (by omega) p hp
  rw [hi] at this; cases this
theorem len_of_nodup {l m : List Nat} (hl : l.Nodup) (hm : m.Nodup) (h : ∀ x, x ∈ l ↔ x ∈ m) : l.length = m.length :=
  ((List.perm_ext_iff_of_nodup hl hm).2 h).length_eq
/-- how many there are that a extends -/
theorem ext_count {ns : List Nd} (h : WO ns) {a : Nat} (ha : a < ns.length) : ((List.range ns.length).filter (extB ns a)).length = (chL ns a).length + (clO ns a).length := by
  rw [← List.length_append]
  refine len_of_nodup (List.nodup_range.filter _) ?_ ?_
  · rw [List.nodup_append]
    refine ⟨ch_nodup h a ha, cl_nodup h a, fun x hx y hy e => ?_⟩
    subst e
    exact ch_apart h ha hx hy
  · intro x
    rw [List.mem_filter, List.mem_range, ext_iff, List.mem_append]
    refine ⟨fun hx => hx.2, fun hx => ⟨?_, hx⟩⟩
    have := ext_le h ha ((ext_iff _ _ _).2 hx)
    omega

/-- what is in a closure that is gathered -/
theorem takeL_iff (cl a : List Nat) (i : Nat) : i ∈ takeL cl a ↔ i ∈ cl ∨ i ∈ a := by
  induction a generalizing cl with
  | nil => simp [takeL]
  | cons x a ih =>
    rw [takeL, ih]
    split
    · rename_i hx
      have hx := List.contains_iff_mem.1 hx
      simp only [List.mem_cons]
      constructor
      · rintro (h | h)
        · exact .inl h
        · exact .inr (.inr h)
      · rintro (h | rfl | h)
        · exact .inl h
        · exact .inl hx
        · exact .inr h
    · simp only [List.mem_append, List.mem_cons, List.not_mem_nil, or_false, or_assoc]
theorem gathF_iff (cls : List (List Nat)) (ifs : List Nat) (c : List Nat) (i : Nat) : i ∈ ifs.foldl (gathF cls) c ↔ i ∈ c ∨ ∃ x ∈ ifs, i = x ∨ i ∈ cls.getD x [] := by
  induction ifs generalizing c with
  | nil => simp
  | cons x l ih =>
    rw [List.foldl_cons, ih, gathF, takeL_iff, takeL_iff]
    simp only [List.mem_cons, List.not_mem_nil, or_false, exists_eq_or_imp]
    constructor
    · rintro (((h | h) | h) | h)
      · exact .inl h
      · exact .inr (.inl (.inr h))
      · exact .inr (.inl (.inl h))
      · exact .inr (.inr h)
    · rintro (h | (h | h) | h)
      · exact .inl (.inl (.inl h))
      · exact .inl (.inr h)
      · exact .inl (.inl (.inr h))
      · exact .inr h
theorem gathL_iff (cls : List (List Nat)) (sup : Nat) (ifs : List Nat) (i : Nat) : i ∈ gathL cls sup ifs ↔ i ∈ cls.getD sup [] ∨ ∃ x ∈ ifs, i = x ∨ i ∈ cls.getD x [] := by
  rw [gathL, gathF_iff, takeL_iff]; simp
theorem gathL_nodup (cls : List (List Nat)) (sup : Nat) (ifs : List Nat) : (gathL cls sup ifs).Nodup := by
  have key : ∀ (l : List Nat) (c : List Nat), c.Nodup → (l.foldl (gathF cls) c).Nodup := by
    intro l
    induction l with
    | nil => exact fun c h => h
    | cons x l ih => exact fun c h => ih _ (takeL_nodup _ _ (takeL_nodup _ _ h))
  exact key _ _ (takeL_nodup _ _ (by simp))
theorem getD_cl (ns : List Nd) (k : Nat) : (ns.map Nd.cl).getD k [] = clO ns k := by
  rw [List.getD_eq_getElem?_getD, List.getElem?_map, clO]
  cases ns[k]? <;> rfl
/-- a class more -/
theorem WO.snoc {ns : List Nd} (h : WO ns) (ib : Bool) (s : Nat) (ifs : List Nat) (hs : ∃ p, ns[s]? = some p ∧ p.i = false) (hi : ib = true → s = 0) (hif : ∀ x ∈ ifs, ∃ p, ns[x]? = some p ∧ p.i = true) :
    WO (ns ++ [⟨ib, s, gathL (ns.map Nd.cl) s ifs⟩]) := by
  obtain ⟨ps, hps, hpi⟩ := hs
  have hsl := (List.getElem?_eq_some_iff.1 hps).1
  have old : ∀ (k : Nat) (n : Nd), (ns ++ [(⟨ib, s, gathL (ns.map Nd.cl) s ifs⟩ : Nd)])[k]? = some n → (k < ns.length ∧ ns[k]? = some n) ∨ (k = ns.length ∧ n = ⟨ib, s, gathL (ns.map Nd.cl) s ifs⟩) := by
    intro k n hk
    by_cases hl : k < ns.length
    · rw [List.getElem?_append_left hl] at hk; exact .inl ⟨hl, hk⟩
    · rw [List.getElem?_append_right (by omega)] at hk
      by_cases he : k = ns.length
      · subst he; simp at hk; exact .inr ⟨rfl, hk.symm⟩
      · rw [List.getElem?_eq_none (by simp; omega)] at hk; cases hk
  have up : ∀ (k : Nat) (p : Nd), ns[k]? = some p → (ns ++ [(⟨ib, s, gathL (ns.map Nd.cl) s ifs⟩ : Nd)])[k]? = some p := fun k p hk => by
    rw [List.getElem?_append_left (List.getElem?_eq_some_iff.1 hk).1]; exact hk
  have mem : ∀ i, i ∈ gathL (ns.map Nd.cl) s ifs ↔ i ∈ clO ns s ∨ ∃ x ∈ ifs, i = x ∨ i ∈ clO ns x := fun i => by rw [gathL_iff, getD_cl]; simp only [getD_cl]
  refine ⟨?_, ?_, ?_⟩
  · obtain ⟨n, h1, h2⟩ := h.top
    exact ⟨n, up _ _ h1, h2⟩
  · intro k n h0 hk
    rcases old k n hk with ⟨hl, hk⟩ | ⟨rfl, rfl⟩
    · obtain ⟨h1, h2, h3⟩ := h.sp k n h0 hk
      refine ⟨h1, fun p hp => ?_, h3⟩
      rw [List.getElem?_append_left (by omega)] at hp
      exact h2 p hp
    · refine ⟨hsl, fun p hp => ?_, hi⟩
      rw [List.getElem?_append_left hsl, hps] at hp
      cases hp
      refine ⟨hpi, fun i hc => (mem i).2 (.inl ?_)⟩
      rw [clO, hps]; exact hc
  · intro k n hk
    rcases old k n hk with ⟨hl, hk⟩ | ⟨rfl, rfl⟩
    · obtain ⟨h1, h2⟩ := h.cl k n hk
      refine ⟨h1, fun i hc => ?_⟩
      obtain ⟨h3, p, hp, h4⟩ := h2 i hc
      exact ⟨h3, p, up _ _ hp, h4⟩
    · refine ⟨gathL_nodup _ _ _, fun i hc => ?_⟩
      rcases (mem i).1 hc with hc | ⟨x, hx, rfl | hc⟩
      · obtain ⟨h1, h2, p, hp, h3, h4⟩ := cl_facts h hc
        exact ⟨by omega, p, up _ _ hp, h3, fun j hj => (mem j).2 (.inl (h4 j hj))⟩
      · obtain ⟨p, hp, h3⟩ := hif i hx
        refine ⟨(List.getElem?_eq_some_iff.1 hp).1, p, up _ _ hp, h3, fun j hj => (mem j).2 (.inr ⟨i, hx, .inr ?_⟩)⟩
        rw [clO, hp]; exact hj
      · obtain ⟨h1, h2, p, hp, h3, h4⟩ := cl_facts h hc
        exact ⟨by omega, p, up _ _ hp, h3, fun j hj => (mem j).2 (.inr ⟨x, hx, .inr (h4 j hj)⟩)⟩

def nd (q : Plc) : Nd := ⟨ifB q.c.fl, q.sp, q.cl⟩


theorem nd_at' {ps : List Plc} {k : Nat} {q : Plc} (h : ps[k]? = some q) : (ps.map nd)[k]? = some (nd q) := by rw [List.getElem?_map, h]; rfl
structure WI (ps : List Plc) : Prop where
  wo : WO (ps.map nd)
  pb : ∀ q ∈ ps, PlcB q
  lo : 3 ≤ ps.length
  hi : ps.length ≤ 300

theorem WI.nm {ps : List Plc} (h : WI ps) : ∀ q ∈ ps, q.c.nm.size ≤ maxLen := fun q hq => (h.pb q hq).nm

theorem wi3 : WI P3 := by
  refine ⟨⟨⟨nd ⟨objH, 0, []⟩, rfl, rfl, rfl, by decide⟩, ?_, ?_⟩, ?_, by decide, by decide⟩
  · intro k n h0 hk
    match k, hk with
    | 1, hk => simp [P3] at hk; subst hk; exact ⟨Nat.zero_lt_one, fun p hp => by simp [nd, P3] at hp; subst hp; exact ⟨by decide, fun i hi => by simp at hi⟩, fun _ => rfl⟩
    | 2, hk => simp [P3] at hk; subst hk; exact ⟨by show 0 < 2; decide, fun p hp => by simp [nd, P3] at hp; subst hp; exact ⟨by decide, fun i hi => by simp at hi⟩, fun _ => rfl⟩
    | (k + 3), hk => simp [P3] at hk
  · intro k n hk
    have hm : n ∈ P3.map nd := List.mem_of_getElem? hk
    simp [P3] at hm
    rcases hm with rfl | rfl | rfl <;> exact ⟨by simp [nd], fun i hi => by simp [nd] at hi⟩
  · intro q hq
    simp only [P3, List.mem_cons, List.not_mem_nil, or_false] at hq
    rcases hq with rfl | rfl | rfl
    · exact ⟨by decide, by decide, by decide, by decide, by decide⟩
    · exact ⟨by decide, by decide, by decide, by decide, by decide⟩
    · exact ⟨by decide, by decide, by decide, by decide, by decide⟩

/-- what is known of a class that is taken -/
theorem def_ok {ps : List Plc} {c : Cls} {p : Plc} (h : defN ps c = .ok p) : clsB c = true ∧ ps.length < 300 ∧ lookL ps c.nm.data.toList = none ∧ ∃ s l, aboveN ps c.nm c.ld (fitS c.fl) c.su.data.toList = .ok s ∧ ifsN ps c.nm c.ld [] c.ifs = .ok l ∧ p = ⟨hcOf c, s, gathL (ps.map Plc.cl) s l⟩ := by
  unfold defN at h
  by_cases h1 : clsB c = true
  · rw [if_pos h1] at h
    by_cases h2 : 300 ≤ ps.length
    · rw [if_pos h2] at h; cases h
    · rw [if_neg h2] at h
      cases h3 : lookL ps c.nm.data.toList with
      | some k => rw [h3] at h; cases h
      | none =>
        rw [h3] at h
        simp only at h
        cases h4 : aboveN ps c.nm c.ld (fitS c.fl) c.su.data.toList with
        | error e => rw [h4] at h; cases h
        | ok s =>
          rw [h4] at h
          simp only at h
          cases h5 : ifsN ps c.nm c.ld [] c.ifs with
          | error e => rw [h5] at h; cases h
          | ok l =>
            rw [h5] at h
            simp only at h
            cases h
            exact ⟨h1, by omega, rfl, s, l, rfl, rfl, rfl⟩
  · rw [if_neg h1] at h; cases h

theorem WI.define {ps : List Plc} (h : WI ps) (c : Cls) (hc : ClsW c) : WI (dfP ps (defN ps c)) := by
  cases hd : defN ps c with
  | error e => exact h
  | ok p =>
    obtain ⟨h1, h2, _, s, l, h4, h5, rfl⟩ := def_ok hd
    obtain ⟨b1, b2, b3⟩ := cls_bound h1
    show WI (ps ++ [_])
    refine ⟨?_, fun q hq => ?_, by simp; have := h.lo; omega, by simp; omega⟩
    · obtain ⟨_, q, hq, hf, _⟩ := above_ok h4
      obtain ⟨t, ht, _, _, h8⟩ := ifs_ok _ _ _ h5
      simp only [List.nil_append] at ht
      subst ht
      simp only [fitS, Bool.and_eq_true, Bool.not_eq_true', Bool.or_eq_true, decide_eq_true_eq] at hf
      have hmap : (ps.map nd).map Nd.cl = ps.map Plc.cl := by rw [List.map_map]; rfl
      have := h.wo.snoc (ifB c.fl) s l ⟨nd q, nd_at' hq, hf.1⟩ (fun hi => hf.2.resolve_right (fun h0 => by rw [hi] at h0; cases h0)) (fun x hx => ?_)
      · rw [hmap] at this
        rw [List.map_append]
        exact this
      · obtain ⟨i, hi⟩ := List.mem_iff_getElem?.1 hx
        have hil : i < c.ifs.length := by
          have := (List.getElem?_eq_some_iff.1 hi).1
          omega
        obtain ⟨k, hk, ha⟩ := h8 i _ (List.getElem?_eq_getElem hil)
        rw [hi] at hk
        cases hk
        obtain ⟨_, q2, hq2, hf2, _⟩ := above_ok ha
        exact ⟨nd q2, nd_at' hq2, hf2⟩
    · rcases List.mem_append.1 hq with hq | hq
      · exact h.pb q hq
      · simp only [List.mem_cons, List.not_mem_nil, or_false] at hq
        subst hq
        refine ⟨show c.ifs.length ≤ 1000000 by omega, strs_one _, show (c.ms.map hmOf).length ≤ 1000000 by rw [List.length_map]; omega, fun m hm => ?_, hc.1⟩
        obtain ⟨m0, hm0, rfl⟩ := List.mem_map.1 hm
        exact ⟨flatI_one _, show m0.code.length ≤ 1000000 by have := b3 m0 hm0; omega⟩
end Go.Proofs.YtfkdemkdkepmdaaGreat
