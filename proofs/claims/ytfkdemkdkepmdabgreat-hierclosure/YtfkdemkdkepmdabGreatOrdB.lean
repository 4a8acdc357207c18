/- Closures, plainly: what they begin with, in which order they are, and whence each of their numbers comes. -/
import Derived.Test.YtfkdemkdkepmdabGreatHrK
import Derived.Test.YtfkdemkdkepmdabGreatHrT
namespace Go.Proofs.YtfkdemkdkepmdabGreat
open Go.RowKit

/-- what the order of classes hangs on: is it an interface, its superclass, its closure -/
structure Nd where
  i : Bool
  sp : Nat
  cl : List Nat

structure WO (ns : List Nd) : Prop where
  top : ∃ n, ns[0]? = some n ∧ n.sp = 0 ∧ n.cl = [] ∧ n.i = false
  sp : ∀ (k : Nat) (n : Nd), 0 < k → ns[k]? = some n → n.sp < k ∧ (∀ p, ns[n.sp]? = some p → p.i = false ∧ ∀ i ∈ p.cl, i ∈ n.cl) ∧ (n.i = true → n.sp = 0)
  cl : ∀ (k : Nat) (n : Nd), ns[k]? = some n → n.cl.Nodup ∧ ∀ i ∈ n.cl, i < k ∧ ∃ p, ns[i]? = some p ∧ p.i = true ∧ ∀ j ∈ p.cl, j ∈ n.cl

def spO (ns : List Nd) (k : Nat) : Nat := match ns[k]? with
  | some n => n.sp
  | none => 0
def clO (ns : List Nd) (k : Nat) : List Nat := match ns[k]? with
  | some n => n.cl
  | none => []
def upF (ns : List Nd) : Nat → Nat → List Nat
  | 0, k => [k]
  | f + 1, k => k :: (if k = 0 then [] else upF ns f (spO ns k))
/-- the chain of a class -/
def chL (ns : List Nd) (k : Nat) : List Nat := upF ns k k
/-- does a extend b? -/
def extB (ns : List Nd) (a b : Nat) : Bool := (chL ns a).contains b || (clO ns a).contains b

theorem WO.spLt {ns : List Nd} (h : WO ns) {k : Nat} (hk : k < ns.length) (h0 : 0 < k) : spO ns k < k := by
  have e : ns[k]? = some ns[k] := List.getElem?_eq_getElem hk
  have := (h.sp k _ h0 e).1
  rw [spO, e]; exact this
theorem upF_eq {ns : List Nd} (h : WO ns) : ∀ (f g k : Nat), k ≤ f → k ≤ g → k < ns.length → upF ns f k = upF ns g k
  | 0, 0, _, _, _, _ => rfl
  | 0, g + 1, k, hf, _, _ => by
    obtain rfl : k = 0 := by omega
    rfl
  | f + 1, 0, k, _, hg, _ => by
    obtain rfl : k = 0 := by omega
    rfl
  | f + 1, g + 1, k, hf, hg, hk => by
    rw [upF, upF]
    by_cases h0 : k = 0
    · rw [if_pos h0, if_pos h0]
    · rw [if_neg h0, if_neg h0]
      have := h.spLt hk (by omega)
      rw [upF_eq h f g (spO ns k) (by omega) (by omega) (by omega)]
theorem chL_zero (ns : List Nd) : chL ns 0 = [0] := rfl
theorem chL_cons {ns : List Nd} (h : WO ns) {k : Nat} (hk : k < ns.length) (h0 : 0 < k) : chL ns k = k :: chL ns (spO ns k) := by
  have hs := h.spLt hk h0
  obtain ⟨j, rfl⟩ : ∃ j, k = j + 1 := ⟨k - 1, by omega⟩
  rw [chL, upF, if_neg (by omega), chL, upF_eq h j (spO ns (j + 1)) (spO ns (j + 1)) (by omega) (Nat.le_refl _) (by omega)]
theorem chL_self (ns : List Nd) (k : Nat) : k ∈ chL ns k := by
  cases k with
  | zero => simp [chL_zero]
  | succ k => simp [chL, upF]
/-- a chain, from its foot up -/
theorem ch_ind {ns : List Nd} (h : WO ns) {P : Nat → Prop} (h0 : P 0) (hs : ∀ k, k < ns.length → 0 < k → spO ns k < k → P (spO ns k) → P k) : ∀ k, k < ns.length → P k := by
  intro k
  induction k using Nat.strongRecOn with
  | _ k ih =>
    intro hk
    by_cases hz : k = 0
    · rw [hz]; exact h0
    · have := h.spLt hk (by omega)
      exact hs k hk (by omega) this (ih _ this (by omega))
theorem ch_pos {ns : List Nd} (a : Nat) : 0 < (chL ns a).length := by
  have := chL_self ns a
  exact List.length_pos_of_mem this
theorem cl_facts {ns : List Nd} (h : WO ns) {a i : Nat} (hi : i ∈ clO ns a) : i < a ∧ a < ns.length ∧ ∃ p, ns[i]? = some p ∧ p.i = true ∧ ∀ j ∈ p.cl, j ∈ clO ns a := by
  cases e : ns[a]? with
  | none => rw [clO, e] at hi; simp at hi
  | some n =>
    rw [clO, e] at hi ⊢
    obtain ⟨h1, h2⟩ := (h.cl a n e).2 i hi
    exact ⟨h1, (List.getElem?_eq_some_iff.1 e).1, h2⟩
theorem cl_nodup {ns : List Nd} (h : WO ns) (a : Nat) : (clO ns a).Nodup := by
  cases e : ns[a]? with
  | none => rw [clO, e]; simp
  | some n => rw [clO, e]; exact (h.cl a n e).1
/-- an interface's chain is itself and Object -/
theorem ch_iface {ns : List Nd} (h : WO ns) {b : Nat} {p : Nd} (hb : ns[b]? = some p) (hi : p.i = true) : ∀ c ∈ chL ns b, c = b ∨ c = 0 := by
  intro c hc
  have hl := (List.getElem?_eq_some_iff.1 hb).1
  by_cases hz : b = 0
  · subst hz; simp [chL_zero] at hc; exact .inl hc
  · have hs : spO ns b = 0 := by rw [spO, hb]; exact (h.sp b p (by omega) hb).2.2 hi
    rw [chL_cons h hl (by omega), hs, chL_zero] at hc
    simpa using hc
theorem ext_iff (ns : List Nd) (a b : Nat) : extB ns a b = true ↔ b ∈ chL ns a ∨ b ∈ clO ns a := by
  simp [extB]
/-- what is in a closure that is gathered -/
theorem takeL_iff (cl a : List Nat) (i : Nat) : i ∈ takeL cl a ↔ i ∈ cl ∨ i ∈ a := by
  induction a generalizing cl with
  | nil => simp [takeL]
  | cons x a ih =>
    rw [takeL, ih]
    split
    · rename_i hx
      have hx := List.contains_iff_mem.1 hx
      simp only [List.mem_cons]
      constructor
      · rintro (h | h)
        · exact .inl h
        · exact .inr (.inr h)
      · rintro (h | rfl | h)
        · exact .inl h
        · exact .inl hx
        · exact .inr h
    · simp only [List.mem_append, List.mem_cons, List.not_mem_nil, or_false, or_assoc]
theorem gathF_iff (cls : List (List Nat)) (ifs : List Nat) (c : List Nat) (i : Nat) : i ∈ ifs.foldl (gathF cls) c ↔ i ∈ c ∨ ∃ x ∈ ifs, i = x ∨ i ∈ cls.getD x [] := by
  induction ifs generalizing c with
  | nil => simp
  | cons x l ih =>
    rw [List.foldl_cons, ih, gathF, takeL_iff, takeL_iff]
    simp only [List.mem_cons, List.not_mem_nil, or_false, exists_eq_or_imp]
    constructor
    · rintro (((h | h) | h) | h)
      · exact .inl h
      · exact .inr (.inl (.inr h))
      · exact .inr (.inl (.inl h))
      · exact .inr (.inr h)
    · rintro (h | (h | h) | h)
      · exact .inl (.inl (.inl h))
      · exact .inl (.inr h)
      · exact .inl (.inl (.inr h))
      · exact .inr h
theorem gathL_iff (cls : List (List Nat)) (sup : Nat) (ifs : List Nat) (i : Nat) : i ∈ gathL cls sup ifs ↔ i ∈ cls.getD sup [] ∨ ∃ x ∈ ifs, i = x ∨ i ∈ cls.getD x [] := by
  rw [gathL, gathF_iff, takeL_iff]; simp
theorem gathL_nodup (cls : List (List Nat)) (sup : Nat) (ifs : List Nat) : (gathL cls sup ifs).Nodup := by
  have key : ∀ (l : List Nat) (c : List Nat), c.Nodup → (l.foldl (gathF cls) c).Nodup := by
    intro l
    induction l with
    | nil => exact fun c h => h
    | cons x l ih => exact fun c h => ih _ (takeL_nodup _ _ (takeL_nodup _ _ h))
  exact key _ _ (takeL_nodup _ _ (by simp))
theorem getD_cl (ns : List Nd) (k : Nat) : (ns.map Nd.cl).getD k [] = clO ns k := by
  rw [List.getD_eq_getElem?_getD, List.getElem?_map, clO]
  cases ns[k]? <;> rfl
/-- a class more -/
theorem WO.snoc {ns : List Nd} (h : WO ns) (ib : Bool) (s : Nat) (ifs : List Nat) (hs : ∃ p, ns[s]? = some p ∧ p.i = false) (hi : ib = true → s = 0) (hif : ∀ x ∈ ifs, ∃ p, ns[x]? = some p ∧ p.i = true) :
    WO (ns ++ [⟨ib, s, gathL (ns.map Nd.cl) s ifs⟩]) := by
  obtain ⟨ps, hps, hpi⟩ := hs
  have hsl := (List.getElem?_eq_some_iff.1 hps).1
  have old : ∀ (k : Nat) (n : Nd), (ns ++ [(⟨ib, s, gathL (ns.map Nd.cl) s ifs⟩ : Nd)])[k]? = some n → (k < ns.length ∧ ns[k]? = some n) ∨ (k = ns.length ∧ n = ⟨ib, s, gathL (ns.map Nd.cl) s ifs⟩) := by
    intro k n hk
    by_cases hl : k < ns.length
    · rw [List.getElem?_append_left hl] at hk; exact .inl ⟨hl, hk⟩
    · rw [List.getElem?_append_right (by omega)] at hk
      by_cases he : k = ns.length
      · subst he; simp at hk; exact .inr ⟨rfl, hk.symm⟩
      · rw [List.getElem?_eq_none (by simp; omega)] at hk; cases hk
  have up : ∀ (k : Nat) (p : Nd), ns[k]? = some p → (ns ++ [(⟨ib, s, gathL (ns.map Nd.cl) s ifs⟩ : Nd)])[k]? = some p := fun k p hk => by
    rw [List.getElem?_append_left (List.getElem?_eq_some_iff.1 hk).1]; exact hk
  have mem : ∀ i, i ∈ gathL (ns.map Nd.cl) s ifs ↔ i ∈ clO ns s ∨ ∃ x ∈ ifs, i = x ∨ i ∈ clO ns x := fun i => by rw [gathL_iff, getD_cl]; simp only [getD_cl]
  refine ⟨?_, ?_, ?_⟩
  · obtain ⟨n, h1, h2⟩ := h.top
    exact ⟨n, up _ _ h1, h2⟩
  · intro k n h0 hk
    rcases old k n hk with ⟨hl, hk⟩ | ⟨rfl, rfl⟩
    · obtain ⟨h1, h2, h3⟩ := h.sp k n h0 hk
      refine ⟨h1, fun p hp => ?_, h3⟩
      rw [List.getElem?_append_left (by omega)] at hp
      exact h2 p hp
    · refine ⟨hsl, fun p hp => ?_, hi⟩
      rw [List.getElem?_append_left hsl, hps] at hp
      cases hp
      refine ⟨hpi, fun i hc => (mem i).2 (.inl ?_)⟩
      rw [clO, hps]; exact hc
  · intro k n hk
    rcases old k n hk with ⟨hl, hk⟩ | ⟨rfl, rfl⟩
    · obtain ⟨h1, h2⟩ := h.cl k n hk
      refine ⟨h1, fun i hc => ?_⟩
      obtain ⟨h3, p, hp, h4⟩ := h2 i hc
      exact ⟨h3, p, up _ _ hp, h4⟩
    · refine ⟨gathL_nodup _ _ _, fun i hc => ?_⟩
      rcases (mem i).1 hc with hc | ⟨x, hx, rfl | hc⟩
      · obtain ⟨h1, h2, p, hp, h3, h4⟩ := cl_facts h hc
        exact ⟨by omega, p, up _ _ hp, h3, fun j hj => (mem j).2 (.inl (h4 j hj))⟩
      · obtain ⟨p, hp, h3⟩ := hif i hx
        refine ⟨(List.getElem?_eq_some_iff.1 hp).1, p, up _ _ hp, h3, fun j hj => (mem j).2 (.inr ⟨i, hx, .inr ?_⟩)⟩
        rw [clO, hp]; exact hj
      · obtain ⟨h1, h2, p, hp, h3, h4⟩ := cl_facts h hc
        exact ⟨by omega, p, up _ _ hp, h3, fun j hj => (mem j).2 (.inr ⟨x, hx, .inr (h4 j hj)⟩)⟩

def nd (q : Plc) : Nd := ⟨ifB q.c.fl, q.sp, q.cl⟩


theorem nd_at' {ps : List Plc} {k : Nat} {q : Plc} (h : ps[k]? = some q) : (ps.map nd)[k]? = some (nd q) := by rw [List.getElem?_map, h]; rfl
structure WI (ps : List Plc) : Prop where
  wo : WO (ps.map nd)
  pb : ∀ q ∈ ps, PlcB q
  lo : 3 ≤ ps.length
  hi : ps.length ≤ 300

theorem WI.nm {ps : List Plc} (h : WI ps) : ∀ q ∈ ps, q.c.nm.size ≤ maxLen := fun q hq => (h.pb q hq).nm

theorem wi3 : WI P3 := by
  refine ⟨⟨⟨nd ⟨objH, 0, []⟩, rfl, rfl, rfl, by decide⟩, ?_, ?_⟩, ?_, by decide, by decide⟩
  · intro k n h0 hk
    match k, hk with
    | 1, hk => simp [P3] at hk; subst hk; exact ⟨Nat.zero_lt_one, fun p hp => by simp [nd, P3] at hp; subst hp; exact ⟨by decide, fun i hi => by simp at hi⟩, fun _ => rfl⟩
    | 2, hk => simp [P3] at hk; subst hk; exact ⟨by show 0 < 2; decide, fun p hp => by simp [nd, P3] at hp; subst hp; exact ⟨by decide, fun i hi => by simp at hi⟩, fun _ => rfl⟩
    | (k + 3), hk => simp [P3] at hk
  · intro k n hk
    have hm : n ∈ P3.map nd := List.mem_of_getElem? hk
    simp [P3] at hm
    rcases hm with rfl | rfl | rfl <;> exact ⟨by simp [nd], fun i hi => by simp [nd] at hi⟩
  · intro q hq
    simp only [P3, List.mem_cons, List.not_mem_nil, or_false] at hq
    rcases hq with rfl | rfl | rfl
    · exact ⟨by decide, by decide, by decide, by decide, by decide⟩
    · exact ⟨by decide, by decide, by decide, by decide, by decide⟩
    · exact ⟨by decide, by decide, by decide, by decide, by decide⟩

/-- what is known of a class that is taken -/
theorem def_ok {ps : List Plc} {c : Cls} {p : Plc} (h : defN ps c = .ok p) : clsB c = true ∧ ps.length < 300 ∧ lookL ps c.nm.data.toList = none ∧ ∃ s l, aboveN ps c.nm c.ld (fitS c.fl) c.su.data.toList = .ok s ∧ ifsN ps c.nm c.ld [] c.ifs = .ok l ∧ p = ⟨hcOf c, s, gathL (ps.map Plc.cl) s l⟩ := by
  unfold defN at h
  by_cases h1 : clsB c = true
  · rw [if_pos h1] at h
    by_cases h2 : 300 ≤ ps.length
    · rw [if_pos h2] at h; cases h
    · rw [if_neg h2] at h
      cases h3 : lookL ps c.nm.data.toList with
      | some k => rw [h3] at h; cases h
      | none =>
        rw [h3] at h
        simp only at h
        cases h4 : aboveN ps c.nm c.ld (fitS c.fl) c.su.data.toList with
        | error e => rw [h4] at h; cases h
        | ok s =>
          rw [h4] at h
          simp only at h
          cases h5 : ifsN ps c.nm c.ld [] c.ifs with
          | error e => rw [h5] at h; cases h
          | ok l =>
            rw [h5] at h
            simp only at h
            cases h
            exact ⟨h1, by omega, rfl, s, l, rfl, rfl, rfl⟩
  · rw [if_neg h1] at h; cases h

theorem WI.define {ps : List Plc} (h : WI ps) (c : Cls) (hc : ClsW c) : WI (dfP ps (defN ps c)) := by
  cases hd : defN ps c with
  | error e => exact h
  | ok p =>
    obtain ⟨h1, h2, _, s, l, h4, h5, rfl⟩ := def_ok hd
    obtain ⟨b1, b2, b3⟩ := cls_bound h1
    show WI (ps ++ [_])
    refine ⟨?_, fun q hq => ?_, by simp; have := h.lo; omega, by simp; omega⟩
    · obtain ⟨_, q, hq, hf, _⟩ := above_ok h4
      obtain ⟨t, ht, _, _, h8⟩ := ifs_ok _ _ _ h5
      simp only [List.nil_append] at ht
      subst ht
      simp only [fitS, Bool.and_eq_true, Bool.not_eq_true', Bool.or_eq_true, decide_eq_true_eq] at hf
      have hmap : (ps.map nd).map Nd.cl = ps.map Plc.cl := by rw [List.map_map]; rfl
      have := h.wo.snoc (ifB c.fl) s l ⟨nd q, nd_at' hq, hf.1⟩ (fun hi => hf.2.resolve_right (fun h0 => by rw [hi] at h0; cases h0)) (fun x hx => ?_)
      · rw [hmap] at this
        rw [List.map_append]
        exact this
      · obtain ⟨i, hi⟩ := List.mem_iff_getElem?.1 hx
        have hil : i < c.ifs.length := by
          have := (List.getElem?_eq_some_iff.1 hi).1
          omega
        obtain ⟨k, hk, ha⟩ := h8 i _ (List.getElem?_eq_getElem hil)
        rw [hi] at hk
        cases hk
        obtain ⟨_, q2, hq2, hf2, _⟩ := above_ok ha
        exact ⟨nd q2, nd_at' hq2, hf2⟩
    · rcases List.mem_append.1 hq with hq | hq
      · exact h.pb q hq
      · simp only [List.mem_cons, List.not_mem_nil, or_false] at hq
        subst hq
        refine ⟨show c.ifs.length ≤ 1000000 by omega, strs_one _, show (c.ms.map hmOf).length ≤ 1000000 by rw [List.length_map]; omega, fun m hm => ?_, hc.1⟩
        obtain ⟨m0, hm0, rfl⟩ := List.mem_map.1 hm
        exact ⟨flatI_one _, show m0.code.length ≤ 1000000 by have := b3 m0 hm0; omega⟩


/-- each stands behind all that it extends -/
def Ordd (cls : Nat → List Nat) (l : List Nat) : Prop := ∀ i x, l[i]? = some x → ∀ y ∈ cls x, y ∈ l.take i

theorem take_sub {l m : List Nat} {i : Nat} {y : Nat} (h : y ∈ l.take i) : y ∈ (l ++ m).take i := by
  rw [List.take_append]; exact List.mem_append.2 (.inl h)
theorem ordd_snoc {cls : Nat → List Nat} {l : List Nat} {x : Nat} (h : Ordd cls l) (hx : ∀ y ∈ cls x, y ∈ l) : Ordd cls (l ++ [x]) := by
  intro i z hz y hy
  by_cases hi : i < l.length
  · rw [List.getElem?_append_left hi] at hz
    exact take_sub (h i z hz y hy)
  · rw [List.getElem?_append_right (by omega)] at hz
    by_cases he : i = l.length
    · subst he
      simp at hz
      subst hz
      rw [List.take_append, List.take_of_length_le (Nat.le_refl _)]
      exact List.mem_append.2 (.inl (hx y hy))
    · rw [List.getElem?_eq_none (by simp; omega)] at hz; cases hz
theorem ordd_pre {cls : Nat → List Nat} {l m : List Nat} (h : Ordd cls (l ++ m)) : Ordd cls l := by
  intro i x hx y hy
  have hi := (List.getElem?_eq_some_iff.1 hx).1
  have := h i x (by rw [List.getElem?_append_left hi]; exact hx) y hy
  rw [List.take_append] at this
  rcases List.mem_append.1 this with h1 | h1
  · exact h1
  · rw [show i - l.length = 0 by omega] at h1; simp at h1
theorem ordd_take {cls : Nat → List Nat} (c a : List Nat) (hc : Ordd cls c) (ha : Ordd cls a) : Ordd cls (takeL c a) := by
  obtain ⟨n, hn⟩ : ∃ n, a.length = n := ⟨_, rfl⟩
  induction n generalizing a with
  | zero =>
    have : a = [] := List.length_eq_zero_iff.1 hn
    subst this
    exact hc
  | succ n ih =>
    rcases List.eq_nil_or_concat a with e | ⟨a, x, e⟩
    · rw [e] at hn; simp at hn
    · rw [List.concat_eq_append] at e
      subst e
      have h1 := ih a (ordd_pre ha) (by simpa using hn)
      rw [takeL_snoc]
      split
      · exact h1
      · refine ordd_snoc h1 (fun y hy => (takeL_iff _ _ _).2 (.inr ?_))
        have := ha a.length x (by simp) y hy
        rw [List.take_append, List.take_of_length_le (Nat.le_refl _)] at this
        simpa using this
theorem take_nil (a : List Nat) (h : a.Nodup) : takeL [] a = a := by
  have key : ∀ (a c : List Nat), (c ++ a).Nodup → takeL c a = c ++ a := by
    intro a
    induction a with
    | nil => intro c _; simp [takeL]
    | cons x a ih =>
      intro c hn
      have hx : ¬ c.contains x = true := fun hc => by
        have := List.contains_iff_mem.1 hc
        rw [List.nodup_append] at hn
        exact hn.2.2 x this x (by simp) rfl
      rw [takeL, if_neg hx, ih _ (by simpa using hn)]
      simp
  simpa using key a [] (by simpa using h)
theorem take_pre (c a : List Nat) : c <+: takeL c a := by
  induction a generalizing c with
  | nil => exact List.prefix_refl _
  | cons x a ih =>
    rw [takeL]
    split
    · exact ih c
    · exact (List.prefix_append c [x]).trans (ih _)
theorem gath_pre (cls : List (List Nat)) (sup : Nat) (ifs : List Nat) (h : (cls.getD sup []).Nodup) : cls.getD sup [] <+: gathL cls sup ifs := by
  have key : ∀ (l c : List Nat), c <+: l.foldl (gathF cls) c := by
    intro l
    induction l with
    | nil => exact fun c => List.prefix_refl _
    | cons x l ih => exact fun c => ((take_pre c _).trans (take_pre _ _)).trans (ih _)
  rw [gathL, take_nil _ h]
  exact key ifs _
theorem gath_ordd (cls : List (List Nat)) (sup : Nat) (ifs : List Nat) (hs : Ordd (fun k => cls.getD k []) (cls.getD sup [])) (hi : ∀ x ∈ ifs, Ordd (fun k => cls.getD k []) (cls.getD x [])) : Ordd (fun k => cls.getD k []) (gathL cls sup ifs) := by
  have key : ∀ (l c : List Nat), (∀ x ∈ l, Ordd (fun k => cls.getD k []) (cls.getD x [])) → Ordd (fun k => cls.getD k []) c → Ordd (fun k => cls.getD k []) (l.foldl (gathF cls) c) := by
    intro l
    induction l with
    | nil => exact fun c _ h => h
    | cons x l ih =>
      intro c hl h
      refine ih _ (fun y hy => hl y (List.mem_cons_of_mem _ hy)) ?_
      have h1 := ordd_take c _ h (hl x (by simp))
      show Ordd _ (takeL (takeL c (cls.getD x [])) [x])
      rw [takeL, takeL]
      split
      · exact h1
      · exact ordd_snoc h1 (fun y hy => (takeL_iff _ _ _).2 (.inr hy))
  exact key ifs _ hi (ordd_take _ _ (fun i x h => by simp at h) hs)

/-- whence the closure of the place k comes -/
def PC (ps : List Plc) (k : Nat) (q : Plc) : Prop := ∃ (names : List (List UInt8)) (ks : List Nat), q.c.xi = strsV names ∧ q.c.ni = names.length ∧ (∀ p ∈ names, p.length ≤ maxLen) ∧ ks.length = names.length ∧ (∀ (i : Nat) (p : List UInt8), names[i]? = some p → ∃ j, ks[i]? = some j ∧ lookL ps p = some j) ∧ (∀ j ∈ ks, j < k) ∧ q.cl = gathL (ps.map Plc.cl) q.sp ks
def WJ (ps : List Plc) : Prop := ∀ (k : Nat) (q : Plc), ps[k]? = some q → PC ps k q

theorem gathL_ext {cls cls2 : List (List Nat)} {sup : Nat} {ifs : List Nat} (hs : cls.getD sup [] = cls2.getD sup []) (hi : ∀ x ∈ ifs, cls.getD x [] = cls2.getD x []) : gathL cls sup ifs = gathL cls2 sup ifs := by
  have key : ∀ (l c : List Nat), (∀ x ∈ l, cls.getD x [] = cls2.getD x []) → l.foldl (gathF cls) c = l.foldl (gathF cls2) c := by
    intro l
    induction l with
    | nil => exact fun c _ => rfl
    | cons x l ih =>
      intro c hl
      rw [List.foldl_cons, List.foldl_cons, gathF, gathF, hl x (by simp)]
      exact ih _ (fun y hy => hl y (List.mem_cons_of_mem _ hy))
  rw [gathL, gathL, hs]
  exact key ifs _ hi
theorem getD_snoc (ps : List Plc) (p : Plc) {j : Nat} (hj : j < ps.length) : ((ps ++ [p]).map Plc.cl).getD j [] = (ps.map Plc.cl).getD j [] := by
  rw [List.map_append, List.getD_eq_getElem?_getD, List.getD_eq_getElem?_getD, List.getElem?_append_left (by simpa using hj)]
theorem lookF_snoc (key : List UInt8) (p : Plc) : ∀ (l : List Plc) (k : Nat), lookF key k (l ++ [p]) = if nameL p = key then some (k + l.length) else lookF key k l
  | [], k => by simp [lookF]
  | q :: l, k => by
    rw [List.cons_append, lookF, lookF_snoc key p l (k + 1), lookF]
    by_cases h : nameL p = key
    · rw [if_pos h, if_pos h]
      simp only [List.length_cons]
      congr 1
      omega
    · rw [if_neg h, if_neg h]
theorem look_snoc {ps : List Plc} {p : Plc} {key : List UInt8} {j : Nat} (h : lookL ps key = some j) (hp : lookL ps (nameL p) = none) : lookL (ps ++ [p]) key = some j := by
  rw [lookL, lookF_snoc, if_neg]
  · exact h
  · intro e
    rw [e, h] at hp
    cases hp

theorem wj3 : WJ P3 := by
  intro k q hk
  match k, hk with
  | 0, hk => cases hk; exact ⟨[], [], rfl, rfl, fun p hp => by simp at hp, rfl, fun i p hp => by simp at hp, fun j hj => by simp at hj, rfl⟩
  | 1, hk => cases hk; exact ⟨[], [], rfl, rfl, fun p hp => by simp at hp, rfl, fun i p hp => by simp at hp, fun j hj => by simp at hj, rfl⟩
  | 2, hk => cases hk; exact ⟨[], [], rfl, rfl, fun p hp => by simp at hp, rfl, fun i p hp => by simp at hp, fun j hj => by simp at hj, rfl⟩
  | (k + 3), hk => simp [P3] at hk

theorem WJ.define {ps : List Plc} (hW : WI ps) (h : WJ ps) (c : Cls) (hc : ClsW c) : WJ (dfP ps (defN ps c)) := by
  cases hd : defN ps c with
  | error e => exact h
  | ok p =>
    obtain ⟨h1, h2, h3, s, l, h4, h5, rfl⟩ := def_ok hd
    show WJ (ps ++ [_])
    obtain ⟨_, q0, hq0, _, _⟩ := above_ok h4
    obtain ⟨t, ht, htl, htn, h8⟩ := ifs_ok _ _ _ h5
    simp only [List.nil_append] at ht
    subst ht
    have hsl := (List.getElem?_eq_some_iff.1 hq0).1
    intro k q hk
    by_cases hkl : k < ps.length
    · rw [List.getElem?_append_left hkl] at hk
      obtain ⟨names, ks, e1, e2, e3, e4, e5, e6, e7⟩ := h k q hk
      have hsp : q.sp < ps.length := by
        by_cases hz : k = 0
        · subst hz
          obtain ⟨n0, hn0, hn1, _⟩ := hW.wo.top
          rw [nd_at' hk] at hn0
          cases hn0
          rw [show q.sp = 0 from hn1]; have := hW.lo; omega
        · have := (hW.wo.sp k (nd q) (by omega) (nd_at' hk)).1
          have : q.sp < k := this
          omega
      refine ⟨names, ks, e1, e2, e3, e4, fun i p hi => ?_, e6, ?_⟩
      · obtain ⟨j, f1, f2⟩ := e5 i p hi
        exact ⟨j, f1, look_snoc f2 h3⟩
      · rw [e7]
        refine gathL_ext (getD_snoc ps _ hsp).symm (fun x hx => (getD_snoc ps _ ?_).symm)
        have := e6 x hx
        omega
    · have he : k = ps.length := by
        have := (List.getElem?_eq_some_iff.1 hk).1
        simp at this
        omega
      subst he
      rw [List.getElem?_append_right (Nat.le_refl _), Nat.sub_self] at hk
      simp at hk
      subst hk
      refine ⟨c.ifs, l, rfl, rfl, hc.2.2.1, htl, fun i p hi => ?_, htn, ?_⟩
      · obtain ⟨j, f1, f2⟩ := h8 i p hi
        exact ⟨j, f1, look_snoc (above_ok f2).1 h3⟩
      · exact gathL_ext (getD_snoc ps _ hsl).symm (fun x hx => (getD_snoc ps _ (htn x hx)).symm)

theorem getD_cl2 (ps : List Plc) (k : Nat) : (ps.map Plc.cl).getD k [] = clO (ps.map nd) k := by
  rw [← getD_cl, List.map_map]; rfl
/-- all closures are in order -/
theorem cl_ordd {ps : List Plc} (hW : WI ps) (h : WJ ps) : ∀ k, Ordd (clO (ps.map nd)) (clO (ps.map nd) k) := by
  intro k
  induction k using Nat.strongRecOn with
  | _ k ih =>
    cases hq : ps[k]? with
    | none =>
      have : clO (ps.map nd) k = [] := by rw [clO, List.getElem?_map, hq]; rfl
      rw [this]; intro i x hx; simp at hx
    | some q =>
      obtain ⟨names, ks, _, _, _, _, _, e6, e7⟩ := h k q hq
      have hcl : clO (ps.map nd) k = q.cl := by rw [clO, nd_at' hq]; rfl
      have hf : (fun k => (ps.map Plc.cl).getD k []) = clO (ps.map nd) := funext (getD_cl2 ps)
      by_cases hz : k = 0
      · subst hz
        obtain ⟨n0, hn0, _, hn2, _⟩ := hW.wo.top
        rw [nd_at' hq] at hn0
        cases hn0
        rw [hcl, show q.cl = [] from hn2]
        intro i x hx; simp at hx
      · have hsp : q.sp < k := (hW.wo.sp k (nd q) (by omega) (nd_at' hq)).1
        rw [hcl, e7, ← hf]
        refine gath_ordd _ _ _ ?_ (fun x hx => ?_)
        · rw [getD_cl2, hf]; exact ih q.sp hsp
        · rw [getD_cl2, hf]; exact ih x (e6 x hx)
/-- of two that stand in a closure the first does not extend the second -/
theorem cl_before {ps : List Plc} (hW : WI ps) (h : WJ ps) {k i j x y : Nat} (hi : (clO (ps.map nd) k)[i]? = some x) (hj : (clO (ps.map nd) k)[j]? = some y) (hij : i < j) : x ≠ y ∧ extB (ps.map nd) x y = false := by
  have hnd := cl_nodup hW.wo k
  have hil := (List.getElem?_eq_some_iff.1 hi)
  have hjl := (List.getElem?_eq_some_iff.1 hj)
  have hne : x ≠ y := fun e => by
    subst e
    have := (List.getElem_inj hnd).1 (hil.2.trans hjl.2.symm)
    omega
  refine ⟨hne, ?_⟩
  cases he : extB (ps.map nd) x y with
  | false => rfl
  | true =>
    exfalso
    obtain ⟨_, _, px, hpx, hix, _⟩ := cl_facts hW.wo (List.mem_of_getElem? hi)
    obtain ⟨_, _, py, hpy, hiy, _⟩ := cl_facts hW.wo (List.mem_of_getElem? hj)
    rcases (ext_iff _ _ _).1 he with h1 | h1
    · rcases ch_iface hW.wo hpx hix y h1 with e | e
      · exact hne e.symm
      · subst e
        obtain ⟨n0, hn0, _, _, hn3⟩ := hW.wo.top
        rw [hn0] at hpy
        cases hpy
        rw [hn3] at hiy; cases hiy
    · have h2 := cl_ordd hW h k i x hi y h1
      obtain ⟨m, hm⟩ := List.mem_iff_getElem?.1 h2
      have hml := (List.getElem?_eq_some_iff.1 hm).1
      rw [List.length_take] at hml
      rw [List.getElem?_take_of_lt (by omega)] at hm
      have hmk := List.getElem?_eq_some_iff.1 hm
      have := (List.getElem_inj hnd).1 (hmk.2.trans hjl.2.symm)
      omega
/-- a closure begins with the superclass's -/
theorem cl_begins {ps : List Plc} (hW : WI ps) (h : WJ ps) {k : Nat} {q : Plc} (hq : ps[k]? = some q) : clO (ps.map nd) q.sp <+: q.cl := by
  obtain ⟨names, ks, _, _, _, _, _, _, e7⟩ := h k q hq
  rw [e7, ← getD_cl2]
  exact gath_pre _ _ _ (by rw [getD_cl2]; exact cl_nodup hW.wo _)
end Go.Proofs.YtfkdemkdkepmdabGreat
