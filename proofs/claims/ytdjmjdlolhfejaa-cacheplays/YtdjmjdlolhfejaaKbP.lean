/- A cache and the document's: each set is what the document's one list has of it (plain). -/
import Derived.Test.YtdjmjdlolhfejaaKbQ
namespace Go.Proofs.Ytdjmjdlolhfejaa
open Go.RowKit Go.Maps

/-- of this set -/
def pj (N j : Nat) : Int × Int → Bool := fun x => sIx N x.1 == j
theorem tkM_flt {N j : Nat} {key : Int} (hj : sIx N key = j) : ∀ L : List (Int × Int), tkM key (L.filter (pj N j)) = (tkM key L).map fun q => (q.1, q.2.filter (pj N j))
  | [] => rfl
  | x :: r => by
    have ih := tkM_flt hj r
    cases e : x.1 == key
    · cases hp : pj N j x
      · rw [List.filter_cons_of_neg (by simp [hp]), ih]
        simp only [tkM, e, Bool.false_eq_true, if_false, Option.map_map]
        congr 1
        funext q
        simp [hp]
      · rw [List.filter_cons_of_pos hp]
        simp only [tkM, e, Bool.false_eq_true, if_false, ih, Option.map_map]
        congr 1
        funext q
        simp [hp]
    · have hp : pj N j x = true := by simp only [pj, beq_iff_eq]; rw [beq_iff_eq.1 e]; exact hj
      rw [List.filter_cons_of_pos hp]
      simp [tkM, e]
theorem flt_cut {p : Int × Int → Bool} {a b : List (Int × Int)} {x : Int × Int} (h : p x = false) : (a ++ x :: b).filter p = (a ++ b).filter p := by
  rw [List.filter_append, List.filter_append, List.filter_cons_of_neg (by simp [h])]
theorem tkM_flt_ne {N j : Nat} {key : Int} (hj : sIx N key ≠ j) {L L1 : List (Int × Int)} {x : Int × Int} (h : tkM key L = some (x, L1)) : L1.filter (pj N j) = L.filter (pj N j) := by
  obtain ⟨h1, _, a, b, rfl, rfl⟩ := tkM_spec h
  rw [flt_cut]
  simp only [pj, beq_eq_false_iff_ne, ne_eq, h1]; exact hj
theorem tkM_first {key y : Int} : ∀ {L : List (Int × Int)} {i : Nat}, L[i]? = some (key, y) → (∀ x ∈ L.take i, x.1 ≠ key) → tkM key L = some ((key, y), L.take i ++ L.drop (i + 1))
  | [], i, h, _ => by simp at h
  | x :: r, 0, h, _ => by
    simp at h; subst h
    simp [tkM]
  | x :: r, i + 1, h, hn => by
    have e : (x.1 == key) = false := by simpa using hn x (by simp)
    have ih := tkM_first (L := r) (i := i) (by simpa using h) (fun u hu => hn u (by simp [hu]))
    simp [tkM, e, ih]
theorem tkM_of_no {key : Int} : ∀ {L : List (Int × Int)}, (∀ x ∈ L, x.1 ≠ key) → tkM key L = none
  | [], _ => rfl
  | x :: r, h => by
    have e : (x.1 == key) = false := by simpa using h x (by simp)
    simp [tkM, e, tkM_of_no (L := r) (fun u hu => h u (by simp [hu]))]
/-- a cache's sets and the document's list -/
structure RelC (cap : Nat) (ss : List (List (Int × Int))) (L : List (Int × Int)) : Prop where
  inv : InvC cap ss
  flt : ∀ (j : Nat) (l : List (Int × Int)), ss[j]? = some l → l = L.filter (pj ss.length j)
  emp : cap = 0 → L = []
  once : Once L
theorem RelC.new (cap : Nat) : RelC cap (List.replicate ((cap + 1) / 2) []) [] := by
  refine ⟨InvC.new cap, fun j l hj => ?_, fun _ => rfl, by simp [Once]⟩
  have := List.mem_of_getElem? hj
  rw [List.mem_replicate] at this
  rw [this.2]; rfl
theorem RelC.set {cap : Nat} {ss : List (List (Int × Int))} {L L' l l' : List (Int × Int)} {j : Nat} (h : RelC cap ss L) (hc : 1 ≤ cap) (hl : ss[j]? = some l) (hi : InvC cap (ss.set j l')) (h1 : l' = L'.filter (pj ss.length j)) (h2 : ∀ k, k ≠ j → L'.filter (pj ss.length k) = L.filter (pj ss.length k)) (ho : Once L') : RelC cap (ss.set j l') L' := by
  have hj := (List.getElem?_eq_some_iff.1 hl).1
  refine ⟨hi, fun i u hu => ?_, fun e => by omega, ho⟩
  rw [set_len]
  by_cases e : i = j
  · subst e
    rw [List.getElem?_set_self hj] at hu
    cases hu
    exact h1
  · rw [List.getElem?_set_ne (fun x => e x.symm)] at hu
    rw [h2 i e]; exact h.flt i u hu
theorem RelC.zero {ss : List (List (Int × Int))} {L : List (Int × Int)} (h : RelC 0 ss L) : ss = [] ∧ L = [] := ⟨List.length_eq_zero_iff.1 (by rw [h.inv.len]), h.emp rfl⟩
theorem RelC.pick {cap : Nat} {ss : List (List (Int × Int))} {L : List (Int × Int)} (h : RelC cap ss L) (hc : 1 ≤ cap) (key : Int) : ∃ l, ss[sIx ss.length key]? = some l ∧ l = L.filter (pj ss.length (sIx ss.length key)) ∧ Once l ∧ l.length ≤ rmN cap (sIx ss.length key) := by
  have hn : 0 < ss.length := by rw [h.inv.len]; omega
  obtain ⟨l, hl⟩ : ∃ l, ss[sIx ss.length key]? = some l := ⟨_, List.getElem?_eq_getElem (sIx_lt hn key)⟩
  exact ⟨l, hl, h.flt _ l hl, (h.inv.once _ l hl).1, (h.inv.once _ l hl).2.1⟩
theorem get_rel {cap : Nat} {ss : List (List (Int × Int))} {L : List (Int × Int)} (h : RelC cap ss L) (key : Int) : (fdSS key ss).1 = (fdS key L).1 ∧ (fdSS key ss).2.1 = (fdS key L).2.1 ∧ RelC cap (fdSS key ss).2.2 (fdS key L).2.2 := by
  by_cases hc : cap = 0
  · subst hc
    obtain ⟨rfl, rfl⟩ := h.zero
    exact ⟨rfl, rfl, h⟩
  obtain ⟨l, hl, hf, ho, _⟩ := h.pick (by omega) key
  have hI := (fdSS_spec h.inv key).1
  have e : fdSS key ss = ((fdS key l).1, (fdS key l).2.1, ss.set (sIx ss.length key) (fdS key l).2.2) := by simp only [fdSS, hl]
  rw [e] at hI ⊢
  have ht := tkM_flt (N := ss.length) (key := key) rfl L
  rw [← hf] at ht
  cases hk : tkM key L with
  | none =>
    rw [hk] at ht
    have e1 : fdS key l = (0, false, l) := by rw [fdS, ht]; rfl
    have e2 : fdS key L = (0, false, L) := by rw [fdS, hk]
    rw [e1] at hI ⊢
    rw [e2]
    exact ⟨rfl, rfl, h.set (by omega) hl hI hf (fun _ _ => rfl) h.once⟩
  | some p =>
    obtain ⟨x, L1⟩ := p
    rw [hk] at ht
    have e1 : fdS key l = (x.2, true, x :: L1.filter (pj ss.length (sIx ss.length key))) := by rw [fdS, ht]; rfl
    have e2 : fdS key L = (x.2, true, x :: L1) := by rw [fdS, hk]
    rw [e1] at hI ⊢
    rw [e2]
    have hx : x.1 = key := (tkM_spec hk).1
    obtain ⟨o1, o2, _⟩ := h.once.tk hk
    refine ⟨rfl, rfl, h.set (by omega) hl hI ?_ ?_ (o1.cons (fun y hy => by rw [hx]; exact (o2 y hy).2))⟩
    · rw [List.filter_cons_of_pos (by simp [pj, hx])]
    · intro k hk2
      rw [List.filter_cons_of_neg (by simp only [pj, hx, beq_iff_eq]; exact fun e => hk2 e.symm)]
      exact tkM_flt_ne (fun e => hk2 e.symm) hk
theorem cnF_flt (N j : Nat) : ∀ L : List (Int × Int), cnF (sIx N) j L = (L.filter (pj N j)).length
  | [] => rfl
  | x :: r => by
    by_cases e : sIx N x.1 = j
    · rw [cnF, if_pos e, List.filter_cons_of_pos (by simp [pj, e]), cnF_flt N j r, List.length_cons]; omega
    · rw [cnF, if_neg e, List.filter_cons_of_neg (by simp [pj, e]), cnF_flt N j r]; omega
theorem rrm_eq {cap j : Nat} (h : j < (cap + 1) / 2) : rrmV cap j = rmN cap j := by
  unfold rrmV rmN
  split <;> omega
/-- the document's Put -/
def dpS (N cap : Nat) (x : Int × Int) (L : List (Int × Int)) : (Int × Int) × Bool × List (Int × Int) := match tkM x.1 L with
  | some p => ((0, 0), false, x :: p.2)
  | none => if cnF (sIx N) (sIx N x.1) (x :: L) ≤ rrmV cap (sIx N x.1) then ((0, 0), false, x :: L) else match (x :: L)[laF (sIx N) (sIx N x.1) (x :: L) 0 0]? with
    | none => ((0, 0), false, x :: L)
    | some z => (z, true, (x :: L).take (laF (sIx N) (sIx N x.1) (x :: L) 0 0) ++ (x :: L).drop (laF (sIx N) (sIx N x.1) (x :: L) 0 0 + 1))
theorem put_rel {cap : Nat} {ss : List (List (Int × Int))} {L : List (Int × Int)} (h : RelC cap ss L) (hc : 1 ≤ cap) (x : Int × Int) : (ptSS cap x ss).1 = (dpS ss.length cap x L).1 ∧ (ptSS cap x ss).2.1 = (dpS ss.length cap x L).2.1 ∧ RelC cap (ptSS cap x ss).2.2 (dpS ss.length cap x L).2.2 := by
  obtain ⟨l, hl, hf, ho, hr⟩ := h.pick hc x.1
  have hn : 0 < ss.length := by rw [h.inv.len]; omega
  have hlt := sIx_lt hn x.1
  have hI := (ptSS_spec h.inv hc x).1
  have e : ptSS cap x ss = ((ptS (rmN cap (sIx ss.length x.1)) x l).1, (ptS (rmN cap (sIx ss.length x.1)) x l).2.1, ss.set (sIx ss.length x.1) (ptS (rmN cap (sIx ss.length x.1)) x l).2.2) := by simp only [ptSS, hl]
  have hroom : rrmV cap (sIx ss.length x.1) = rmN cap (sIx ss.length x.1) := rrm_eq (by rw [← h.inv.len]; exact hlt)
  have hr1 : 1 ≤ rmN cap (sIx ss.length x.1) := by have := h.inv.len; unfold rmN; omega
  rw [e] at hI ⊢
  have ht := tkM_flt (N := ss.length) (key := x.1) rfl L
  rw [← hf] at ht
  have hxj : pj ss.length (sIx ss.length x.1) x = true := by simp [pj]
  have hxk : ∀ k, k ≠ sIx ss.length x.1 → ¬ pj ss.length k x = true := fun k hk => by simp only [pj, beq_iff_eq]; exact fun e => hk e.symm
  cases hk : tkM x.1 L with
  | some p =>
    obtain ⟨y, L1⟩ := p
    rw [hk] at ht
    have hy : y.1 = x.1 := (tkM_spec hk).1
    have er : rmS x.1 l = L1.filter (pj ss.length (sIx ss.length x.1)) := by rw [rmS, ht]; rfl
    have hlen : (rmS x.1 l).length ≠ rmN cap (sIx ss.length x.1) := by
      have := tkM_len (l := l) (l' := L1.filter (pj ss.length (sIx ss.length x.1))) (x := y) (by rw [ht]; rfl)
      rw [er]; omega
    rw [ptS_room hlen, er] at hI ⊢
    have e2 : dpS ss.length cap x L = ((0, 0), false, x :: L1) := by rw [dpS, hk]
    rw [e2]
    obtain ⟨o1, o2, _⟩ := h.once.tk hk
    refine ⟨rfl, rfl, h.set hc hl hI ?_ ?_ (o1.cons (fun u hu => (o2 u hu).2))⟩
    · rw [List.filter_cons_of_pos hxj]
    · intro k hk2
      rw [List.filter_cons_of_neg (hxk k hk2)]
      exact tkM_flt_ne (fun e => hk2 e.symm) hk
  | none =>
    rw [hk] at ht
    have er : rmS x.1 l = l := by rw [rmS, ht]; rfl
    have hno := tkM_no hk
    have hcn : cnF (sIx ss.length) (sIx ss.length x.1) (x :: L) = 1 + l.length := by rw [cnF_flt, List.filter_cons_of_pos hxj, ← hf, List.length_cons]; omega
    have hox : Once (x :: L) := h.once.cons hno
    by_cases hfit : cnF (sIx ss.length) (sIx ss.length x.1) (x :: L) ≤ rrmV cap (sIx ss.length x.1)
    · have hlen : (rmS x.1 l).length ≠ rmN cap (sIx ss.length x.1) := by rw [er]; omega
      rw [ptS_room hlen, er] at hI ⊢
      have e2 : dpS ss.length cap x L = ((0, 0), false, x :: L) := by rw [dpS, hk]; simp only [if_pos hfit]
      rw [e2]
      refine ⟨rfl, rfl, h.set hc hl hI ?_ ?_ hox⟩
      · rw [List.filter_cons_of_pos hxj, hf]
      · intro k hk2
        rw [List.filter_cons_of_neg (hxk k hk2)]
    · have hlen : l.length = rmN cap (sIx ss.length x.1) := by omega
      obtain ⟨i, z, hz1, hz2, hz3, hz4⟩ := (laF_spec (sIx ss.length) (sIx ss.length x.1) (x :: L) 0 0).2 (by omega)
      rw [Nat.zero_add] at hz3
      have e2 : dpS ss.length cap x L = (z, true, (x :: L).take i ++ (x :: L).drop (i + 1)) := by rw [dpS, hk]; simp only [if_neg hfit, hz3, hz1]
      rw [e2]
      have hil := (List.getElem?_eq_some_iff.1 hz1).1
      have hsp : x :: L = (x :: L).take i ++ z :: (x :: L).drop (i + 1) := by
        have a := (List.take_append_drop i (x :: L)).symm
        rw [List.drop_eq_getElem_cons hil, (List.getElem?_eq_some_iff.1 hz1).2] at a
        exact a
      generalize hB : (x :: L).drop (i + 1) = B at *
      generalize hA : (x :: L).take i = A at *
      have hBf : B.filter (pj ss.length (sIx ss.length x.1)) = [] := List.filter_eq_nil_iff.2 (fun y hy => by simp only [pj, beq_iff_eq]; exact hz4 y hy)
      have hzj : pj ss.length (sIx ss.length x.1) z = true := by simp only [pj, beq_iff_eq]; exact hz2
      cases A with
      | nil =>
        exfalso
        simp at hsp
        obtain ⟨rfl, rfl⟩ := hsp
        rw [hf, hBf] at hlen
        simp at hlen
        omega
      | cons u A1 =>
        rw [List.cons_append] at hsp
        injection hsp with h1 h2
        subst h1
        have hfA : l = A1.filter (pj ss.length (sIx ss.length x.1)) ++ [z] := by rw [hf, h2, List.filter_append, List.filter_cons_of_pos hzj, hBf]
        have hoA : ∀ y ∈ A1.filter (pj ss.length (sIx ss.length x.1)), y.1 ≠ z.1 := by
          intro y hy e
          rw [hfA] at ho
          unfold Once at ho
          rw [List.map_append] at ho
          exact (List.nodup_append.1 ho).2.2 y.1 (List.mem_map_of_mem hy) z.1 (by simp) e
        obtain ⟨q, hq⟩ : ∃ q, (A1.filter (pj ss.length (sIx ss.length x.1))).length = q := ⟨_, rfl⟩
        have hlq : l.length = q + 1 := by rw [hfA, List.length_append, hq]; rfl
        have hlz : l[q]? = some z := by rw [hfA, List.getElem?_append_right (by omega), hq, Nat.sub_self]; rfl
        have hlt2 : l.take q = A1.filter (pj ss.length (sIx ss.length x.1)) := by rw [hfA, List.take_append_of_le_length (by omega), List.take_of_length_le (by omega)]
        have htk : tkM z.1 (rmS x.1 l) = some (z, A1.filter (pj ss.length (sIx ss.length x.1))) := by
          rw [er]
          have := tkM_first (key := z.1) (y := z.2) (L := l) (i := q) hlz (by rw [hlt2]; exact hoA)
          rw [this, hlt2, List.drop_eq_nil_of_le (by omega), List.append_nil]
        have hfull := ptS_full (room := rmN cap (sIx ss.length x.1)) (x := x) (l := l) (by rw [er]; exact hlen) (y := z) (by rw [er, show rmN cap (sIx ss.length x.1) - 1 = q by omega]; exact hlz) htk
        rw [hfull] at hI ⊢
        refine ⟨rfl, rfl, h.set hc hl hI ?_ ?_ ?_⟩
        · rw [List.cons_append, List.filter_cons_of_pos hxj, List.filter_append, hBf, List.append_nil]
        · intro k hk2
          rw [List.cons_append, List.filter_cons_of_neg (hxk k hk2), h2, flt_cut]
          simp only [pj, beq_eq_false_iff_ne, ne_eq]; exact fun e => hk2 (e.symm.trans hz2)
        · rw [h2] at hox
          unfold Once at hox ⊢
          refine List.Nodup.sublist ?_ hox
          rw [List.cons_append]
          exact (List.Sublist.cons_cons x (List.Sublist.append_left (List.sublist_cons_self z B) A1)).map _
/-- no more than two of each set -/
theorem flt_lt (N k : Nat) : ∀ L : List (Int × Int), (L.filter (fun x => decide (sIx N x.1 < k + 1))).length = (L.filter (fun x => decide (sIx N x.1 < k))).length + (L.filter (pj N k)).length
  | [] => rfl
  | x :: r => by
    have ih := flt_lt N k r
    by_cases e1 : sIx N x.1 < k
    · rw [List.filter_cons_of_pos (by simp; omega), List.filter_cons_of_pos (by simpa using e1), List.filter_cons_of_neg (by simp only [pj, beq_iff_eq]; omega), List.length_cons, List.length_cons]; omega
    · by_cases e2 : sIx N x.1 = k
      · rw [List.filter_cons_of_pos (by simp; omega), List.filter_cons_of_neg (by simpa using e1), List.filter_cons_of_pos (by simp only [pj, beq_iff_eq]; exact e2), List.length_cons, List.length_cons]; omega
      · rw [List.filter_cons_of_neg (by simp; omega), List.filter_cons_of_neg (by simpa using e1), List.filter_cons_of_neg (by simp only [pj, beq_iff_eq]; exact e2)]; omega
theorem RelC.len {cap : Nat} {ss : List (List (Int × Int))} {L : List (Int × Int)} (h : RelC cap ss L) (h64 : cap ≤ 64) : L.length ≤ 64 := by
  by_cases hc : cap = 0
  · rw [h.emp hc]; simp
  have hn : 0 < ss.length := by rw [h.inv.len]; omega
  have hn2 : ss.length ≤ 32 := by rw [h.inv.len]; omega
  have key : ∀ k, k ≤ ss.length → (L.filter (fun x => decide (sIx ss.length x.1 < k))).length ≤ 2 * k := by
    intro k
    induction k with
    | zero => intro _; rw [List.filter_eq_nil_iff.2 (by simp)]; simp
    | succ k ih =>
      intro hk
      have := ih (by omega)
      obtain ⟨l, hl⟩ : ∃ l, ss[k]? = some l := ⟨_, List.getElem?_eq_getElem (by omega)⟩
      have h2 := h.flt k l hl
      have h3 := (h.inv.once k l hl).2.1
      rw [h2] at h3
      have : rmN cap k ≤ 2 := by unfold rmN; omega
      rw [flt_lt]; omega
  have := key ss.length (Nat.le_refl _)
  rw [List.filter_eq_self.2 (fun x _ => by simpa using sIx_lt hn x.1)] at this
  omega
/-- the keys of a set; all keys, set by set -/
def selK (f : Int → Nat) (s : Nat) (L : List (Int × Int)) : List Int := (L.filter fun x => f x.1 == s).map Prod.fst
def allP (f : Int → Nat) (L : List (Int × Int)) : Nat → List Int
  | 0 => []
  | s + 1 => allP f L s ++ selK f s L
theorem selK_snoc {f : Int → Nat} {s : Nat} {L : List (Int × Int)} {i : Nat} {x : Int × Int} (h : L[i]? = some x) : selK f s (L.take (i + 1)) = selK f s (L.take i) ++ (if f x.1 = s then [x.1] else []) := by
  rw [List.take_add_one, h]
  unfold selK
  rw [List.filter_append, List.map_append]
  by_cases e : f x.1 = s
  · simp [e]
  · simp [e]
theorem selK_len (f : Int → Nat) (s : Nat) (L : List (Int × Int)) : (selK f s L).length ≤ L.length := by
  unfold selK; rw [List.length_map]; exact List.length_filter_le _ _
theorem keys_rel {cap : Nat} {ss : List (List (Int × Int))} {L : List (Int × Int)} (h : RelC cap ss L) : ksL ss = allP (sIx ss.length) L ss.length := by
  have key : ∀ k, k ≤ ss.length → ksL (ss.take k) = allP (sIx ss.length) L k := by
    intro k
    induction k with
    | zero => intro _; simp [ksL, allP]
    | succ k ih =>
      intro hk
      obtain ⟨l, hl⟩ : ∃ l, ss[k]? = some l := ⟨_, List.getElem?_eq_getElem (by omega)⟩
      rw [ksL_snoc hl, ih (by omega), allP, h.flt k l hl]; rfl
  have := key ss.length (Nat.le_refl _)
  rwa [List.take_of_length_le (Nat.le_refl _)] at this
theorem RelC.clear {cap : Nat} {ss : List (List (Int × Int))} {L : List (Int × Int)} (h : RelC cap ss L) : RelC cap (List.replicate ss.length []) [] := by rw [h.inv.len]; exact RelC.new cap
end Go.Proofs.Ytdjmjdlolhfejaa
