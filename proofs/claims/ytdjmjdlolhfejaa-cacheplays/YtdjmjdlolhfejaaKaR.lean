/- Plain facts of a cache's sets: each key once, in its set; what find and put leave. -/
import Derived.Test.YtdjmjdlolhfejaaKaK
namespace Go.Proofs.Ytdjmjdlolhfejaa
open Go.RowKit Go.Maps

/-- taking out one that is there: the entry, and the others -/
theorem tkM_spec {key : Int} : ∀ {l l' : List (Int × Int)} {x : Int × Int}, tkM key l = some (x, l') → x.1 = key ∧ x ∈ l ∧ ∃ a b, l = a ++ x :: b ∧ l' = a ++ b
  | [], _, _, h => by simp [tkM] at h
  | y :: r, l', x, h => by
    cases e : y.1 == key
    · simp only [tkM, e, Bool.false_eq_true, if_false, Option.map_eq_some_iff] at h
      obtain ⟨⟨p, q⟩, h1, h2⟩ := h
      simp at h2
      obtain ⟨rfl, rfl⟩ := h2
      obtain ⟨h3, h4, a, b, h5, h6⟩ := tkM_spec h1
      exact ⟨h3, by simp [h4], y :: a, b, by simp [h5], by simp [h6]⟩
    · simp [tkM, e] at h
      obtain ⟨rfl, rfl⟩ := h
      exact ⟨by simpa using e, by simp, [], r, rfl, rfl⟩
theorem tkM_no {key : Int} : ∀ {l : List (Int × Int)}, tkM key l = none → ∀ x ∈ l, x.1 ≠ key
  | [], _, x, hx => by simp at hx
  | y :: r, h, x, hx => by
    cases e : y.1 == key
    · simp only [tkM, e, Bool.false_eq_true, if_false, Option.map_eq_none_iff] at h
      rcases List.mem_cons.1 hx with rfl | hx
      · simpa using e
      · exact tkM_no h x hx
    · simp [tkM, e] at h
def Once (l : List (Int × Int)) : Prop := (l.map Prod.fst).Nodup
theorem Once.tk {key : Int} {l l' : List (Int × Int)} {x : Int × Int} (h : Once l) (hk : tkM key l = some (x, l')) : Once l' ∧ (∀ y ∈ l', y ∈ l ∧ y.1 ≠ key) ∧ (∀ y ∈ l, y = x ∨ y ∈ l') := by
  obtain ⟨h1, h2, a, b, rfl, rfl⟩ := tkM_spec hk
  unfold Once at *
  rw [List.map_append, List.map_cons] at h
  have hn := List.nodup_append.1 h
  obtain ⟨n1, n2, n3⟩ := hn
  rw [List.nodup_cons] at n2
  refine ⟨?_, ?_, ?_⟩
  · rw [List.map_append]
    exact List.nodup_append.2 ⟨n1, n2.2, fun u hu v hv => n3 u hu v (by simp [hv])⟩
  · intro y hy
    rcases List.mem_append.1 hy with hy | hy
    · exact ⟨by simp [hy], fun e => n3 y.1 (List.mem_map_of_mem hy) x.1 (by simp) (by rw [e, h1])⟩
    · exact ⟨by simp [hy], fun e => n2.1 (by rw [h1, ← e]; exact List.mem_map_of_mem hy)⟩
  · intro y hy
    simp at hy ⊢
    rcases hy with hy | rfl | hy
    · exact .inr (.inl hy)
    · exact .inl rfl
    · exact .inr (.inr hy)
theorem Once.rm {key : Int} {l : List (Int × Int)} (h : Once l) : Once (rmS key l) ∧ (∀ y ∈ rmS key l, y ∈ l ∧ y.1 ≠ key) ∧ (∀ y ∈ l, y.1 ≠ key → y ∈ rmS key l) := by
  unfold rmS
  split
  · rename_i hk
    exact ⟨h, fun y hy => ⟨hy, tkM_no hk y hy⟩, fun y hy _ => hy⟩
  · rename_i p hk
    obtain ⟨h1, h2, h3⟩ := h.tk (x := p.1) (l' := p.2) hk
    exact ⟨h1, h2, fun y hy hne => (h3 y hy).resolve_left (fun e => hne (by rw [e]; exact (tkM_spec (x := p.1) (l' := p.2) hk).1))⟩
theorem Once.cons {x : Int × Int} {l : List (Int × Int)} (h : Once l) (hx : ∀ y ∈ l, y.1 ≠ x.1) : Once (x :: l) := by
  unfold Once at *
  rw [List.map_cons, List.nodup_cons]
  exact ⟨fun hm => by obtain ⟨y, hy, e⟩ := List.mem_map.1 hm; exact hx y hy e, h⟩
/-- find in a set -/
theorem fdS_spec {key : Int} {l : List (Int × Int)} (h : Once l) : Once (fdS key l).2.2 ∧ (∀ y, y ∈ (fdS key l).2.2 ↔ y ∈ l) ∧ ((fdS key l).2.1 = true → (key, (fdS key l).1) ∈ l) ∧ ((fdS key l).2.1 = false → (fdS key l).1 = 0 ∧ ∀ y ∈ l, y.1 ≠ key) := by
  unfold fdS
  cases hk : tkM key l with
  | none => exact ⟨h, fun _ => Iff.rfl, fun e => by simp at e, fun _ => ⟨rfl, tkM_no hk⟩⟩
  | some p =>
    obtain ⟨x, l'⟩ := p
    obtain ⟨h1, h2, h3⟩ := h.tk hk
    obtain ⟨e1, e2, _⟩ := tkM_spec hk
    refine ⟨h1.cons (fun y hy => by rw [e1]; exact (h2 y hy).2), fun y => ⟨fun hy => ?_, fun hy => ?_⟩, fun _ => ?_, fun e => by simp at e⟩
    · rcases List.mem_cons.1 hy with rfl | hy
      · exact e2
      · exact (h2 y hy).1
    · rcases h3 y hy with rfl | hy
      · simp
      · simp [hy]
    · show (key, x.2) ∈ l
      rw [← e1]; exact e2
/-- put into a set -/
theorem ptS_spec {room : Nat} (hr : 1 ≤ room) {x : Int × Int} {l : List (Int × Int)} (h : Once l) (_hl : l.length ≤ room) : Once (ptS room x l).2.2 ∧ x ∈ (ptS room x l).2.2 ∧ (∀ y ∈ (ptS room x l).2.2, y = x ∨ (y ∈ l ∧ y.1 ≠ x.1)) ∧
    ((ptS room x l).2.1 = false → (ptS room x l).1 = (0, 0)) ∧ ((ptS room x l).2.1 = true → (ptS room x l).1 ∈ l ∧ (ptS room x l).1.1 ≠ x.1 ∧ ∀ y ∈ (ptS room x l).2.2, y.1 ≠ (ptS room x l).1.1) := by
  obtain ⟨h1, h2, h3⟩ := h.rm (key := x.1)
  have := rmS_len x.1 l
  by_cases hf : (rmS x.1 l).length = room
  · obtain ⟨y, hy⟩ : ∃ y, (rmS x.1 l)[room - 1]? = some y := ⟨_, List.getElem?_eq_getElem (by omega)⟩
    have hm := List.mem_of_getElem? hy
    obtain ⟨⟨z, l2⟩, hz⟩ := tkM_mem hm rfl
    rw [ptS_full hf hy hz]
    obtain ⟨g1, g2, g3⟩ := h1.tk hz
    obtain ⟨e1, e2, _⟩ := tkM_spec hz
    refine ⟨g1.cons (fun u hu => (h2 u (g2 u hu).1).2), by simp, fun u hu => ?_, fun e => by simp at e, fun _ => ⟨(h2 z e2).1, (h2 z e2).2, fun u hu => ?_⟩⟩
    · rcases List.mem_cons.1 hu with rfl | hu
      · exact .inl rfl
      · exact .inr (h2 u (g2 u hu).1)
    · rcases List.mem_cons.1 hu with rfl | hu
      · exact fun e => (h2 z e2).2 e.symm
      · rw [e1]; exact (g2 u hu).2
  · rw [ptS_room hf]
    refine ⟨h1.cons (fun u hu => (h2 u hu).2), by simp, fun u hu => ?_, fun _ => rfl, fun e => by simp at e⟩
    rcases List.mem_cons.1 hu with rfl | hu
    · exact .inl rfl
    · exact .inr (h2 u hu)
/-- the sets of a cache of this capacity: each key once, in its set; no set has more entries than room -/
structure InvC (cap : Nat) (ss : List (List (Int × Int))) : Prop where
  len : ss.length = (cap + 1) / 2
  once : ∀ (j : Nat) (l : List (Int × Int)), ss[j]? = some l → Once l ∧ l.length ≤ rmN cap j ∧ ∀ x ∈ l, sIx ss.length x.1 = j
/-- an entry of a cache -/
def Ent (ss : List (List (Int × Int))) (x : Int × Int) : Prop := ∃ l ∈ ss, x ∈ l
theorem InvC.new (cap : Nat) : InvC cap (List.replicate ((cap + 1) / 2) []) := by
  refine ⟨by simp, fun j l hj => ?_⟩
  have := List.mem_of_getElem? hj
  rw [List.mem_replicate] at this
  rw [this.2]
  exact ⟨by simp [Once], by simp, by simp⟩
theorem Ent.new {n : Nat} {x : Int × Int} : ¬ Ent (List.replicate n []) x := by
  rintro ⟨l, h1, h2⟩
  rw [List.mem_replicate] at h1
  rw [h1.2] at h2; simp at h2
theorem ent_iff {cap : Nat} {ss : List (List (Int × Int))} (h : InvC cap ss) {x : Int × Int} : Ent ss x ↔ ∃ l, ss[sIx ss.length x.1]? = some l ∧ x ∈ l := by
  constructor
  · rintro ⟨l, h1, h2⟩
    obtain ⟨j, hj⟩ := List.getElem?_of_mem h1
    have := (h.once j l hj).2.2 x h2
    exact ⟨l, by rw [this]; exact hj, h2⟩
  · rintro ⟨l, h1, h2⟩
    exact ⟨l, List.mem_of_getElem? h1, h2⟩
theorem set_len {α : Type} (l : List α) (i : Nat) (a : α) : (l.set i a).length = l.length := List.length_set
theorem InvC.set {cap : Nat} {ss : List (List (Int × Int))} (h : InvC cap ss) {j : Nat} {l l' : List (Int × Int)} (hl : ss[j]? = some l) (h1 : Once l') (h2 : l'.length ≤ rmN cap j) (h3 : ∀ x ∈ l', sIx ss.length x.1 = j) : InvC cap (ss.set j l') := by
  have hj := (List.getElem?_eq_some_iff.1 hl).1
  refine ⟨by rw [set_len]; exact h.len, fun i u hu => ?_⟩
  rw [set_len]
  by_cases e : i = j
  · subst e
    rw [List.getElem?_set_self hj] at hu
    cases hu
    exact ⟨h1, h2, h3⟩
  · rw [List.getElem?_set_ne (fun x => e x.symm)] at hu
    exact h.once i u hu
theorem ent_set {ss : List (List (Int × Int))} {n : Nat} (_hn : ss.length = n) {j : Nat} {l l' : List (Int × Int)} (hl : ss[j]? = some l) {x : Int × Int} : (∃ u, (ss.set j l')[sIx n x.1]? = some u ∧ x ∈ u) ↔ if sIx n x.1 = j then x ∈ l' else ∃ u, ss[sIx n x.1]? = some u ∧ x ∈ u := by
  have hj := (List.getElem?_eq_some_iff.1 hl).1
  by_cases e : sIx n x.1 = j
  · rw [if_pos e, e, List.getElem?_set_self hj]
    exact ⟨fun ⟨u, h1, h2⟩ => by cases h1; exact h2, fun h => ⟨_, rfl, h⟩⟩
  · rw [if_neg e, List.getElem?_set_ne (fun x => e x.symm)]
theorem fdSS_spec {cap : Nat} {ss : List (List (Int × Int))} (h : InvC cap ss) (key : Int) : InvC cap (fdSS key ss).2.2 ∧ (∀ x, Ent (fdSS key ss).2.2 x ↔ Ent ss x) ∧ ((fdSS key ss).2.1 = true → Ent ss (key, (fdSS key ss).1)) ∧ ((fdSS key ss).2.1 = false → (fdSS key ss).1 = 0 ∧ ∀ x, Ent ss x → x.1 ≠ key) := by
  cases hl : ss[sIx ss.length key]? with
  | none =>
    have e : fdSS key ss = (0, false, ss) := by simp only [fdSS, hl]
    rw [e]
    refine ⟨h, fun _ => Iff.rfl, fun e => by simp at e, fun _ => ⟨rfl, fun x hx e => ?_⟩⟩
    obtain ⟨l, h1, _⟩ := (ent_iff h).1 hx
    rw [e, hl] at h1; cases h1
  | some l =>
    have e : fdSS key ss = ((fdS key l).1, (fdS key l).2.1, ss.set (sIx ss.length key) (fdS key l).2.2) := by simp only [fdSS, hl]
    rw [e]
    obtain ⟨o1, o2, o3⟩ := h.once _ l hl
    obtain ⟨s1, s2, s3, s4⟩ := fdS_spec (key := key) o1
    have hI : InvC cap (ss.set (sIx ss.length key) (fdS key l).2.2) := h.set hl s1 (by rw [fdS_len]; exact o2) (fun x hx => o3 x ((s2 x).1 hx))
    refine ⟨hI, fun x => ?_, fun e => ?_, fun e => ⟨(s4 e).1, fun x hx hk => ?_⟩⟩
    · rw [ent_iff hI, ent_iff h, set_len, ent_set rfl hl]
      by_cases e : sIx ss.length x.1 = sIx ss.length key
      · rw [if_pos e, s2 x, e, hl]
        exact ⟨fun h => ⟨l, rfl, h⟩, fun ⟨u, h1, h2⟩ => by cases h1; exact h2⟩
      · rw [if_neg e]
    · exact (ent_iff h).2 ⟨l, hl, s3 e⟩
    · obtain ⟨u, h1, h2⟩ := (ent_iff h).1 hx
      rw [hk, hl] at h1; cases h1
      exact (s4 e).2 x h2 hk
theorem ptSS_spec {cap : Nat} {ss : List (List (Int × Int))} (h : InvC cap ss) (hc : 1 ≤ cap) (x : Int × Int) : InvC cap (ptSS cap x ss).2.2 ∧ Ent (ptSS cap x ss).2.2 x ∧ (∀ y, Ent (ptSS cap x ss).2.2 y → y = x ∨ (Ent ss y ∧ y.1 ≠ x.1)) ∧
    ((ptSS cap x ss).2.1 = false → (ptSS cap x ss).1 = (0, 0)) ∧ ((ptSS cap x ss).2.1 = true → Ent ss (ptSS cap x ss).1 ∧ (ptSS cap x ss).1.1 ≠ x.1 ∧ ∀ y, Ent (ptSS cap x ss).2.2 y → y.1 ≠ (ptSS cap x ss).1.1) := by
  have hn : 0 < ss.length := by rw [h.len]; omega
  have hlt := sIx_lt hn x.1
  obtain ⟨l, hl⟩ : ∃ l, ss[sIx ss.length x.1]? = some l := ⟨_, List.getElem?_eq_getElem hlt⟩
  have e : ptSS cap x ss = ((ptS (rmN cap (sIx ss.length x.1)) x l).1, (ptS (rmN cap (sIx ss.length x.1)) x l).2.1, ss.set (sIx ss.length x.1) (ptS (rmN cap (sIx ss.length x.1)) x l).2.2) := by simp only [ptSS, hl]
  rw [e]
  have hr : 1 ≤ rmN cap (sIx ss.length x.1) := by have := h.len; unfold rmN; omega
  obtain ⟨o1, o2, o3⟩ := h.once _ l hl
  obtain ⟨s1, s2, s3, s4, s5⟩ := ptS_spec hr (x := x) o1 o2
  have hI : InvC cap (ss.set (sIx ss.length x.1) (ptS (rmN cap (sIx ss.length x.1)) x l).2.2) := h.set hl s1 (ptS_len hr _ o2) (fun y hy => by rcases s3 y hy with rfl | ⟨h1, _⟩; rfl; exact o3 y h1)
  have key : ∀ y, Ent (ss.set (sIx ss.length x.1) (ptS (rmN cap (sIx ss.length x.1)) x l).2.2) y → (y ∈ (ptS (rmN cap (sIx ss.length x.1)) x l).2.2 ∧ sIx ss.length y.1 = sIx ss.length x.1) ∨ (Ent ss y ∧ sIx ss.length y.1 ≠ sIx ss.length x.1) := by
    intro y hy
    have := (ent_iff hI).1 hy
    rw [set_len] at this
    have := (ent_set rfl hl).1 this
    by_cases e : sIx ss.length y.1 = sIx ss.length x.1
    · rw [if_pos e] at this; exact .inl ⟨this, e⟩
    · rw [if_neg e] at this; exact .inr ⟨(ent_iff h).2 this, e⟩
  refine ⟨hI, ?_, fun y hy => ?_, s4, fun eb => ?_⟩
  · refine (ent_iff hI).2 ?_
    rw [set_len, ent_set rfl hl, if_pos rfl]; exact s2
  · rcases key y hy with ⟨h1, _⟩ | ⟨h1, h2⟩
    · rcases s3 y h1 with h3 | ⟨h3, h4⟩
      · exact .inl h3
      · exact .inr ⟨⟨l, List.mem_of_getElem? hl, h3⟩, h4⟩
    · exact .inr ⟨h1, fun e => h2 (by rw [e])⟩
  · obtain ⟨t1, t2, t3⟩ := s5 eb
    refine ⟨⟨l, List.mem_of_getElem? hl, t1⟩, t2, fun y hy => ?_⟩
    rcases key y hy with ⟨h1, _⟩ | ⟨h1, h2⟩
    · exact t3 y h1
    · exact fun e => h2 (by rw [e, o3 _ t1])
end Go.Proofs.Ytdjmjdlolhfejaa
