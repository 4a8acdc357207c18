/- Plain facts for CacheRoom: how many entries, no key twice, what the values say. -/
import Derived.Test.YtdjmjdlolhfejaaKaS
namespace Go.Proofs.Ytdjmjdlolhfejaa
open Go.RowKit Go.Maps

theorem InvC.count {cap : Nat} {ss : List (List (Int × Int))} (h : InvC cap ss) : ∀ i, i ≤ ss.length → (ksL (ss.take i)).length ≤ min cap (2 * i)
  | 0, _ => by simp [ksL]
  | i + 1, hi => by
    obtain ⟨l, hl⟩ : ∃ l, ss[i]? = some l := ⟨_, List.getElem?_eq_getElem (by omega)⟩
    have ih := h.count i (by omega)
    have h2 := (h.once i l hl).2.1
    have h3 := h.len
    rw [ksL_snoc hl, List.length_append, List.length_map]
    unfold rmN at h2
    omega
theorem InvC.room {cap : Nat} {ss : List (List (Int × Int))} (h : InvC cap ss) : (ksL ss).length ≤ cap := by
  have := h.count ss.length (Nat.le_refl _)
  rw [List.take_length] at this; omega
theorem ksL_mem {ss : List (List (Int × Int))} {k : Int} : k ∈ ksL ss ↔ ∃ v, Ent ss (k, v) := by
  unfold ksL Ent
  rw [List.mem_flatMap]
  constructor
  · rintro ⟨l, hl, hk⟩
    obtain ⟨⟨a, v⟩, hx, rfl⟩ := List.mem_map.1 hk
    exact ⟨v, l, hl, hx⟩
  · rintro ⟨v, l, hl, hx⟩
    exact ⟨l, hl, List.mem_map.2 ⟨_, hx, rfl⟩⟩
theorem InvC.nodup {cap : Nat} {ss : List (List (Int × Int))} (h : InvC cap ss) : ∀ i, i ≤ ss.length → (ksL (ss.take i)).Nodup ∧ ∀ k ∈ ksL (ss.take i), sIx ss.length k < i
  | 0, _ => by simp [ksL]
  | i + 1, hi => by
    obtain ⟨l, hl⟩ : ∃ l, ss[i]? = some l := ⟨_, List.getElem?_eq_getElem (by omega)⟩
    obtain ⟨n1, n2⟩ := h.nodup i (by omega)
    obtain ⟨o1, _, o3⟩ := h.once i l hl
    have ol : ∀ k ∈ l.map Prod.fst, sIx ss.length k = i := fun k hk => by obtain ⟨x, hx, rfl⟩ := List.mem_map.1 hk; exact o3 x hx
    rw [ksL_snoc hl]
    refine ⟨List.nodup_append.2 ⟨n1, o1, fun a ha b hb e => ?_⟩, fun k hk => ?_⟩
    · have := n2 a ha
      have := ol b hb
      subst e; omega
    · rcases List.mem_append.1 hk with hk | hk
      · have := n2 k hk; omega
      · have := ol k hk; omega
theorem InvC.nd {cap : Nat} {ss : List (List (Int × Int))} (h : InvC cap ss) : (ksL ss).Nodup := by
  have := (h.nodup ss.length (Nat.le_refl _)).1
  rwa [List.take_length] at this
/-- each entry's value is the place of its key -/
def RmI (ks : List Int) (i : Nat) (ss : List (List (Int × Int))) : Prop := ∀ x, Ent ss x → ∃ j : Nat, x.2 = (j : Int) ∧ j < i ∧ ks[j]? = some x.1
/-- one round's facts -/
structure RdF (cap : Nat) (ks : List Int) (i : Nat) (key z1 z2 : Int) (zb : Bool) (s1 : List (List (Int × Int))) (fv : Int) (fb : Bool) (s2 : List (List (Int × Int))) : Prop where
  zf : zb = false → z1 = 0 ∧ z2 = 0
  zt : zb = true → z1 ∉ ksL s1 ∧ ∃ j : Nat, z2 = (j : Int) ∧ j < i ∧ ks[j]? = some z1
  room : (ksL s1).length ≤ cap
  nd : (ksL s1).Nodup
  fe : fb = decide (0 < cap)
  ft : fb = true → fv = (i : Int)
  ff : fb = false → fv = 0
  zc : zb = true → 0 < cap
  inv : InvC cap s2
  rm : RmI ks (i + 1) s2
theorem round_f {cap : Nat} {ks : List Int} {i : Nat} {key : Int} {ss : List (List (Int × Int))} (hi : InvC cap ss) (hr : RmI ks i ss) (hk : ks[i]? = some key) :
    RdF cap ks i key (ptSS cap (key, (i : Int)) ss).1.1 (ptSS cap (key, (i : Int)) ss).1.2 (ptSS cap (key, (i : Int)) ss).2.1 (ptSS cap (key, (i : Int)) ss).2.2 (fdSS key (ptSS cap (key, (i : Int)) ss).2.2).1 (fdSS key (ptSS cap (key, (i : Int)) ss).2.2).2.1 (fdSS key (ptSS cap (key, (i : Int)) ss).2.2).2.2 := by
  by_cases hc : 1 ≤ cap
  · obtain ⟨p1, p2, p3, p4, p5⟩ := ptSS_spec hi hc (key, (i : Int))
    obtain ⟨f1, f2, f3, f4⟩ := fdSS_spec p1 key
    have fbt : (fdSS key (ptSS cap (key, (i : Int)) ss).2.2).2.1 = true := by
      cases e : (fdSS key (ptSS cap (key, (i : Int)) ss).2.2).2.1 with
      | true => rfl
      | false => exact absurd rfl ((f4 e).2 _ p2)
    have rm1 : RmI ks (i + 1) (ptSS cap (key, (i : Int)) ss).2.2 := fun x hx => by
      rcases p3 x hx with rfl | ⟨hx, _⟩
      · exact ⟨i, rfl, by omega, hk⟩
      · obtain ⟨j, h1, h2, h3⟩ := hr x hx
        exact ⟨j, h1, by omega, h3⟩
    refine ⟨fun e => ?_, fun e => ⟨fun hm => ?_, ?_⟩, p1.room, p1.nd, by rw [fbt]; simp; omega, fun _ => ?_, fun e => (by rw [fbt] at e; cases e), fun _ => (by omega), f1, fun x hx => rm1 x ((f2 x).1 hx)⟩
    · have := p4 e
      rw [this]; exact ⟨rfl, rfl⟩
    · obtain ⟨v, hv⟩ := ksL_mem.1 hm
      exact (p5 e).2.2 _ hv rfl
    · obtain ⟨j, h1, h2, h3⟩ := hr _ (p5 e).1
      exact ⟨j, h1, h2, h3⟩
    · rcases p3 _ (f3 fbt) with h | ⟨_, h⟩
      · exact (Prod.mk.inj h).2
      · exact absurd rfl h
  · obtain rfl : cap = 0 := by omega
    obtain rfl := hi.nil
    have e2 : fdSS key [] = (0, false, []) := by simp [fdSS]
    rw [ptSS_0]
    simp only [e2]
    exact ⟨fun _ => ⟨rfl, rfl⟩, fun e => (by cases e), (by simp [ksL]), (by simp [ksL]), (by simp), fun e => (by cases e), fun _ => rfl, fun e => (by cases e), hi, fun x ⟨l, hl, _⟩ => by simp at hl⟩
end Go.Proofs.Ytdjmjdlolhfejaa
