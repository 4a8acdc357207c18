/- The law of lists that are sound together (CodeTogether): the facts and the walk. -/
import Derived.Test.YtijlipllahfakaaDoorLawF
namespace Go.Proofs.YtijlipllahfakaaDoor
open Go.RowKit

theorem allE_01 (l : List Ins) (x : Int) : allE l x = 0 ∨ allE l x = 1 := by
  unfold allE; split
  · exact .inr rfl
  · split <;> simp
theorem allE_ok {l : List Ins} {x : Int} (h : allE l x = 0) : 1 ≤ l.length ∧ l.length ≤ 200 ∧ ∀ i ∈ l, badI x l.length i = false := by
  unfold allE at h
  split at h
  · cases h
  · rename_i h1
    split at h
    · cases h
    · rename_i h2
      refine ⟨by omega, by omega, fun i hi => ?_⟩
      rw [Bool.not_eq_true, List.any_eq_false] at h2
      simpa using h2 i hi
theorem allE_mk {l : List Ins} {x : Int} (h1 : 1 ≤ l.length) (h2 : l.length ≤ 200) (h : ∀ i ∈ l, badI x l.length i = false) : allE l x = 0 := by
  unfold allE
  rw [if_neg (by omega), if_neg]
  rw [Bool.not_eq_true, List.any_eq_false]
  intro i hi
  simp [h i hi]
theorem bad_no {x len : Int} {i : Ins} (h : badI x len i = false) : ickI i = 0 ∧ fmB (opdI i.op) i.n x len = true := by
  rw [bad_own] at h
  simpa using h
theorem bad_ok {x len : Int} {i : Ins} (h1 : ickI i = 0) (h2 : fmB (opdI i.op) i.n x len = true) : badI x len i = false := by
  rw [bad_own, h1, h2]; rfl
theorem ret_sound (x len : Int) : badI x len ⟨38, 0, ⟨#[]⟩, false, ⟨#[]⟩, ⟨#[]⟩, ⟨#[]⟩⟩ = false := by
  have h0 : (⟨#[]⟩ : ByteArray).toList = [] := by rw [Lib.toList_data]
  refine bad_ok ?_ rfl
  show ickE 38 0 ⟨#[]⟩ false ⟨#[]⟩ ⟨#[]⟩ ⟨#[]⟩ = 0
  rw [ickE, show opdI 38 = 0 from rfl, noRefB, h0]; rfl
theorem ick_ins' {i : Ins} (h : ickI i = 0) : insB (opdI i.op) i.n i.t.toList.isEmpty i.t.data.toList (noRefB i.b i.c i.m i.d) (rckB i.c.data.toList i.m.data.toList i.d.data.toList) = true := by
  unfold ickI ickE at h
  split at h
  · assumption
  · exact absurd h (by decide)
/-- locals of sound instructions are below forty -/
theorem loc_small {i : Ins} (h : ickI i = 0) (hk : opdI i.op = 2) : i.n < 40 := by
  have := ick_ins' h
  rw [hk] at this
  simp [insB] at this
  omega
theorem more_locals {l : List Ins} {x : Int} (h : allE l x = 0) : allE l 40 = 0 := by
  obtain ⟨h1, h2, h3⟩ := allE_ok h
  refine allE_mk h1 h2 fun i hi => ?_
  obtain ⟨k1, k2⟩ := bad_no (h3 i hi)
  refine bad_ok k1 ?_
  unfold fmB at k2 ⊢
  by_cases e : opdI i.op = 2
  · rw [if_pos e]
    exact decide_eq_true (loc_small k1 e)
  · rw [if_neg e] at k2 ⊢
    exact k2
theorem one_more {l : List Ins} {x : Int} (h : allE l x = 0) (hl : l.length + 1 ≤ 200) : allE (l ++ ret1) x = 0 := by
  obtain ⟨h1, h2, h3⟩ := allE_ok h
  refine allE_mk (by simp [ret1]) (by simpa [ret1] using hl) fun i hi => ?_
  rcases List.mem_append.1 hi with hi | hi
  · obtain ⟨k1, k2⟩ := bad_no (h3 i hi)
    refine bad_ok k1 ?_
    unfold fmB at k2 ⊢
    split
    · rename_i e; rw [if_pos e] at k2; exact k2
    · rename_i e
      rw [if_neg e] at k2
      split
      · rename_i e2
        rw [if_pos e2] at k2
        have := of_decide_eq_true k2
        refine decide_eq_true ?_
        simp [ret1]; omega
      · rfl
  · simp only [ret1, List.mem_singleton] at hi
    rw [hi]; exact ret_sound _ _
theorem too_many {l : List Ins} {x : Int} (hl : 200 < l.length + 1) : allE (l ++ ret1) x = 1 := by
  unfold allE
  rw [if_pos]
  right; simp [ret1]; omega

set_option maxRecDepth 100000 in
set_option maxHeartbeats 8000000 in
theorem CodeTogether_any (v : Value) (l : List Ins) {W : World} (h : IsInss W v l) (hsrc : (v = .slice none 0 0 ∧ l.length = 0) ∨ ∃ ad c, v = .slice (some ad) l.length c ∧ ∀ j u, (flatI l)[j]? = some u → W.cell? (ad.add j) = some u) (hok : ∀ i ∈ l, InsOK i) (locals : Int) (hG : GIn W) (hz : l.length * 88 ≤ 140737488351232) :
    Calls Tryd.prog 7 #[v, .int .i64 locals] W fun e w' => e = .returned (.bool true) ∧ Below W.heap.size W w' := by
  obtain ⟨i25, hi25, hz0, hz1, hz2⟩ := info_parts Tryd.info25
  have HA : Hid (∀ w, GIn w → _) := awake_any
  have HG : Hid (GIn W) := hG
  have HI : Hid (IsInss W v l) := h
  have HSRC : Hid (∀ w', Below W.heap.size W w' → (v = .slice none 0 0 ∧ l.length = 0) ∨ ∃ ad c, v = .slice (some ad) l.length c ∧ ∀ j u, (flatI l)[j]? = some u → w'.cell? (ad.add j) = some u) := fun w' hb => by
    rcases hsrc with h1 | ⟨ad, c, h1, h2⟩
    · exact .inl h1
    · exact .inr ⟨ad, c, h1, fun j u hj => (hb.cell (World.block_lt_of_cell? W _ (h2 j u hj))).trans (h2 j u hj)⟩
  have HFL : Hid _ := flatI_length l
  have HC : Hid (∀ (x : Value) (y : Int) (w : World), IsInss w x l → Calls Tryd.prog 23 #[x, .int .i64 y] w fun e w' => e = .returned (.int .i64 (allE l y)) ∧ Below w.heap.size w w') := fun x y w hx => checkAll_any x l y w hx hok
  have hok2 : ∀ i ∈ l ++ ret1, InsOK i := fun i hi => by
    rcases List.mem_append.1 hi with hi | hi
    · exact hok i hi
    · simp only [ret1, List.mem_singleton] at hi
      rw [hi]
      have hz : (⟨#[]⟩ : ByteArray).size ≤ maxLen := by decide
      exact ⟨hz, hz, hz, hz⟩
  have HM : Hid (∀ (x : Value) (w : World), IsInss w x (l ++ ret1) → Calls Tryd.prog 23 #[x, .int .i64 locals] w fun e w' => e = .returned (.int .i64 (allE (l ++ ret1) locals)) ∧ Below w.heap.size w w') := fun x w hx => checkAll_any x (l ++ ret1) locals w hx hok2
  have HOK : Hid _ := hok
  obtain ⟨ao, cap0, rfl⟩ := inss_slice h
  rcases allE_01 l locals with he | he
  · have H40 : Hid (allE l 40 = 0) := more_locals he
    have HMM : Hid (allE (l ++ ret1) locals = if l.length + 1 ≤ 200 then 0 else 1) := by
      rw [Hid]; split
      · rename_i hl; exact one_more he hl
      · exact too_many (by omega)
    obtain ⟨hl1, hl2, hl3⟩ := allE_ok he
    have HB : Hid (∀ i ∈ l, ickI i = 0) := fun i hi => (bad_no (hl3 i hi)).1
    have HC1 : Hid (∀ (x : Value) (w : World), IsInss w x l → Calls Tryd.prog 23 #[x, .int .i64 locals] w fun e w' => e = .returned (.int .i64 0) ∧ Below w.heap.size w w') := fun x w hx => by
      have := HC.out x locals w hx
      rw [he] at this
      exact this
    have HC2 : Hid (∀ (x : Value) (w : World), IsInss w x l → Calls Tryd.prog 23 #[x, .int .i64 40] w fun e w' => e = .returned (.int .i64 0) ∧ Below w.heap.size w w') := fun x w hx => by
      have := HC.out x 40 w hx
      rw [H40.out] at this
      exact this
    obtain ⟨hh1, hh2, hh3⟩ : 1 ≤ l.length ∧ l.length ≤ cap0 ∧ cap0 ≤ maxLen := by
      obtain ⟨a1, c1, e1, e2, e3, _⟩ := h
      simp at e1
      obtain ⟨_, rfl⟩ := e1
      exact ⟨hl1, e2, e3⟩
    unfold maxLen at hh3
    obtain ⟨bk, o, hao, hbk, hcell⟩ : ∃ bk o, ao = some ⟨bk, o, none⟩ ∧ bk < W.heap.size ∧ ∀ k i, l[k]? = some i → InsAt W bk (o + k * 7) i := by
      obtain ⟨a1, c1, e1, _, _, e4⟩ := h
      simp at e1
      obtain ⟨rfl, _⟩ := e1
      exact e4 (by intro e; rw [e] at hl1; simp at hl1)
    subst hao
    have HCELL : Hid _ := hcell
    clear h hsrc hok hG hl3 HC he H40 hok2 hcell
    go_enter Tryd.func7, Tryd.ntmps7
    go_wp2_with (first
      | (go_at_call 8; refine (HA.out _ HG.out).mono ?_; rintro e w8 ⟨rfl, hb8⟩; have B8 : Hid (Below W.heap.size W w8) := hb8; clear hb8)
      | (go_at_call 23; refine (HC1.out _ _ (HI.out.keep B8.out)).mono ?_; rintro e w9 ⟨rfl, hb9⟩; have B9 : Hid (Below W.heap.size W w9) := B8.out.trans (hb9.mono B8.out.size); clear hb9))
    clear HA HG HC1 B8
    go_loopw [6] (fun iv wr => ∃ i : Nat, iv = .int .i64 i ∧ i ≤ l.length ∧ Hid (Below W.heap.size W wr)) (fun iv _ => l.length - (intOf iv).toNat)
    case atStart => exact ⟨0, rfl, Nat.zero_le _, B9⟩
    case round =>
      clear B9
      obtain ⟨i, rfl, hi, B8⟩ := hrel
      by_cases hlt : i < l.length
      · obtain ⟨x, hx⟩ : ∃ x, l[i]? = some x := ⟨_, List.getElem?_eq_getElem hlt⟩
        obtain ⟨p0, p1, p2, p3, p4, p5, p6⟩ := (HCELL.out i x hx).keep B8.out hbk
        obtain ⟨k1, k2, k3, k4⟩ := HOK.out x (List.mem_of_getElem? hx)
        have HK := check_any x.op x.n x.t x.b x.c x.m x.d k1 k2 k3 k4
        rw [show ickE x.op x.n x.t x.b x.c x.m x.d = 0 from HB.out x (List.mem_of_getElem? hx)] at HK
        have HK : Hid (∀ w, _) := HK
        obtain ⟨xo, xn, xt, xb, xc, xm, xd⟩ := x
        simp only at p0 p1 p2 p3 p4 p5 p6 HK
        clear hx k1 k2 k3 k4 HCELL HOK HB HM HMM HC2 HSRC HFL hz0 hz1 hz2 hi25
        go_wp2_with (go_at_call 13; refine (HK.out _).mono ?_; rintro e w1 ⟨rfl, hb1⟩; have hB1 : Hid (Below W.heap.size W w1) := B8.out.trans (hb1.mono B8.out.size); clear hb1)
        go_roundw
        case rel => exact ⟨i + 1, by go_num, by omega, hB1⟩
        case measure => simp [intOf]; omega
      · clear HCELL HOK HB
        obtain ⟨w8, hw8⟩ : ∃ w8, w8 = wr := ⟨_, rfl⟩
        subst hw8
        go_wp2_with (first
          | (at_builtin; refine wpList_append_opt _ rfl _ _ 40 rfl W.heap.size 25 i25 (.agg #[.int .i64 0, .int .i64 0, .string ⟨#[]⟩, .bool false, .string ⟨#[]⟩, .string ⟨#[]⟩, .string ⟨#[]⟩]) 7 88 Tryd.underlying40 hi25 hz0 hz1 hz2 rfl (by decide) _ _ _ rfl (empty_own w8 _ B8.out.size) (.slice (some ⟨bk, o, none⟩) l.length cap0) l.length (flatI l) rfl HFL.out ?c0 ?c2 ?c3 ?c4 ?c5 ?_))
        case c0 => exact HSRC.out _ (B8.out.alloc B8.out.size _)
        case c2 => exact flatI_one l
        case c3 => unfold maxLen; omega
        case c4 => omega
        case c5 => have := B8.out.size; simp; omega
        intro v1 wA ho1 hg1
        have BA : Hid (Below W.heap.size W wA) := (B8.out.alloc B8.out.size _).grown hg1 (by have := B8.out.size; simp; omega) (fun k e => by have := B8.out.size; simp [Value.ownBlock] at e; omega)
        have zA := BA.out.size
        clear hg1 B8 HSRC
        go_wp2_with (at_builtin; refine wpList_append_own _ rfl _ _ 40 rfl W.heap.size 25 i25 (.agg #[.int .i64 0, .int .i64 0, .string ⟨#[]⟩, .bool false, .string ⟨#[]⟩, .string ⟨#[]⟩, .string ⟨#[]⟩]) 7 88 Tryd.underlying40 hi25 hz0 hz1 hz2 rfl (by decide) _ _ _ rfl (ho1.alloc _) ⟨wA.heap.size, 0, none⟩ 1 1 [.int .i64 38, .int .i64 0, .string ⟨#[]⟩, .bool false, .string ⟨#[]⟩, .string ⟨#[]⟩, .string ⟨#[]⟩] rfl rfl ?e1 ?e2 ?e3 ?e4 ?e5 ?_)
        case e1 => exact new_cells wA [.int .i64 38, .int .i64 0, .string ⟨#[]⟩, .bool false, .string ⟨#[]⟩, .string ⟨#[]⟩, .string ⟨#[]⟩] 25
        case e2 => exact flatI_one ret1
        case e3 => unfold maxLen; omega
        case e4 => omega
        case e5 => simp; omega
        intro v2 wB ho2 hg2 _
        obtain ⟨g, cap, rfl⟩ : ∃ g cap, v2 = .slice (some ⟨g, 0, none⟩) (l.length + 1) cap := by
          rcases ho2.2 with ⟨_, h0⟩ | ⟨g, cap, cur, q, _⟩
          · omega
          · exact ⟨g, cap, by rw [q]⟩
        have DS : Hid (Ws W l ret1 g cap wB) := by
          refine ⟨?_, (BA.out.alloc zA _).grown hg2 (by simp; omega) (fun k e => (ho1.lt k e).1)⟩
          have e : flatI (l ++ ret1) = flatI l ++ [.int .i64 38, .int .i64 0, .string ⟨#[]⟩, .bool false, .string ⟨#[]⟩, .string ⟨#[]⟩, .string ⟨#[]⟩] := by simp [flatI, ret1, insC]
          rw [e]
          exact ho2
        clear ho1 ho2 hg2 BA zA
        obtain ⟨hcl, hcm⟩ := DS.out.caps
        simp only [ret1, List.length_cons, List.length_nil] at hcl
        unfold maxLen at hcm
        obtain ⟨zB1, zB2⟩ := DS.out.size
        have hms : (ret1 : List Ins).length = 1 := rfl
        by_cases hlen : l.length + 1 ≤ 200
        · have hlen2 : ¬ ((200 : Int) < (l.length : Int) + 1) := by omega
          have HM2 : Hid (∀ (x : Value) (w : World), IsInss w x (l ++ ret1) → Calls Tryd.prog 23 #[x, .int .i64 locals] w fun e w' => e = .returned (.int .i64 0) ∧ Below w.heap.size w w') := fun x w hx => by
            have := HM.out x w hx
            rw [HMM.out, if_pos hlen] at this
            exact this
          clear HM HMM
          go_wp2_with (first
            | (go_at_call_of 23 (Value.slice (some ⟨bk, o, none⟩) l.length cap0); refine (HC2.out _ _ (HI.out.keep DS.out.bel)).mono ?_; rintro e wC ⟨rfl, hbC⟩; have DC : Hid (Ws W l ret1 g cap wC) := DS.out.keep hbC; clear hbC)
            | (go_at_call 23; refine (HM2.out _ _ DC.out.whole).mono ?_; rintro e wD ⟨rfl, hbD⟩; have BD : Hid (Below W.heap.size W wD) := DC.out.bel.trans (hbD.mono DC.out.bel.size); clear hbD))
          go_ret
          exact ⟨rfl, BD.out⟩
        · have hlen2 : (200 : Int) < (l.length : Int) + 1 := by omega
          have HM2 : Hid (∀ (x : Value) (w : World), IsInss w x (l ++ ret1) → Calls Tryd.prog 23 #[x, .int .i64 locals] w fun e w' => e = .returned (.int .i64 1) ∧ Below w.heap.size w w') := fun x w hx => by
            have := HM.out x w hx
            rw [HMM.out, if_neg hlen] at this
            exact this
          clear HM HMM
          go_wp2_with (go_at_call 23; refine (HM2.out _ _ DS.out.whole).mono ?_; rintro e wD ⟨rfl, hbD⟩; have BD : Hid (Below W.heap.size W wD) := DS.out.bel.trans (hbD.mono DS.out.bel.size); clear hbD)
          go_ret
          exact ⟨rfl, BD.out⟩
  · have HC1 : Hid (∀ (x : Value) (w : World), IsInss w x l → Calls Tryd.prog 23 #[x, .int .i64 locals] w fun e w' => e = .returned (.int .i64 1) ∧ Below w.heap.size w w') := fun x w hx => by
      have := HC.out x locals w hx
      rw [he] at this
      exact this
    clear h hsrc hok hG HC he hok2 HM HOK HSRC HFL hz0 hz1 hz2 hi25
    go_enter Tryd.func7, Tryd.ntmps7
    go_wp2_with (first
      | (go_at_call 8; refine (HA.out _ HG.out).mono ?_; rintro e w8 ⟨rfl, hb8⟩; have B8 : Hid (Below W.heap.size W w8) := hb8; clear hb8)
      | (go_at_call 23; refine (HC1.out _ _ (HI.out.keep B8.out)).mono ?_; rintro e w9 ⟨rfl, hb9⟩; have B9 : Hid (Below W.heap.size W w9) := B8.out.trans (hb9.mono B8.out.size); clear hb9))
    go_ret
    exact ⟨rfl, B9.out⟩

end Go.Proofs.YtijlipllahfakaaDoor
