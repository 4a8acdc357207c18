/- The law ArraysSteps: the walk. -/
import Derived.Test.YtpbnjmncjecobaaGreatWdT
import Derived.Test.YtpbnjmncjecobaaGreatArV
namespace Go.Proofs.YtpbnjmncjecobaaGreat
open Go.RowKit Go.Maps

structure StW (ps : List Plc) : Prop where
  ty : TyW ps
  wj : WJ ps
  su : ∀ k q, 0 < k → ps[k]? = some q → lookL ps q.c.su.data.toList = some q.sp ∧ q.c.su.toList.isEmpty = false
  ni : ∀ q ∈ ps, q.c.ni ≤ 20
theorem valid_some {l : List UInt8} (h : validL l = true) : l.isEmpty = false := by
  cases l with
  | nil => exact absurd h (by decide)
  | cons a r => rfl
theorem cls_su {c : Cls} (h : clsB c = true) : validL c.su.data.toList = true := by
  unfold clsB at h
  simp only [Bool.and_eq_true] at h
  exact h.1.1.1.1.1.1.1.1.2
theorem stW (l : List Cls) (hl : ∀ c ∈ l, ClsW c) : StW (wld l) := by
  have h1 : WI (wld l) ∧ WJ (wld l) := wld_ind (P := fun ps => WI ps ∧ WJ ps) ⟨wi3, wj3⟩ (fun ps c h hc => ⟨h.1.define c hc, h.2.define h.1 c hc⟩) l hl
  refine ⟨tyW l hl, h1.2, ?_, ?_⟩
  · refine wld_ind (P := fun ps => ∀ k q, 0 < k → ps[k]? = some q → lookL ps q.c.su.data.toList = some q.sp ∧ q.c.su.toList.isEmpty = false) (fun k q h0 hk => ?_) (fun ps c h hc => ?_) l hl
    · match k, hk with
      | 1, hk => simp [P3] at hk; subst hk; exact ⟨by decide, by rw [Lib.toList_data]; decide⟩
      | 2, hk => simp [P3] at hk; subst hk; exact ⟨by decide, by rw [Lib.toList_data]; decide⟩
      | (k + 3), hk => simp [P3] at hk
    · cases hd : defN ps c with
      | error e => exact h
      | ok p =>
        obtain ⟨h1, _, hn, s, ks, ha, _, rfl⟩ := def_ok hd
        intro k q h0 hk
        have hk2 : (ps ++ [(⟨hcOf c, s, gathL (ps.map Plc.cl) s ks⟩ : Plc)])[k]? = some q := hk
        show lookL (ps ++ [_]) _ = _ ∧ _
        by_cases hlt : k < ps.length
        · rw [List.getElem?_append_left hlt] at hk2
          obtain ⟨h2, h3⟩ := h k q h0 hk2
          exact ⟨look_snoc h2 hn, h3⟩
        · rw [List.getElem?_append_right (by omega)] at hk2
          have he : k - ps.length = 0 := by
            have := (List.getElem?_eq_some_iff.1 hk2).1
            simp at this; omega
          rw [he] at hk2
          simp at hk2
          subst hk2
          exact ⟨look_snoc (above_ok ha).1 hn, by rw [Lib.toList_data]; exact valid_some (cls_su h1)⟩
  · refine wld_ind (P := fun ps => ∀ q ∈ ps, q.c.ni ≤ 20) (fun q hq => ?_) (fun ps c h hc => ?_) l hl
    · simp only [P3, List.mem_cons, List.not_mem_nil, or_false] at hq
      rcases hq with rfl | rfl | rfl <;> decide
    · cases hd : defN ps c with
      | error e => exact h
      | ok p =>
        obtain ⟨h1, _, hn, s, ks, ha, _, rfl⟩ := def_ok hd
        intro q hq
        rcases List.mem_append.1 hq with hq | hq
        · exact h q hq
        · simp only [List.mem_cons, List.not_mem_nil, or_false] at hq
          subst hq
          exact (cls_bound h1).1
def mkB (p : List UInt8) : ByteArray := ⟨p.toArray⟩
theorem mkB_data (p : List UInt8) : (mkB p).data.toList = p := by simp [mkB]
theorem mkB_toList (p : List UInt8) : (mkB p).toList = p := by rw [Lib.toList_data, mkB_data]
/-- a name that is there, at some dimensions -/
theorem ld_name {ps : List Plc} (h : TyW ps) {x : Int} {p : List UInt8} {k : Nat} (hk : lookL ps p = some k) (h0 : 0 ≤ x) (h1 : x ≤ 255) : ldI ps x (mkB p) = 0 ∧ (mkB p).toList.isEmpty = false := by
  obtain ⟨q, hq, hn⟩ := look_place hk
  have hv := (h.nm k q hq).2
  rw [hn] at hv
  have he : (mkB p).toList.isEmpty = false := by rw [mkB_toList]; exact valid_some hv
  refine ⟨?_, he⟩
  unfold ldI
  rw [he, mkB_data, hk]
  have hs : sndB x p = true := by unfold sndB; rw [hv, decide_eq_true h0, decide_eq_true h1]; simp
  rw [hs]; rfl
theorem look_abv {ps : List Plc} (h : TyW ps) {p : List UInt8} (hp : p ∈ abv3) : ∃ k, lookL ps p = some k := by
  obtain ⟨l0, l1, l2⟩ := h.look3
  simp only [abv3, List.mem_cons, List.not_mem_nil, or_false] at hp
  rcases hp with rfl | rfl | rfl
  · exact ⟨_, l0⟩
  · exact ⟨_, l1⟩
  · exact ⟨_, l2⟩
/-- what the steps are asked: each is loaded, above and another; and they meet all -/
def StepsOK (ps : List Plc) (x : Int) (s : ByteArray) (us : List (Int × List UInt8)) : Prop :=
  (∀ u ∈ us, ldI ps u.1 (mkB u.2) = 0 ∧ subB ps x s u.1 (mkB u.2) = true ∧ ¬ (x = u.1 ∧ s = mkB u.2)) ∧
  ∀ (y : Int) (t : ByteArray), ldI ps y t = 0 → (subB ps x s y t = true ↔ (x = y ∧ s = t) ∨ ∃ u ∈ us, subB ps u.1 (mkB u.2) y t = true)
theorem eqB {s t : ByteArray} (h : s.toList = t.toList) : s = t := by
  rw [Lib.toList_data, Lib.toList_data] at h
  obtain ⟨s⟩ := s
  obtain ⟨t⟩ := t
  simp only at h
  rw [Array.toList_inj.1 h]
/-- what is above and other is met if the steps meet it -/
theorem steps_of {ps : List Plc} (h : TyW ps) {x : Int} {s : ByteArray} {us : List (Int × List UInt8)} (hx : ldI ps x s = 0) (h1 : ∀ u ∈ us, ldI ps u.1 (mkB u.2) = 0 ∧ subB ps x s u.1 (mkB u.2) = true ∧ ¬ (x = u.1 ∧ s = mkB u.2))
    (h2 : ∀ (y : Int) (t : ByteArray), ldI ps y t = 0 → subB ps x s y t = true → (x = y ∧ s = t) ∨ ∃ u ∈ us, subB ps u.1 (mkB u.2) y t = true) : StepsOK ps x s us := by
  refine ⟨h1, fun y t hy => ⟨h2 y t hy, ?_⟩⟩
  rintro (⟨rfl, rfl⟩ | ⟨u, hu, hs⟩)
  · exact sub_refl hx
  · obtain ⟨a, b, _⟩ := h1 u hu
    exact sub_trans h hx a hy b hs
theorem steps_int {ps : List Plc} (h : TyW ps) {x : Int} {s : ByteArray} (hx : ldI ps x s = 0) (hn : intB x s = true) : StepsOK ps x s [] := by
  refine steps_of h hx (fun u hu => by simp at hu) (fun y t hy hs => .inl ?_)
  unfold intB at hn
  simp only [Bool.and_eq_true, beq_iff_eq] at hn
  obtain ⟨rfl, he⟩ := hn
  obtain ⟨y0, _, _⟩ := ld_facts hy
  rcases (sub_iff hx hy).1 hs with ⟨_, b, c⟩ | ⟨_, c, _⟩ | ⟨a, _⟩
  · rw [List.isEmpty_iff] at he b
    exact ⟨c, eqB (by rw [he, b])⟩
  · omega
  · rw [he] at a; cases a
theorem steps_arr {ps : List Plc} (h : TyW ps) {x : Int} {s : ByteArray} (hx : ldI ps x s = 0) (h0 : 0 < x) (hc : s.toList.isEmpty = true ∨ s.toList = sObj) : StepsOK ps x s (abv3.map fun p => (x - 1, p)) := by
  obtain ⟨x0, x1, _⟩ := ld_facts hx
  have up : ∀ p ∈ abv3, ldI ps (x - 1) (mkB p) = 0 ∧ (mkB p).toList.isEmpty = false := fun p hp => by
    obtain ⟨k, hk⟩ := look_abv h hp
    exact ld_name h hk (by omega) (by omega)
  refine steps_of h hx (fun u hu => ?_) (fun y t hy hs => ?_)
  · obtain ⟨p, hp, rfl⟩ := List.mem_map.1 hu
    refine ⟨(up p hp).1, (sub_iff hx (up p hp).1).2 (.inr (.inl ⟨(up p hp).2, by show x - 1 < x; omega, by rw [mkB_data]; exact hp⟩)), fun e => ?_⟩
    have : x = x - 1 := e.1
    omega
  · have go : y < x → t.data.toList ∈ abv3 → t.toList.isEmpty = false → ∃ u ∈ abv3.map (fun p => (x - 1, p)), subB ps u.1 (mkB u.2) y t = true := fun hyx ht hte => by
      by_cases hy1 : y = x - 1
      · refine ⟨(x - 1, t.data.toList), List.mem_map.2 ⟨_, ht, rfl⟩, ?_⟩
        have e : mkB t.data.toList = t := eqB (by rw [mkB_toList, Lib.toList_data])
        show subB ps (x - 1) (mkB t.data.toList) y t = true
        rw [e, hy1]
        rw [hy1] at hy
        exact sub_refl hy
      · refine ⟨(x - 1, sObj), List.mem_map.2 ⟨sObj, by simp [abv3], rfl⟩, (sub_iff (up sObj (by simp [abv3])).1 hy).2 (.inr (.inl ⟨hte, by show y < x - 1; omega, ht⟩))⟩
    rcases (sub_iff hx hy).1 hs with ⟨a, b, c⟩ | ⟨a, b, c⟩ | ⟨a, b, c, i, j, hi, hj, he⟩
    · rw [List.isEmpty_iff] at a b
      exact .inl ⟨c, eqB (by rw [a, b])⟩
    · exact .inr (go b c a)
    · rcases hc with hc | hc
      · rw [hc] at a; cases a
      · left
        rw [Lib.toList_data] at hc
        rw [hc, h.look3.1] at hi
        cases hi
        have := h.ext0 he
        subst this
        refine ⟨c, eqB ?_⟩
        rw [Lib.toList_data, Lib.toList_data, hc]
        exact (h.inj hj h.look3.1).symm
theorem steps_cls {ps : List Plc} (h : StW ps) {x : Int} {s : ByteArray} (hx : ldI ps x s = 0) (he : s.toList.isEmpty = false) {k : Nat} {q : Plc} (hk : lookL ps s.data.toList = some k) (hq : ps[k]? = some q) (h0 : 0 < k) (ns : List (List UInt8)) (hns : q.c.xi = strsV ns) : StepsOK ps x s ([(x, q.c.su.data.toList)] ++ ns.map fun p => (x, p)) := by
  obtain ⟨x0, x1, _⟩ := ld_facts hx
  obtain ⟨hsu, hse⟩ := h.su k q h0 hq
  obtain ⟨names, ks, p1, p2, p3, p4, p5, p6, p7⟩ := h.wj k q hq
  obtain rfl : names = ns := by
    have := congrArg txtL (p1.symm.trans hns)
    rwa [txt_strs, txt_strs] at this
  have hwo := h.ty.wi.wo
  have hkl : k < (ps.map nd).length := by rw [List.length_map]; exact (List.getElem?_eq_some_iff.1 hq).1
  have hsp : spO (ps.map nd) k = q.sp := spO_at hq
  have hcl : clO (ps.map nd) k = q.cl := clO_at hq
  have hspl : q.sp < k := by rw [← hsp]; exact hwo.spLt hkl h0
  have key : ∀ (p : List UInt8) (j : Nat), lookL ps p = some j → extB (ps.map nd) k j = true → j ≠ k → ldI ps x (mkB p) = 0 ∧ subB ps x s x (mkB p) = true ∧ ¬ (x = x ∧ s = mkB p) := fun p j hj hej hne => by
    obtain ⟨a, b⟩ := ld_name h.ty hj x0 x1
    refine ⟨a, (sub_iff hx a).2 (.inr (.inr ⟨he, b, rfl, k, j, hk, by rw [mkB_data]; exact hj, hej⟩)), fun e => ?_⟩
    rw [e.2, mkB_data, hj] at hk
    cases hk
    exact hne rfl
  have e1 : extB (ps.map nd) k q.sp = true := by
    refine (ext_iff _ _ _).2 (.inl ?_)
    rw [chL_cons hwo hkl h0, hsp]
    exact List.mem_cons_of_mem _ (chL_self _ _)
  have e2 : ∀ j ∈ ks, extB (ps.map nd) k j = true := fun j hj => by
    refine (ext_iff _ _ _).2 (.inr ?_)
    rw [hcl, p7, gathL_iff]
    exact .inr ⟨j, hj, .inl rfl⟩
  refine steps_of h.ty hx (fun u hu => ?_) (fun y t hy hs => ?_)
  · rcases List.mem_append.1 hu with hu | hu
    · simp only [List.mem_cons, List.not_mem_nil, or_false] at hu
      subst hu
      exact key _ q.sp hsu e1 (by omega)
    · obtain ⟨p, hp, rfl⟩ := List.mem_map.1 hu
      obtain ⟨i, hi⟩ := List.mem_iff_getElem?.1 hp
      obtain ⟨j, hj1, hj2⟩ := p5 i p hi
      have hjm := List.mem_of_getElem? hj1
      exact key p j hj2 (e2 j hjm) (by have := p6 j hjm; omega)
  · have su := ld_name h.ty hsu x0 x1
    rcases (sub_iff hx hy).1 hs with ⟨a, _⟩ | ⟨a, b, c⟩ | ⟨a, b, c, i, j, hi, hj, hej⟩
    · rw [he] at a; cases a
    · exact .inr ⟨(x, q.c.su.data.toList), by simp, (sub_iff su.1 hy).2 (.inr (.inl ⟨a, b, c⟩))⟩
    · rw [hk] at hi
      cases hi
      subst c
      by_cases hjk : j = k
      · subst hjk
        left
        refine ⟨rfl, eqB ?_⟩
        rw [Lib.toList_data, Lib.toList_data]
        exact h.ty.inj hk hj
      · right
        have viaSup : extB (ps.map nd) q.sp j = true → ∃ u ∈ ([(x, q.c.su.data.toList)] ++ names.map fun p => (x, p)), subB ps u.1 (mkB u.2) x t = true := fun hx2 =>
          ⟨(x, q.c.su.data.toList), by simp, (sub_iff su.1 hy).2 (.inr (.inr ⟨su.2, b, rfl, q.sp, j, by rw [mkB_data]; exact hsu, hj, hx2⟩))⟩
        have viaIf : ∀ m ∈ ks, extB (ps.map nd) m j = true → ∃ u ∈ ([(x, q.c.su.data.toList)] ++ names.map fun p => (x, p)), subB ps u.1 (mkB u.2) x t = true := fun m hm hx2 => by
          obtain ⟨i, hi⟩ := List.mem_iff_getElem?.1 hm
          have hil : i < names.length := by have := (List.getElem?_eq_some_iff.1 hi).1; omega
          obtain ⟨m', hm1, hm2⟩ := p5 i _ (List.getElem?_eq_getElem hil)
          rw [hi] at hm1
          cases hm1
          have a2 := ld_name h.ty hm2 x0 x1
          exact ⟨(x, names[i]), List.mem_append_right _ (List.mem_map.2 ⟨_, List.getElem_mem hil, rfl⟩), (sub_iff a2.1 hy).2 (.inr (.inr ⟨a2.2, b, rfl, m, j, by rw [mkB_data]; exact hm2, hj, hx2⟩))⟩
        rcases (ext_iff _ _ _).1 hej with hc | hc
        · rw [chL_cons hwo hkl h0, hsp] at hc
          rcases List.mem_cons.1 hc with e | hc
          · exact absurd e hjk
          · exact viaSup ((ext_iff _ _ _).2 (.inl hc))
        · rw [hcl, p7, gathL_iff] at hc
          rcases hc with hc | ⟨m, hm, hc⟩
          · rw [getD_cl2] at hc
            exact viaSup ((ext_iff _ _ _).2 (.inr hc))
          · rcases hc with rfl | hc
            · exact viaIf j hm (ext_self _ _)
            · rw [getD_cl2] at hc
              exact viaIf m hm ((ext_iff _ _ _).2 (.inr hc))
theorem steps_top {ps : List Plc} (h : TyW ps) {s : ByteArray} (hx : ldI ps 0 s = 0) (he : s.toList.isEmpty = false) (hk : lookL ps s.data.toList = some 0) : StepsOK ps 0 s [] := by
  refine steps_of h hx (fun u hu => by simp at hu) (fun y t hy hs => .inl ?_)
  obtain ⟨y0, _, _⟩ := ld_facts hy
  rcases (sub_iff hx hy).1 hs with ⟨a, _⟩ | ⟨_, c, _⟩ | ⟨a, b, c, i, j, hi, hj, hej⟩
  · rw [he] at a; cases a
  · omega
  · rw [hk] at hi
    cases hi
    have := h.ext0 hej
    subst this
    refine ⟨c, eqB ?_⟩
    rw [Lib.toList_data, Lib.toList_data]
    exact h.inj hk hj


theorem above_c {ps : List Plc} (hS : StW ps) (x : Int) (s : ByteArray) (hs : s.size ≤ maxLen) (hl : ldI ps x s = 0) : ∃ us, StepsOK ps x s us ∧ us.length ≤ 100 ∧ ∀ b W, WAt b ps W → Calls Tryz.prog 53 #[.pointer (some ⟨b, 0, none⟩), .agg #[.int .i64 x, .string s]] W fun e w' => (∃ v, e = .returned (.tuple #[v, .int .i64 0]) ∧ w'.ownsRow W.heap.size 71 2 v us.length (flatU us)) ∧ Below W.heap.size W w' := by
  obtain ⟨x0, x1, xk⟩ := ld_facts hl
  cases hn : intB x s with
  | true => exact ⟨[], steps_int hS.ty hl hn, by simp, fun b W h => above_int h x s hs hl hn⟩
  | false =>
    by_cases hc : 0 < x ∧ (s.toList.isEmpty = true ∨ s.toList = sObj)
    · exact ⟨_, steps_arr hS.ty hl hc.1 hc.2, by simp [abv3], fun b W h => above_arr h x s hs hl hn hc.2 hc.1 x1⟩
    · have he : s.toList.isEmpty = false := by
        cases he : s.toList.isEmpty with
        | false => rfl
        | true =>
          exfalso
          by_cases hx : 0 < x
          · exact hc ⟨hx, .inl he⟩
          · have e0 : x = 0 := by omega
            rw [intB, he, e0] at hn
            exact absurd hn (by decide)
      have hc2 : ¬ (0 < x ∧ s.toList = sObj) := fun h => hc ⟨h.1, .inr h.2⟩
      obtain ⟨k, hk⟩ := xk he
      obtain ⟨q, hq, hnm⟩ := look_place hk
      have hqm := List.mem_of_getElem? hq
      have hB := hS.ty.wi.pb q hqm
      obtain ⟨names, ks, p1, p2, p3, p4, p5, p6, p7⟩ := hS.wj k q hq
      have hni := hS.ni q hqm
      by_cases h0 : 0 < k
      · have hsu := (hS.su k q h0 hq).2
        refine ⟨_, steps_cls hS hl he hk hq h0 names p1, by simp; omega, fun b W h => ?_⟩
        have := above_cls h x s hs hl hn he hc2 k q hk hq hB names p2 p1 (by omega) hsu
        refine this.mono ?_
        rintro e w' ⟨⟨v, h1, h2⟩, h3⟩
        exact ⟨⟨v, h1, by simpa [Nat.add_comm] using h2⟩, h3⟩
      · obtain rfl : k = 0 := by omega
        have hq0 := hS.ty.first.1
        rw [hq] at hq0
        cases hq0
        have hob : s.toList = sObj := by
          rw [Lib.toList_data]; exact hS.ty.inj hk hS.ty.look3.1
        have hx0 : ¬ 0 < x := fun hx => hc2 ⟨hx, hob⟩
        obtain rfl : x = 0 := by omega
        have hnn : names = [] := List.length_eq_zero_iff.1 p2.symm
        exact ⟨[], steps_top hS.ty hl he hk, by simp, fun b W h => above_top h 0 s hs hl hn he hc2 0 _ hk hq hB names p2 p1 (by rw [hnn]; decide) (by rw [Lib.toList_data]; rfl) hnn hx0⟩
theorem ld_len {ps : List Plc} (hS : TyW ps) {d : Int} {p : List UInt8} (h : ldI ps d (mkB p) = 0) : p.length ≤ maxLen := by
  cases he : (mkB p).toList.isEmpty with
  | true =>
    rw [mkB_toList, List.isEmpty_iff] at he
    rw [he]; unfold maxLen; simp
  | false =>
    obtain ⟨k, hk⟩ := (ld_facts h).2.2 he
    rw [mkB_data] at hk
    obtain ⟨q, hq, hn⟩ := look_place hk
    have := (hS.wi.pb q (List.mem_of_getElem? hq)).nm
    rw [← hn, nameL, Array.length_toList]
    exact this


theorem clss_keep {w w' : World} {v : Value} {l : List Cls} (h : IsClss w v l) (hb : Below w.heap.size w w') : IsClss w' v l := by
  obtain ⟨ao, cap, rfl, h1, h2, h3⟩ := h
  refine ⟨ao, cap, rfl, h1, h2, fun hne => ?_⟩
  obtain ⟨bk, o, e, hlt, hc⟩ := h3 hne
  refine ⟨bk, o, e, Nat.lt_of_lt_of_le hlt hb.size, fun k c hk => ?_⟩
  obtain ⟨vi, vm, h4, h5⟩ := hc k c hk
  exact ⟨vi, vm, fun j u hj => (hb.cell hlt).trans (h4 j u hj), h5.keep hb⟩


set_option maxRecDepth 100000 in
theorem awake7_c (W : World) : Calls Tryz.prog 45 #[] W fun e w' => e = .returned (.bool true) ∧ Below W.heap.size W w' := by
  have HN : Hid (∀ w : World, Calls Tryz.prog 43 #[] w fun e w' => e = .returned (.pointer (some ⟨w.heap.size + 1, 0, none⟩)) ∧ (∃ vp pv, HW w' w.heap.size (w.heap.size + 1) w.heap.size P3 vp pv) ∧ Below w.heap.size w w') := new_any
  have HO : Hid (∀ (w : World) (b : Nat), WAt b P3 w → Calls Tryz.prog 48 #[.pointer (some ⟨b, 0, none⟩), .agg #[.int .i64 1, .string ⟨#[]⟩], .agg #[.int .i64 0, .string tClo]] w fun e w' => e = .returned (.tuple #[.bool true, .int .i64 0]) ∧ Below w.heap.size w w') := fun w b h => by
    have l1 : ldI P3 1 ⟨#[]⟩ = 0 := by unfold ldI; rw [Lib.toList_data]; rfl
    have l2 : ldI P3 0 tClo = 0 := by unfold ldI; rw [Lib.toList_data]; rfl
    have e : suI P3 1 ⟨#[]⟩ 0 tClo = .tuple #[.bool true, .int .i64 0] := by
      rw [suI, if_pos l1, if_pos l2, (sub_iff l1 l2).2 (.inr (.inl ⟨by rw [Lib.toList_data]; rfl, by decide, by decide⟩))]
    rw [← e]
    exact sub_c h wi3 1 ⟨#[]⟩ 0 tClo (by decide) (by decide)
  have ht : tClo = ⟨#[67, 108, 111, 110, 101, 97, 98, 108, 101]⟩ := rfl
  rw [ht] at HO
  clear ht
  go_enter Tryz.func45, Tryz.ntmps45
  go_wp2_with (first
    | (go_at_call 43; refine (HN.out _).mono ?_; rintro e w1 ⟨rfl, ⟨vp, pv, hw⟩, hb⟩; have H1 : Hid (WAt (W.heap.size + 1) P3 w1) := hw.wat; have B1 : Hid (Below W.heap.size W w1) := hb; clear hw hb HN)
    | (go_at_call 48; refine (HO.out _ _ H1.out).mono ?_; rintro e w2 ⟨rfl, hb⟩; have B2 : Hid (Below W.heap.size W w2) := bstep B1.out hb; clear hb HO))
  exact bodyPost_ret (results_tmp rfl _ _ _) rfl ⟨rfl, B2.out⟩


/-- two types, each in a block -/
def Ty2 (w : World) (n : Nat) (x y : Int) (s t : ByteArray) : Prop := n + 1 < w.heap.size ∧ w.cell? ⟨n, 0, none⟩ = some (.int .i64 x) ∧ w.cell? ⟨n, 1, none⟩ = some (.string s) ∧ w.cell? ⟨n + 1, 0, none⟩ = some (.int .i64 y) ∧ w.cell? ⟨n + 1, 1, none⟩ = some (.string t)
theorem Ty2.keep {w w' : World} {n : Nat} {x y : Int} {s t : ByteArray} (h : Ty2 w n x y s t) (hb : Below w.heap.size w w') : Ty2 w' n x y s t := by
  obtain ⟨h0, h1, h2, h3, h4⟩ := h
  have k : ∀ (m j : Nat) (v : Value), m ≤ n + 1 → w.cell? ⟨m, j, none⟩ = some v → w'.cell? ⟨m, j, none⟩ = some v := fun m j v hm hv => (hb.cell (p := ⟨m, j, none⟩) (show m < w.heap.size by omega)).trans hv
  exact ⟨Nat.lt_of_lt_of_le h0 hb.size, k _ _ _ (by omega) h1, k _ _ _ (by omega) h2, k _ _ _ (by omega) h3, k _ _ _ (by omega) h4⟩
theorem Ty2.new (W : World) (x y : Int) (s t : ByteArray) : Ty2 ((W.alloc (.cells #[.int .i64 x, .string s] 71)).alloc (.cells #[.int .i64 y, .string t] 71)) W.heap.size x y s t := by
  refine ⟨by simp, ?_, ?_, ?_, ?_⟩ <;> simp [go_sem]
theorem flatU_at (l : List (Int × List UInt8)) (k : Nat) (p : Int × List UInt8) (h : l[k]? = some p) (j : Nat) (hj : j < 2) : (flatU l)[k * 2 + j]? = (tyU p)[j]? := by
  induction l generalizing k with
  | nil => simp at h
  | cons u ts ih =>
    have e : flatU (u :: ts) = tyU u ++ flatU ts := by simp [flatU]
    rw [e]
    cases k with
    | zero => simp at h; subst h; rw [List.getElem?_append_left (by simp [tyU]; omega)]; simp
    | succ k =>
      simp at h
      rw [List.getElem?_append_right (by simp [tyU]; omega)]
      have := ih k h
      rw [← this]
      congr 1
      simp [tyU]; omega
/-- met by the first k steps? -/
def metB (ps : List Plc) (m0 : Bool) (y : Int) (t : ByteArray) (us : List (Int × List UInt8)) : Bool := m0 || us.any fun u => subB ps u.1 (mkB u.2) y t
set_option maxRecDepth 100000 in
set_option maxHeartbeats 4000000 in
theorem steps_walk (v : Value) (l : List Cls) (ps : List Plc) (hps : ps = wld l) (x y : Int) (s t : ByteArray) (hs : s.size ≤ maxLen) (ht : t.size ≤ maxLen) (W : World) (h : IsClss W v l) (hx : ldI ps x s = 0) (hy : ldI ps y t = 0) (us : List (Int × List UInt8)) (hus : us.length ≤ 100) (hok : StepsOK ps x s us) (hpl : ∀ u ∈ us, u.2.length ≤ maxLen)
    (hab : ∀ b w, WAt b ps w → Calls Tryz.prog 53 #[.pointer (some ⟨b, 0, none⟩), .agg #[.int .i64 x, .string s]] w fun e w' => (∃ v, e = .returned (.tuple #[v, .int .i64 0]) ∧ w'.ownsRow w.heap.size 71 2 v us.length (flatU us)) ∧ Below w.heap.size w w') :
    Calls Tryz.prog 8 #[v, .agg #[.int .i64 x, .string s], .agg #[.int .i64 y, .string t]] W fun e w' => e = .returned (.bool true) ∧ Below W.heap.size W w' := by
  have hCW := clss_w h
  have hWI : WI ps := by rw [hps]; exact wld_wi l hCW
  have HA : Hid (∀ w : World, Calls Tryz.prog 45 #[] w fun e w' => e = .returned (.bool true) ∧ Below w.heap.size w w') := awake7_c
  have HB : Hid (∀ w : World, Below W.heap.size W w → Calls Tryz.prog 46 #[v] w fun e w' => (∃ b, e = .returned (.pointer (some ⟨b, 0, none⟩)) ∧ WAt b ps w') ∧ Below w.heap.size w w') := fun w hb => by rw [hps]; exact built7_c v l w (clss_keep h hb)
  have LD : Hid (∀ b w k q r, WAt b ps w → (ldI ps k q = r ∧ q.size ≤ maxLen) → Calls Tryz.prog 50 #[.pointer (some ⟨b, 0, none⟩), .agg #[.int .i64 k, .string q]] w fun e w' => e = .returned (.int .i64 r) ∧ Below w.heap.size w w') := fun b w k q r hw hr => by rw [← hr.1]; exact loaded_c hw k q hr.2
  have SU : Hid (∀ b w k q k' q' r, WAt b ps w → (suI ps k q k' q' = .tuple #[.bool r, .int .i64 0] ∧ q.size ≤ maxLen ∧ q'.size ≤ maxLen) → Calls Tryz.prog 48 #[.pointer (some ⟨b, 0, none⟩), .agg #[.int .i64 k, .string q], .agg #[.int .i64 k', .string q']] w fun e w' => e = .returned (.tuple #[.bool r, .int .i64 0]) ∧ Below w.heap.size w w') := fun b w k q k' q' r hw hr => by rw [← hr.1]; exact sub_c hw hWI k q k' q' hr.2.1 hr.2.2
  have AB : Hid (∀ b w, WAt b ps w → Calls Tryz.prog 53 #[.pointer (some ⟨b, 0, none⟩), .agg #[.int .i64 x, .string s]] w fun e w' => (∃ v, e = .returned (.tuple #[v, .int .i64 0]) ∧ w'.ownsRow w.heap.size 71 2 v us.length (flatU us)) ∧ Below w.heap.size w w') := hab
  have SMA : Hid (∀ k q w, Calls Tryz.prog 52 #[.agg #[.int .i64 x, .string s], .agg #[.int .i64 k, .string q]] w fun e w' => e = .returned (.bool (decide (x = k) && decide (s = q))) ∧ Below w.heap.size w w') := fun k q w => tySame_any x k s q w
  have L1 : Hid (ldI ps x s = 0 ∧ s.size ≤ maxLen) := ⟨hx, hs⟩
  have L2 : Hid (ldI ps y t = 0 ∧ t.size ≤ maxLen) := ⟨hy, ht⟩
  have su : ∀ {x y : Int} {s t : ByteArray}, ldI ps x s = 0 → ldI ps y t = 0 → suI ps x s y t = .tuple #[.bool (subB ps x s y t), .int .i64 0] := fun h1 h2 => by rw [suI, if_pos h1, if_pos h2]
  have S0 : Hid (suI ps x s y t = .tuple #[.bool (subB ps x s y t), .int .i64 0] ∧ s.size ≤ maxLen ∧ t.size ≤ maxLen) := ⟨su hx hy, hs, ht⟩
  obtain ⟨m0, hm0⟩ : ∃ m, (decide (x = y) && decide (s = t)) = m := ⟨_, rfl⟩
  have SM : Hid (∀ w : World, Calls Tryz.prog 52 #[.agg #[.int .i64 x, .string s], .agg #[.int .i64 y, .string t]] w fun e w' => e = .returned (.bool m0) ∧ Below w.heap.size w w') := fun w => by rw [← hm0]; exact SMA.out y t w
  have FE : Hid (metB ps m0 y t us = subB ps x s y t) := by
    rw [Hid, Bool.eq_iff_iff, hok.2 y t hy, metB, Bool.or_eq_true, List.any_eq_true, ← hm0, Bool.and_eq_true, decide_eq_true_eq, decide_eq_true_eq]
  have HE : Hid (∀ k d p, us[k]? = some (d, p) → (suI ps x s d (mkB p) = .tuple #[.bool true, .int .i64 0] ∧ s.size ≤ maxLen ∧ (mkB p).size ≤ maxLen) ∧ (suI ps d (mkB p) y t = .tuple #[.bool (subB ps d (mkB p) y t), .int .i64 0] ∧ (mkB p).size ≤ maxLen ∧ t.size ≤ maxLen) ∧ (decide (x = d) && decide (s = mkB p)) = false) := fun k d p hk => by
    have hm := List.mem_of_getElem? hk
    obtain ⟨a1, a2, a3⟩ := hok.1 _ hm
    simp only at a1 a2 a3
    have hz : (mkB p).size ≤ maxLen := by have := hpl _ hm; simpa [mkB, ByteArray.size] using this
    refine ⟨⟨by rw [su hx a1, a2], hs, hz⟩, ⟨su a1 hy, hz, ht⟩, ?_⟩
    rw [Bool.eq_false_iff]
    intro hh
    simp only [Bool.and_eq_true, decide_eq_true_eq] at hh
    exact a3 hh
  generalize subB ps x s y t = be at *
  clear h hCW hWI hps su hm0 hok hpl hab hx hy hs ht
  go_enter Tryz.func8, Tryz.ntmps8
  go_wp2_with (first
    | (go_at_call 45; refine (HA.out _).mono ?_; rintro e w1 ⟨rfl, hb⟩; have BB : Hid (Below W.heap.size W w1) := bstep (by repeat (first | exact Below.refl _ _ | refine Below.setCell ?_ (by simp; try omega) _ | refine Below.alloc ?_ (by simp; try omega) _ | refine Below.drew ?_)) hb; have T2 : Ty2 w1 W.heap.size x y s t := (Ty2.new W x y s t).keep hb; have T : Hid (Ty2 w1 W.heap.size x y s t) := T2; obtain ⟨hl3, c0, c1, c2, c3⟩ := T2; clear hb HA)
    | (go_at_call 46; refine (HB.out _ BB.out).mono ?_; rintro e w2 ⟨⟨b, rfl, hw⟩, hb⟩; have HH : Hid (WAt b ps w2) := hw; have BB2 : Below W.heap.size W w2 := bstep BB.out hb; clear BB; have BB : Hid (Below W.heap.size W w2) := BB2; have T2 := T.out.keep hb; clear T hl3 c0 c1 c2 c3; have T : Hid (Ty2 w2 W.heap.size x y s t) := T2; obtain ⟨hl3, c0, c1, c2, c3⟩ := T2; clear hb HB hw BB2)
    | (go_at_call 50; refine (LD.out _ _ _ _ _ HH.out (by first | exact L1.out | exact L2.out)).mono ?_; rintro e w3 ⟨rfl, hb⟩; have HH2 := HH.out.below hb; clear HH; have HH : Hid (WAt b ps w3) := HH2; have BB2 : Below W.heap.size W w3 := bstep BB.out hb; clear BB; have BB : Hid (Below W.heap.size W w3) := BB2; have T2 := T.out.keep hb; clear T hl3 c0 c1 c2 c3; have T : Hid (Ty2 w3 W.heap.size x y s t) := T2; obtain ⟨hl3, c0, c1, c2, c3⟩ := T2; clear hb HH2 BB2)
    | (go_at_call 53; refine (AB.out _ _ HH.out).mono ?_; rintro e w4 ⟨⟨vv, rfl, hov⟩, hb⟩; obtain ⟨au, cu, rfl⟩ := ownv hov; have OU : Hid (w4.ownsRow w3.heap.size 71 2 (.slice au us.length cu) us.length (flatU us)) := hov; clear hov; have HH2 := HH.out.below hb; clear HH; have HH : Hid (WAt b ps w4) := HH2; have BB2 : Below W.heap.size W w4 := bstep BB.out hb; clear BB; have BB : Hid (Below W.heap.size W w4) := BB2; have T2 := T.out.keep hb; clear T hl3 c0 c1 c2 c3; have T : Hid (Ty2 w4 W.heap.size x y s t) := T2; obtain ⟨hl3, c0, c1, c2, c3⟩ := T2; clear hb HH2 BB2 AB)
    | (go_at_call 48; refine (SU.out _ _ _ _ _ _ _ HH.out (by first | exact S0.out)).mono ?_; rintro e w5 ⟨rfl, hb⟩; have OU2 := rowBelow OU.out hb; clear OU; have OU : Hid (w5.ownsRow w3.heap.size 71 2 (.slice au us.length cu) us.length (flatU us)) := OU2; clear OU2; have HH2 := HH.out.below hb; clear HH; have HH : Hid (WAt b ps w5) := HH2; have BB2 : Below W.heap.size W w5 := bstep BB.out hb; clear BB; have BB : Hid (Below W.heap.size W w5) := BB2; have T2 := T.out.keep hb; clear T hl3 c0 c1 c2 c3; have T : Hid (Ty2 w5 W.heap.size x y s t) := T2; obtain ⟨hl3, c0, c1, c2, c3⟩ := T2; clear hb HH2 BB2)
    | (go_at_call 52; refine (SM.out _).mono ?_; rintro e w6 ⟨rfl, hb⟩; have HH2 := HH.out.below hb; clear HH; have HH : Hid (WAt b ps w6) := HH2; have BB2 : Below W.heap.size W w6 := bstep BB.out hb; clear BB; have BB : Hid (Below W.heap.size W w6) := BB2; have T2 := T.out.keep hb; clear T hl3 c0 c1 c2 c3; have T : Hid (Ty2 w6 W.heap.size x y s t) := T2; obtain ⟨hl3, c0, c1, c2, c3⟩ := T2; have OU2 := rowBelow OU.out hb; clear OU; have OU : Hid (w6.ownsRow w3.heap.size 71 2 (.slice au us.length cu) us.length (flatU us)) := OU2; clear hb HH2 BB2 OU2 SM))
  obtain ⟨L, hL⟩ : ∃ L, us.length = L := ⟨_, rfl⟩
  have HL : Hid (us.length = L) := hL
  rw [hL] at hus OU ⊢
  obtain ⟨M, hM⟩ : ∃ M, M = w3.heap.size := ⟨_, rfl⟩
  rw [← hM] at OU
  clear hL hM c0 c1 c2 c3 hl3
  go_loopw [12, 13] (fun mv kv wr => ∃ (k : Nat), kv = .int .i64 k ∧ k ≤ L ∧ mv = .bool (metB ps m0 y t (us.take k)) ∧ Hid (WAt b ps wr) ∧ Hid (Below W.heap.size W wr) ∧ Hid (Ty2 wr W.heap.size x y s t) ∧ Hid (wr.ownsRow M 71 2 (.slice au L cu) L (flatU us))) (fun _ kv _ => L - (intOf kv).toNat)
  case atStart => exact ⟨0, rfl, Nat.zero_le _, by simp [metB], HH, BB, T, OU⟩
  case round =>
    clear HH BB T OU
    obtain ⟨k, rfl, hk, rfl, HH, BB, T, OU⟩ := hrel
    by_cases hlt : k < L
    · obtain ⟨⟨d, p⟩, hp⟩ : ∃ u, us[k]? = some u := ⟨_, List.getElem?_eq_getElem (by rw [HL.out]; exact hlt)⟩
      obtain ⟨gu, cap', hgv⟩ := Go.Joins.ownsRow_form OU.out (by omega)
      simp only [Value.slice.injEq] at hgv
      obtain ⟨rfl, -, -⟩ := hgv
      have g0 : wr.cell? ⟨gu, k * 2, none⟩ = some (.int .i64 d) := (OU.out.cellAt (k * 2 + 0) (by omega)).trans (flatU_at us k _ hp 0 (by omega))
      have g1 : wr.cell? ⟨gu, k * 2 + 1, none⟩ = some (.string (mkB p)) := (OU.out.cellAt (k * 2 + 1) (by omega)).trans (flatU_at us k _ hp 1 (by omega))
      have hgu : gu < wr.heap.size := World.block_lt_of_cell? _ _ g0
      obtain ⟨e1, e2, e3⟩ := HE.out k d p hp
      have S1 : Hid (suI ps x s d (mkB p) = .tuple #[.bool true, .int .i64 0] ∧ s.size ≤ maxLen ∧ (mkB p).size ≤ maxLen) := e1
      have S2 : Hid (suI ps d (mkB p) y t = .tuple #[.bool (subB ps d (mkB p) y t), .int .i64 0] ∧ (mkB p).size ≤ maxLen ∧ t.size ≤ maxLen) := e2
      have SM2 : Hid (∀ w : World, Calls Tryz.prog 52 #[.agg #[.int .i64 x, .string s], .agg #[.int .i64 d, .string (mkB p)]] w fun e w' => e = .returned (.bool false) ∧ Below w.heap.size w w') := fun w => by rw [← e3]; exact SMA.out d (mkB p) w
      have NX : Hid (metB ps m0 y t (us.take (k + 1)) = (metB ps m0 y t (us.take k) || subB ps d (mkB p) y t)) := by
        rw [Hid, metB, metB, List.take_add_one, hp]
        simp [Bool.or_assoc]
      have hkL : (k : Int) < (L : Int) := by omega
      generalize metB ps m0 y t (us.take k) = mk at *
      generalize subB ps d (mkB p) y t = r at *
      generalize mkB p = pb at *
      have T2 := T.out
      obtain ⟨hl3, c0, c1, c2, c3⟩ := T2
      clear hp e1 e2 e3 FE HE SMA
      cases mk
      all_goals go_wp2
      all_goals go_region_held3 (fun w' => w'.cell? ⟨W.heap.size, 0, none⟩ = some (.int .i64 x) ∧ w'.cell? ⟨W.heap.size, 1, none⟩ = some (.string s) ∧ w'.cell? ⟨gu, k * 2, none⟩ = some (.int .i64 d) ∧ w'.cell? ⟨gu, k * 2 + 1, none⟩ = some (.string pb)) (go_keep) (first
        | (go_at_call 48; refine (SU.out _ _ _ _ _ _ _ (HH.out.below (by repeat (first | exact Below.refl _ _ | refine Below.setCell ?_ (by simp; try omega) _ | refine Below.alloc ?_ (by simp; try omega) _ | refine Below.drew ?_))) (by exact S1.out)).mono ?_; rintro e w8 ⟨rfl, hb0⟩; have hb : Below wr.heap.size wr w8 := bstep (by repeat (first | exact Below.refl _ _ | refine Below.setCell ?_ (by simp; try omega) _ | refine Below.alloc ?_ (by simp; try omega) _ | refine Below.drew ?_)) hb0; clear hb0; have HH2 := HH.out.below hb; clear HH; have HH : Hid (WAt b ps w8) := HH2; have BB2 : Below W.heap.size W w8 := bstep BB.out hb; clear BB; have BB : Hid (Below W.heap.size W w8) := BB2; have T2 := T.out.keep hb; clear T hl3; have T : Hid (Ty2 w8 W.heap.size x y s t) := T2; obtain ⟨hl3, c0, c1, c2, c3⟩ := T2; have OU2 := rowBelow OU.out hb; clear OU; have OU : Hid (w8.ownsRow M 71 2 (.slice (some ⟨gu, 0, none⟩) L cu) L (flatU us)) := OU2; clear OU2; replace g0 : w8.cell? ⟨gu, k * 2, none⟩ = some (.int .i64 d) := (hb.cell (p := ⟨gu, k * 2, none⟩) hgu).trans g0; replace g1 : w8.cell? ⟨gu, k * 2 + 1, none⟩ = some (.string pb) := (hb.cell (p := ⟨gu, k * 2 + 1, none⟩) hgu).trans g1; replace hgu := Nat.lt_of_lt_of_le hgu hb.size; clear hb HH2 BB2))
      all_goals go_wp2
      all_goals go_region_held3 (fun w' => w'.cell? ⟨W.heap.size, 0, none⟩ = some (.int .i64 x) ∧ w'.cell? ⟨W.heap.size, 1, none⟩ = some (.string s) ∧ w'.cell? ⟨gu, k * 2, none⟩ = some (.int .i64 d) ∧ w'.cell? ⟨gu, k * 2 + 1, none⟩ = some (.string pb)) (go_keep) (first
        | (go_at_call 52; refine (SM2.out _).mono ?_; rintro e w9 ⟨rfl, hb0⟩; have hb : Below w8.heap.size w8 w9 := bstep (by repeat (first | exact Below.refl _ _ | refine Below.setCell ?_ (by simp; try omega) _ | refine Below.alloc ?_ (by simp; try omega) _ | refine Below.drew ?_)) hb0; clear hb0; have HH2 := HH.out.below hb; clear HH; have HH : Hid (WAt b ps w9) := HH2; have BB2 : Below W.heap.size W w9 := bstep BB.out hb; clear BB; have BB : Hid (Below W.heap.size W w9) := BB2; have T2 := T.out.keep hb; clear T hl3; have T : Hid (Ty2 w9 W.heap.size x y s t) := T2; obtain ⟨hl3, c0, c1, c2, c3⟩ := T2; have OU2 := rowBelow OU.out hb; clear OU; have OU : Hid (w9.ownsRow M 71 2 (.slice (some ⟨gu, 0, none⟩) L cu) L (flatU us)) := OU2; clear OU2; replace g0 : w9.cell? ⟨gu, k * 2, none⟩ = some (.int .i64 d) := (hb.cell (p := ⟨gu, k * 2, none⟩) hgu).trans g0; replace g1 : w9.cell? ⟨gu, k * 2 + 1, none⟩ = some (.string pb) := (hb.cell (p := ⟨gu, k * 2 + 1, none⟩) hgu).trans g1; replace hgu := Nat.lt_of_lt_of_le hgu hb.size; clear hb HH2 BB2))
      all_goals go_wp2
      all_goals go_region_held3 (fun w' => w'.cell? ⟨W.heap.size + 1, 0, none⟩ = some (.int .i64 y) ∧ w'.cell? ⟨W.heap.size + 1, 1, none⟩ = some (.string t) ∧ w'.cell? ⟨gu, k * 2, none⟩ = some (.int .i64 d) ∧ w'.cell? ⟨gu, k * 2 + 1, none⟩ = some (.string pb)) (go_keep) (first
        | (go_at_call 48; refine (SU.out _ _ _ _ _ _ _ (HH.out.below (by repeat (first | exact Below.refl _ _ | refine Below.setCell ?_ (by simp; try omega) _ | refine Below.alloc ?_ (by simp; try omega) _ | refine Below.drew ?_))) (by exact S2.out)).mono ?_; rintro e w10 ⟨rfl, hb0⟩; have hb : Below w9.heap.size w9 w10 := bstep (by repeat (first | exact Below.refl _ _ | refine Below.setCell ?_ (by simp; try omega) _ | refine Below.alloc ?_ (by simp; try omega) _ | refine Below.drew ?_)) hb0; clear hb0; have HH2 := HH.out.below hb; clear HH; have HH : Hid (WAt b ps w10) := HH2; have BB2 : Below W.heap.size W w10 := bstep BB.out hb; clear BB; have BB : Hid (Below W.heap.size W w10) := BB2; have T2 := T.out.keep hb; clear T hl3; have T : Hid (Ty2 w10 W.heap.size x y s t) := T2; obtain ⟨hl3, c0, c1, c2, c3⟩ := T2; have OU2 := rowBelow OU.out hb; clear OU; have OU : Hid (w10.ownsRow M 71 2 (.slice (some ⟨gu, 0, none⟩) L cu) L (flatU us)) := OU2; clear OU2; replace g0 : w10.cell? ⟨gu, k * 2, none⟩ = some (.int .i64 d) := (hb.cell (p := ⟨gu, k * 2, none⟩) hgu).trans g0; replace g1 : w10.cell? ⟨gu, k * 2 + 1, none⟩ = some (.string pb) := (hb.cell (p := ⟨gu, k * 2 + 1, none⟩) hgu).trans g1; replace hgu := Nat.lt_of_lt_of_le hgu hb.size; clear hb HH2 BB2))
      all_goals cases r
      all_goals go_wp2
      all_goals go_roundw
      all_goals first
        | exact ⟨k + 1, by go_num, by omega, by rw [NX.out]; rfl, HH, BB, T, OU⟩
        | (simp [intOf]; omega)
    · have e : k = L := by omega
      subst e
      have FF : Hid (metB ps m0 y t (us.take k) = be) := by rw [Hid, List.take_of_length_le (by rw [HL.out]; exact Nat.le_refl _)]; exact FE.out
      rw [FF.out]
      clear FF FE HE SMA
      go_wp2
      go_ret
      exact ⟨retB (by simp), BB.out⟩
set_option maxRecDepth 100000 in
set_option maxHeartbeats 4000000 in
theorem steps_early (v : Value) (l : List Cls) (ps : List Plc) (hps : ps = wld l) (x y : Int) (s t : ByteArray) (hs : s.size ≤ maxLen) (ht : t.size ≤ maxLen) (W : World) (h : IsClss W v l) (e1 e2 : Int) (hx : ldI ps x s = e1) (hy : ldI ps y t = e2) (hne : e1 ≠ 0 ∨ e2 ≠ 0) :
    Calls Tryz.prog 8 #[v, .agg #[.int .i64 x, .string s], .agg #[.int .i64 y, .string t]] W fun e w' => e = .returned (.bool true) ∧ Below W.heap.size W w' := by
  have HA : Hid (∀ w : World, Calls Tryz.prog 45 #[] w fun e w' => e = .returned (.bool true) ∧ Below w.heap.size w w') := awake7_c
  have HB : Hid (∀ w : World, Below W.heap.size W w → Calls Tryz.prog 46 #[v] w fun e w' => (∃ b, e = .returned (.pointer (some ⟨b, 0, none⟩)) ∧ WAt b ps w') ∧ Below w.heap.size w w') := fun w hb => by rw [hps]; exact built7_c v l w (clss_keep h hb)
  have LD : Hid (∀ b w k q r, WAt b ps w → (ldI ps k q = r ∧ q.size ≤ maxLen) → Calls Tryz.prog 50 #[.pointer (some ⟨b, 0, none⟩), .agg #[.int .i64 k, .string q]] w fun e w' => e = .returned (.int .i64 r) ∧ Below w.heap.size w w') := fun b w k q r hw hr => by rw [← hr.1]; exact loaded_c hw k q hr.2
  have L1 : Hid (ldI ps x s = e1 ∧ s.size ≤ maxLen) := ⟨hx, hs⟩
  have L2 : Hid (ldI ps y t = e2 ∧ t.size ≤ maxLen) := ⟨hy, ht⟩
  clear h hps hx hy hs ht
  by_cases h1 : e1 = 0
  · have h2 : ¬ e2 = 0 := hne.resolve_left (fun h => h h1)
    subst h1
    clear hne
    go_enter Tryz.func8, Tryz.ntmps8
    go_wp2_with (first
    | (go_at_call 45; refine (HA.out _).mono ?_; rintro e w1 ⟨rfl, hb⟩; have BB : Hid (Below W.heap.size W w1) := bstep (by repeat (first | exact Below.refl _ _ | refine Below.setCell ?_ (by simp; try omega) _ | refine Below.alloc ?_ (by simp; try omega) _ | refine Below.drew ?_)) hb; have T2 : Ty2 w1 W.heap.size x y s t := (Ty2.new W x y s t).keep hb; have T : Hid (Ty2 w1 W.heap.size x y s t) := T2; obtain ⟨hl3, c0, c1, c2, c3⟩ := T2; clear hb HA)
    | (go_at_call 46; refine (HB.out _ BB.out).mono ?_; rintro e w2 ⟨⟨b, rfl, hw⟩, hb⟩; have HH : Hid (WAt b ps w2) := hw; have BB2 : Below W.heap.size W w2 := bstep BB.out hb; clear BB; have BB : Hid (Below W.heap.size W w2) := BB2; have T2 := T.out.keep hb; clear T hl3 c0 c1 c2 c3; have T : Hid (Ty2 w2 W.heap.size x y s t) := T2; obtain ⟨hl3, c0, c1, c2, c3⟩ := T2; clear hb HB hw BB2)
    | (go_at_call 50; refine (LD.out _ _ _ _ _ HH.out (by first | exact L1.out | exact L2.out)).mono ?_; rintro e w3 ⟨rfl, hb⟩; have HH2 := HH.out.below hb; clear HH; have HH : Hid (WAt b ps w3) := HH2; have BB2 : Below W.heap.size W w3 := bstep BB.out hb; clear BB; have BB : Hid (Below W.heap.size W w3) := BB2; have T2 := T.out.keep hb; clear T hl3 c0 c1 c2 c3; have T : Hid (Ty2 w3 W.heap.size x y s t) := T2; obtain ⟨hl3, c0, c1, c2, c3⟩ := T2; clear hb HH2 BB2))
    exact bodyPost_ret (results_tmp rfl _ _ _) rfl ⟨rfl, BB.out⟩
  · clear hne
    go_enter Tryz.func8, Tryz.ntmps8
    go_wp2_with (first
    | (go_at_call 45; refine (HA.out _).mono ?_; rintro e w1 ⟨rfl, hb⟩; have BB : Hid (Below W.heap.size W w1) := bstep (by repeat (first | exact Below.refl _ _ | refine Below.setCell ?_ (by simp; try omega) _ | refine Below.alloc ?_ (by simp; try omega) _ | refine Below.drew ?_)) hb; have T2 : Ty2 w1 W.heap.size x y s t := (Ty2.new W x y s t).keep hb; have T : Hid (Ty2 w1 W.heap.size x y s t) := T2; obtain ⟨hl3, c0, c1, c2, c3⟩ := T2; clear hb HA)
    | (go_at_call 46; refine (HB.out _ BB.out).mono ?_; rintro e w2 ⟨⟨b, rfl, hw⟩, hb⟩; have HH : Hid (WAt b ps w2) := hw; have BB2 : Below W.heap.size W w2 := bstep BB.out hb; clear BB; have BB : Hid (Below W.heap.size W w2) := BB2; have T2 := T.out.keep hb; clear T hl3 c0 c1 c2 c3; have T : Hid (Ty2 w2 W.heap.size x y s t) := T2; obtain ⟨hl3, c0, c1, c2, c3⟩ := T2; clear hb HB hw BB2)
    | (go_at_call 50; refine (LD.out _ _ _ _ _ HH.out (by first | exact L1.out | exact L2.out)).mono ?_; rintro e w3 ⟨rfl, hb⟩; have HH2 := HH.out.below hb; clear HH; have HH : Hid (WAt b ps w3) := HH2; have BB2 : Below W.heap.size W w3 := bstep BB.out hb; clear BB; have BB : Hid (Below W.heap.size W w3) := BB2; have T2 := T.out.keep hb; clear T hl3 c0 c1 c2 c3; have T : Hid (Ty2 w3 W.heap.size x y s t) := T2; obtain ⟨hl3, c0, c1, c2, c3⟩ := T2; clear hb HH2 BB2))
    exact bodyPost_ret (results_tmp rfl _ _ _) rfl ⟨rfl, BB.out⟩
theorem ArraysSteps_any (v : Value) (l : List Cls) (x : Int) (s : ByteArray) (y : Int) (t : ByteArray) (W : World) (h : IsClss W v l) (hs : s.size ≤ maxLen) (ht : t.size ≤ maxLen) : Calls Tryz.prog 8 #[v, .agg #[.int .i64 x, .string s], .agg #[.int .i64 y, .string t]] W fun e w' => e = .returned (.bool true) ∧ Below W.heap.size W w' := by
  by_cases hx : ldI (wld l) x s = 0
  · by_cases hy : ldI (wld l) y t = 0
    · have hS := stW l (clss_w h)
      obtain ⟨us, h1, h2, h3⟩ := above_c hS x s hs hx
      exact steps_walk v l _ rfl x y s t hs ht W h hx hy us h2 h1 (fun u hu => ld_len hS.ty (h1.1 u hu).1) h3
    · exact steps_early v l _ rfl x y s t hs ht W h _ _ rfl rfl (.inr hy)
  · exact steps_early v l _ rfl x y s t hs ht W h _ _ rfl rfl (.inl hx)
end Go.Proofs.YtpbnjmncjecobaaGreat
