/- The law MaxspecMost: what it asks of lists. -/
import Derived.Test.YtahalliodpkoeaaGreatHrQ
import Derived.Test.YtahalliodpkoeaaGreatOrdB
import Derived.Test.YtahalliodpkoeaaGreatMxC
namespace Go.Proofs.YtahalliodpkoeaaGreat
open Go.RowKit Go.Maps

/-- the world that a list of classes builds -/
def wld (l : List Cls) : List Plc := l.foldl (fun ps c => dfP ps (defN ps c)) P3
theorem wld_snoc (l : List Cls) (c : Cls) : wld (l ++ [c]) = dfP (wld l) (defN (wld l) c) := by
  rw [wld, List.foldl_append]; rfl
theorem wld_at {l : List Cls} {i : Nat} {c : Cls} (h : l[i]? = some c) : wld (l.take (i + 1)) = dfP (wld (l.take i)) (defN (wld (l.take i)) c) := by
  rw [List.take_add_one, h]; exact wld_snoc _ _
/-- what is shown of New and kept by Define holds of it -/
theorem wld_ind {P : List Plc → Prop} (h3 : P P3) (hd : ∀ ps c, P ps → ClsW c → P (dfP ps (defN ps c))) : ∀ l : List Cls, (∀ c ∈ l, ClsW c) → P (wld l) := by
  have key : ∀ (l : List Cls) (ps : List Plc), (∀ c ∈ l, ClsW c) → P ps → P (l.foldl (fun ps c => dfP ps (defN ps c)) ps) := by
    intro l
    induction l with
    | nil => exact fun ps _ h => h
    | cons c l ih => exact fun ps hl h => ih _ (fun x hx => hl x (List.mem_cons_of_mem _ hx)) (hd ps c h (hl c (by simp)))
  exact fun l hl => key l P3 hl h3
theorem wld_wi (l : List Cls) (hl : ∀ c ∈ l, ClsW c) : WI (wld l) := wld_ind wi3 (fun _ c h hc => h.define c hc) l hl
theorem clss_w {w : World} {v : Value} {l : List Cls} (h : IsClss w v l) : ∀ c ∈ l, ClsW c := by
  obtain ⟨ao, cap, e, h1, h2, h3⟩ := h
  intro c hc
  obtain ⟨bk, o, _, _, h4⟩ := h3 (fun e => by rw [e] at hc; simp at hc)
  obtain ⟨i, hi⟩ := List.mem_iff_getElem?.1 hc
  obtain ⟨vi, vm, _, hin⟩ := h4 i c hi
  exact hin.ok





/-- does a extend b? -/
def extI (ps : List Plc) (a b : Int) : Bool := (plcI ps a).isSome && (plcI ps b).isSome && extB (ps.map nd) a.toNat b.toNat
set_option maxRecDepth 100000 in
theorem extends_no {b : Nat} {ps : List Plc} {W : World} (h : WAt b ps W) (x y : Int) (hxy : plcI ps x = none ∨ plcI ps y = none) : Calls Tryz.prog 31 #[.pointer (some ⟨b, 0, none⟩), .int .i64 x, .int .i64 y] W fun e w' => e = .returned (.bool false) ∧ Below W.heap.size W w' := by
  have HX : Hid (∀ i z w, Below W.heap.size W w → plcI ps i = z → Calls Tryz.prog 91 #[.pointer (some ⟨b, 0, none⟩), .int .i64 i] w fun e w' => e = .returned (.bool z.isSome) ∧ w' = w) := fun i z w hb hi => by
    have := has_c (h.below hb) i
    rw [hi] at this; exact this
  clear h
  generalize hpx : plcI ps x = px at *
  generalize hpy : plcI ps y = py at *
  have HPX : Hid _ := hpx
  have HPY : Hid _ := hpy
  clear hpx hpy
  cases px with
  | none =>
    go_enter Tryz.func31, Tryz.ntmps31
    go_wp2_with (go_at_call 91; refine (HX.out _ _ _ (by repeat (first | exact Below.refl _ _ | refine Below.setCell ?_ (by simp; try omega) _ | refine Below.alloc ?_ (by simp; try omega) _ | refine Below.drew ?_)) HPX.out).mono ?_; rintro e w9 ⟨rfl, hw9⟩; rw [hw9]; clear hw9 w9)
    refine bodyPost_ret (v := .bool false) (by simp [results, Tryz.results31, go_sem]) rfl ⟨rfl, (by repeat (first | exact Below.refl _ _ | refine Below.setCell ?_ (by simp; try omega) _ | refine Below.alloc ?_ (by simp; try omega) _ | refine Below.drew ?_))⟩
  | some p =>
    obtain rfl : py = none := hxy.resolve_left (by simp)
    clear hxy
    have HX1 : Hid (∀ i w, Below W.heap.size W w → i = x → Calls Tryz.prog 91 #[.pointer (some ⟨b, 0, none⟩), .int .i64 i] w fun e w' => e = .returned (.bool true) ∧ w' = w) := fun i w hb hi => by rw [hi]; exact HX.out x _ w hb HPX.out
    have HY1 : Hid (∀ i w, Below W.heap.size W w → i = y → Calls Tryz.prog 91 #[.pointer (some ⟨b, 0, none⟩), .int .i64 i] w fun e w' => e = .returned (.bool false) ∧ w' = w) := fun i w hb hi => by rw [hi]; exact HX.out y _ w hb HPY.out
    go_enter Tryz.func31, Tryz.ntmps31
    go_wp2_with (first
      | (go_at_call 91; refine (HX1.out _ _ (by repeat (first | exact Below.refl _ _ | refine Below.setCell ?_ (by simp; try omega) _ | refine Below.alloc ?_ (by simp; try omega) _ | refine Below.drew ?_)) (by rfl)).mono ?_; rintro e w9 ⟨rfl, hw9⟩; rw [hw9]; clear hw9 w9)
      | (go_at_call 91; refine (HY1.out _ _ (by repeat (first | exact Below.refl _ _ | refine Below.setCell ?_ (by simp; try omega) _ | refine Below.alloc ?_ (by simp; try omega) _ | refine Below.drew ?_)) (by rfl)).mono ?_; rintro e w9 ⟨rfl, hw9⟩; rw [hw9]; clear hw9 w9))
    refine bodyPost_ret (v := .bool false) (by simp [results, Tryz.results31, go_sem]) rfl ⟨rfl, (by repeat (first | exact Below.refl _ _ | refine Below.setCell ?_ (by simp; try omega) _ | refine Below.alloc ?_ (by simp; try omega) _ | refine Below.drew ?_))⟩
theorem extends_c {b : Nat} {ps : List Plc} {W : World} (h : WAt b ps W) (hi : WI ps) (x y : Int) : Calls Tryz.prog 31 #[.pointer (some ⟨b, 0, none⟩), .int .i64 x, .int .i64 y] W fun e w' => e = .returned (.bool (extI ps x y)) ∧ Below W.heap.size W w' := by
  rcases plcI_cases ps x with ⟨h1, _⟩ | ⟨k, p, rfl, h2, h1⟩
  · have e : extI ps x y = false := by rw [extI, h1]; rfl
    rw [e]; exact extends_no h x y (.inl h1)
  · rcases plcI_cases ps y with ⟨g1, _⟩ | ⟨j, q, rfl, g2, g1⟩
    · have e : extI ps k y = false := by rw [extI, h1, g1]; rfl
      rw [e]; exact extends_no h k y (.inr g1)
    · have e : extI ps k j = extB (ps.map nd) k j := by rw [extI, h1, g1]; rfl
      obtain ⟨N, mb, vp, pv, h⟩ := h
      rw [e]; exact extends_yes N b mb ps vp pv k j (List.getElem?_eq_some_iff.1 h2).1 (List.getElem?_eq_some_iff.1 g2).1 hi.wo hi.hi W h
/-- is it an interface? -/
def ifcI (ps : List Plc) (i : Int) : Bool := match plcI ps i with
  | some q => ifB q.c.fl
  | none => false
theorem isIface_c {b : Nat} {ps : List Plc} {W : World} (h : WAt b ps W) (x : Int) : Calls Tryz.prog 33 #[.pointer (some ⟨b, 0, none⟩), .int .i64 x] W fun e w' => e = .returned (.bool (ifcI ps x)) ∧ Below W.heap.size W w' := by
  obtain ⟨N, mb, vp, pv, h⟩ := h
  rcases plcI_cases ps x with ⟨h1, h2⟩ | ⟨k, p, rfl, h2, h1⟩
  · have e : ifcI ps x = false := by rw [ifcI, h1]
    rw [e]; exact isIfaceW_no N b mb ps vp pv x W h h2
  · have e : ifcI ps k = ifB p.c.fl := by rw [ifcI, h1]
    rw [e]; exact isIfaceW_yes N b mb ps vp pv k p W h h2


theorem cand_mem {ps : List Plc} {nm ds : ByteArray} {cl : List Nat} {m : Int × Int} (h : m ∈ candL ps nm ds cl) : ∃ i ∈ cl, m.1 = (i : Int) ∧ fndI ps i nm ds = (m.2, 0) ∧ hasS ps i m.2 10 = false := by
  rw [candL, List.mem_flatMap] at h
  obtain ⟨i, hi, hm⟩ := h
  rw [cand1] at hm
  split at hm
  next hc =>
    simp only [List.mem_singleton] at hm
    subst hm
    exact ⟨i, hi, rfl, Prod.ext rfl hc.1, hc.2⟩
  next => simp at hm
theorem cand_fst (ps : List Plc) (nm ds : ByteArray) (cl : List Nat) (h : cl.Nodup) : ((candL ps nm ds cl).map Prod.fst).Nodup := by
  induction cl with
  | nil => exact List.nodup_nil
  | cons i r ih =>
    have h2 := List.nodup_cons.1 h
    have e : candL ps nm ds (i :: r) = cand1 ps nm ds i ++ candL ps nm ds r := by rw [candL, List.flatMap_cons]; rfl
    rw [e, List.map_append]
    refine List.nodup_append.2 ⟨?_, ih h2.2, ?_⟩
    · rw [cand1]; split <;> simp
    · intro a ha b hb hab
      subst hab
      obtain ⟨m, hm, rfl⟩ := List.mem_map.1 hb
      obtain ⟨j, hj, hj2, _⟩ := cand_mem hm
      obtain ⟨m', hm', e'⟩ := List.mem_map.1 ha
      rw [cand1] at hm'
      split at hm'
      next =>
        simp only [List.mem_singleton] at hm'
        subst hm'
        simp only at e'
        have : i = j := by rw [hj2] at e'; omega
        subst this
        exact h2.1 hj
      next => simp at hm'
/-- does another candidate's interface extend this one's? -/
def overB (ps : List Plc) (l : List (Int × Int)) (m : Int × Int) : Bool := l.any fun o => !(o.1 == m.1) && extI ps o.1 m.1
/-- the most special ones -/
def maxL (ps : List Plc) (l : List (Int × Int)) : List (Int × Int) := l.filter fun m => !overB ps l m
theorem max_mem {ps : List Plc} {l : List (Int × Int)} {m : Int × Int} (h : m ∈ maxL ps l) : m ∈ l := (List.mem_filter.1 h).1
theorem max_apart {ps : List Plc} {l : List (Int × Int)} (hn : (l.map Prod.fst).Nodup) {i j : Nat} {a b : Int × Int} (ha : (maxL ps l)[i]? = some a) (hb : (maxL ps l)[j]? = some b) (hij : i ≠ j) : extI ps a.1 b.1 = false := by
  have hs : ((maxL ps l).map Prod.fst).Nodup := hn.sublist (List.Sublist.map _ List.filter_sublist)
  have hne : a.1 ≠ b.1 := by
    intro e
    have h1 : ((maxL ps l).map Prod.fst)[i]? = some a.1 := by rw [List.getElem?_map, ha]; rfl
    have h2 : ((maxL ps l).map Prod.fst)[j]? = some a.1 := by rw [List.getElem?_map, hb, e]; rfl
    have hi := (List.getElem?_eq_some_iff.1 h1).1
    exact hij ((List.getElem?_inj hi hs).1 (h1.trans h2.symm))
  have h1 := (List.mem_filter.1 (List.mem_of_getElem? hb)).2
  have h2 : overB ps l b = false := by simpa using h1
  rw [overB, List.any_eq_false] at h2
  have h3 := h2 a (max_mem (List.mem_of_getElem? ha))
  have h4 : (a.1 == b.1) = false := by simpa using hne
  rw [h4] at h3
  simpa using h3
theorem extI_nat {ps : List Plc} {a b : Nat} (ha : a < ps.length) (hb : b < ps.length) : extI ps (a : Int) (b : Int) = extB (ps.map nd) a b := by
  rw [extI, plcI_nat, plcI_nat, List.getElem?_eq_getElem ha, List.getElem?_eq_getElem hb]; rfl
theorem max_met {ps : List Plc} (hW : WI ps) {l : List (Int × Int)} (hl : ∀ m ∈ l, ∃ i : Nat, m.1 = (i : Int) ∧ i < ps.length) : ∀ (n : Nat) (m : Int × Int), m ∈ l → ps.length - m.1.toNat ≤ n → ∃ o ∈ maxL ps l, extI ps o.1 m.1 = true := by
  intro n
  induction n with
  | zero =>
    intro m hm hn
    obtain ⟨i, h1, h2⟩ := hl m hm
    rw [h1] at hn
    simp at hn; omega
  | succ n ih =>
    intro m hm hn
    obtain ⟨i, h1, h2⟩ := hl m hm
    by_cases ho : overB ps l m = true
    · rw [overB, List.any_eq_true] at ho
      obtain ⟨o, ho1, ho2⟩ := ho
      obtain ⟨j, g1, g2⟩ := hl o ho1
      simp only [Bool.and_eq_true, Bool.not_eq_true', beq_eq_false_iff_ne, ne_eq] at ho2
      obtain ⟨hne, hex⟩ := ho2
      have hex2 := hex
      rw [g1, h1, extI_nat g2 h2] at hex2
      have hle := ext_le hW.wo (by rw [List.length_map]; exact g2) hex2
      have hlt : i < j := by
        rcases Nat.lt_or_eq_of_le hle with h | h
        · exact h
        · exact absurd (by rw [g1, h1, h]) hne
      obtain ⟨u, hu1, hu2⟩ := ih o ho1 (by rw [g1]; rw [h1] at hn; simp at hn ⊢; omega)
      refine ⟨u, hu1, ?_⟩
      obtain ⟨k, f1, f2⟩ := hl u (max_mem hu1)
      rw [f1, g1, extI_nat f2 g2] at hu2
      rw [f1, h1, extI_nat f2 h2]
      exact ext_trans hW.wo (by rw [List.length_map]; exact f2) hu2 hex2
    · refine ⟨m, List.mem_filter.2 ⟨hm, by simpa using ho⟩, ?_⟩
      rw [h1, extI_nat h2 h2]; exact ext_self _ _
/-- what holds of a candidate of the class k -/
theorem cand_facts {ps : List Plc} (hW : WI ps) {k : Nat} {q : Plc} (hq : ps[k]? = some q) {nm ds : ByteArray} {m : Int × Int} (h : m ∈ candL ps nm ds q.cl) : (∃ i : Nat, m.1 = (i : Int) ∧ i < ps.length) ∧ ifcI ps m.1 = true ∧ extI ps (k : Int) m.1 = true ∧ ∃ x, methI ps m.1 m.2 = some x ∧ x.nm.toList = nm.toList ∧ x.ds.toList = ds.toList ∧ hasI x.fl 10 = false := by
  obtain ⟨i, hi, h1, h2, h3⟩ := cand_mem h
  have hk := (List.getElem?_eq_some_iff.1 hq).1
  have hcl : i ∈ clO (ps.map nd) k := by rw [clO, nd_at' hq]; exact hi
  obtain ⟨hlt, _, p, hp, hpi, _⟩ := cl_facts hW.wo hcl
  have hil : i < ps.length := by omega
  have hpi2 : ps[i]? = some ps[i] := List.getElem?_eq_getElem hil
  have hpn : p = nd ps[i] := by
    rw [nd_at' hpi2] at hp; exact (Option.some.inj hp).symm
  refine ⟨⟨i, h1, hil⟩, ?_, ?_, ?_⟩
  · rw [h1, ifcI, plcI_nat, hpi2]
    rw [hpn] at hpi; exact hpi
  · rw [h1, extI_nat hk hil, ext_iff]; exact .inr hcl
  · rw [fndI, plcI_nat, hpi2] at h2
    simp only at h2
    rcases findH_range nm ds ps[i].c.ms 0 with e | ⟨j, x, e, hj, hn, hd⟩
    · rw [e, if_pos (by decide)] at h2
      have := congrArg Prod.snd h2
      simp at this
    · rw [e, if_neg (by omega)] at h2
      have hm2 : m.2 = (j : Int) := by have := congrArg Prod.fst h2; simp at this; omega
      have hme : methI ps m.1 m.2 = some x := by
        rw [methI, h1, hm2, plcI_nat, hpi2]
        show methP ps[i] (j : Int) = some x
        rw [methP, if_pos (Int.natCast_nonneg j)]; exact hj
      refine ⟨x, hme, hn, hd, ?_⟩
      rw [h1] at hme
      rw [hasS, hme] at h3
      exact h3
/-- those of them that are not abstract -/
def oneL (ps : List Plc) (l : List (Int × Int)) : List (Int × Int) := (maxL ps l).filter fun m => !hasS ps m.1 m.2 1024
def oneV (ps : List Plc) (l : List (Int × Int)) : (Int × Int) × Int := match oneL ps l with
  | [] => ((0, 0), 24)
  | [m] => (m, 0)
  | _ => ((0, 0), 23)


/-- is o another one's interface that extends m's? -/
def overP (ps : List Plc) (m o : Int × Int) : Bool := !(o.1 == m.1) && extI ps o.1 m.1
set_option maxRecDepth 100000 in
set_option maxHeartbeats 1000000 in
theorem maxIn_c {b : Nat} {ps : List Plc} {W : World} (h : WAt b ps W) (hi : WI ps) (bm bw : Nat) (m o : Int × Int) (hm : W.cell? ⟨bm, 0, none⟩ = some (.int .i64 m.1)) (hw : W.cell? ⟨bw, 0, none⟩ = some (.pointer (some ⟨b, 0, none⟩))) : Calls Tryz.prog 150 (#[.agg #[.int .i64 o.1, .int .i64 o.2]] ++ #[.pointer (some ⟨bm, 0, none⟩), .pointer (some ⟨bw, 0, none⟩)]) W fun e w' => e = .returned (.bool (overP ps m o)) ∧ Below W.heap.size W w' := by
  show Calls Tryz.prog 150 #[.agg #[.int .i64 o.1, .int .i64 o.2], .pointer (some ⟨bm, 0, none⟩), .pointer (some ⟨bw, 0, none⟩)] W _
  have hlm : bm < W.heap.size := World.block_lt_of_cell? W _ hm
  have hlw : bw < W.heap.size := World.block_lt_of_cell? W _ hw
  have n1 : ¬ bm = W.heap.size := by omega
  have n2 : ¬ bw = W.heap.size := by omega
  have HE : Hid (∀ w, Below W.heap.size W w → Calls Tryz.prog 31 #[.pointer (some ⟨b, 0, none⟩), .int .i64 o.1, .int .i64 m.1] w fun e w' => e = .returned (.bool (extI ps o.1 m.1)) ∧ Below W.heap.size W w') := fun w hb => (extends_c (h.below hb) hi o.1 m.1).mono fun e w' zz => ⟨zz.1, bstep hb zz.2⟩
  have HR : Hid (overP ps m o = (!(o.1 == m.1) && extI ps o.1 m.1)) := rfl
  generalize overP ps m o = R at *
  generalize extI ps o.1 m.1 = E at *
  obtain ⟨o1, o2⟩ := o
  obtain ⟨m1, m2⟩ := m
  simp only at HE HR hm
  clear h hi
  by_cases hq : o1 = m1
  · have hR : R = false := by rw [HR.out, hq]; simp
    subst hR
    subst hq
    go_enter Tryz.func150, Tryz.ntmps150
    go_wp2
    exact bodyPost_ret (results_tmp rfl _ _ _) rfl ⟨rfl, (by repeat (first | exact Below.refl _ _ | refine Below.setCell ?_ (by simp; try omega) _ | refine Below.alloc ?_ (by simp; try omega) _ | refine Below.drew ?_))⟩
  · have hR : R = E := by
      have e : (o1 == m1) = false := by simpa using hq
      rw [HR.out, e]; simp
    subst hR
    clear HR
    have hne : (o1 != m1) = true := by simpa using hq
    go_enter Tryz.func150, Tryz.ntmps150
    go_wp2_with (go_at_call 31; refine (HE.out _ (by repeat (first | exact Below.refl _ _ | refine Below.setCell ?_ (by simp; try omega) _ | refine Below.alloc ?_ (by simp; try omega) _ | refine Below.drew ?_))).mono ?_; rintro e w1 ⟨rfl, hb⟩; have B1 : Hid (Below W.heap.size W w1) := hb; clear hb HE)
    exact bodyPost_ret (results_tmp rfl _ _ _) rfl ⟨rfl, B1.out⟩
theorem callMx (vs : Array Value) (w : World) : (callFunc 150 vs).run Tryz.prog w = .ok (.enter 150 vs) w := by simp [go_sem]
theorem callMy (vs : Array Value) (w : World) : (callFunc 148 vs).run Tryz.prog w = .ok (.enter 148 vs) w := by simp [go_sem]
set_option maxRecDepth 100000 in
set_option maxHeartbeats 1000000 in
theorem maxOver_c {b : Nat} {ps : List Plc} {W : World} (h : WAt b ps W) (hi : WI ps) (ba bw N : Nat) (v : Value) (l : List (Int × Int)) (m : Int × Int) (ho : W.ownsRow N 62 2 v l.length (flatD l)) (hn : l.length ≤ 1000000) (ha : W.cell? ⟨ba, 0, none⟩ = some v) (hw : W.cell? ⟨bw, 0, none⟩ = some (.pointer (some ⟨b, 0, none⟩))) : Calls Tryz.prog 148 (#[.agg #[.int .i64 m.1, .int .i64 m.2]] ++ #[.pointer (some ⟨ba, 0, none⟩), .pointer (some ⟨bw, 0, none⟩)]) W fun e w' => e = .returned (.bool (overB ps l m)) ∧ Below W.heap.size W w' := by
  show Calls Tryz.prog 148 #[.agg #[.int .i64 m.1, .int .i64 m.2], .pointer (some ⟨ba, 0, none⟩), .pointer (some ⟨bw, 0, none⟩)] W _
  have hla : ba < W.heap.size := World.block_lt_of_cell? W _ ha
  have hlw : bw < W.heap.size := World.block_lt_of_cell? W _ hw
  have n1 : ¬ ba = W.heap.size := by omega
  have HC : Hid (∀ w, w = W.alloc (.cells #[.int .i64 m.1, .int .i64 m.2] 62) → Calls Tryz.prog 149 #[v, .func (.func 150) #[] #[.pointer (some ⟨W.heap.size, 0, none⟩), .pointer (some ⟨bw, 0, none⟩)]] w fun e w' => e = .returned (.bool (overB ps l m)) ∧ Below w.heap.size w w') := by
    intro w hwe
    have hb0 : Below W.heap.size W w := by rw [hwe]; exact (Below.refl _ _).alloc (Nat.le_refl _) _
    refine conD_any 150 callMx _ (overP ps m) N l v w (rowBelow ho hb0) hn (fun o _ w2 hb => ?_)
    have c0 : w.cell? ⟨W.heap.size, 0, none⟩ = some (.int .i64 m.1) := by rw [hwe]; simp [go_sem]
    exact maxIn_c (h.below (bstep hb0 hb)) hi W.heap.size bw m o ((hb.cell (p := ⟨W.heap.size, 0, none⟩) (World.block_lt_of_cell? w _ c0)).trans c0) (((bstep hb0 hb).cell (p := ⟨bw, 0, none⟩) hlw).trans hw)
  generalize overB ps l m = R at *
  obtain ⟨va, vn, rfl⟩ := ownv ho
  clear h hi ho
  go_enter Tryz.func148, Tryz.ntmps148
  go_wp2_with (go_at_call 149; refine (HC.out _ rfl).mono ?_; rintro e w1 ⟨rfl, hb⟩; have B1 : Hid (Below W.heap.size W w1) := bstep (by repeat (first | exact Below.refl _ _ | refine Below.setCell ?_ (by simp; try omega) _ | refine Below.alloc ?_ (by simp; try omega) _ | refine Below.drew ?_)) hb; clear hb HC)
  exact bodyPost_ret (results_tmp rfl _ _ _) rfl ⟨rfl, B1.out⟩

theorem max_pred {b : Nat} {ps : List Plc} {W w1 w2 : World} {N : Nat} {va : Option Addr} {vn : Nat} {l : List (Int × Int)} (h : WAt b ps W) (hi : WI ps) (O1 : w1.ownsRow N 62 2 (.slice va l.length vn) l.length (flatD l)) (c0 : w1.cell? ⟨W.heap.size, 0, none⟩ = some (.pointer (some ⟨b, 0, none⟩))) (hn : l.length ≤ 1000000) (B1 : Below W.heap.size W w1) (B2 : Below (w1.heap.size + 1) (w1.alloc (.cells #[.slice va l.length vn] 110)) w2) : PredD 148 #[.pointer (some ⟨w1.heap.size, 0, none⟩), .pointer (some ⟨W.heap.size, 0, none⟩)] (overB ps l) l (w1.heap.size + 1) w2 := by
  intro m _ w hb
  have hU : Below (w1.alloc (.cells #[.slice va l.length vn] 110)).heap.size (w1.alloc (.cells #[.slice va l.length vn] 110)) w := by
    have := B2.trans hb
    simpa using this
  have hl : W.heap.size < w1.heap.size := World.block_lt_of_cell? w1 _ c0
  exact maxOver_c (h.below (bstep (B1.alloc B1.size _) hU)) hi w1.heap.size W.heap.size N _ l m (rowBelow (O1.alloc _) hU) hn ((hU.cell (p := ⟨w1.heap.size, 0, none⟩) (by simp)).trans (by simp [go_sem])) ((hU.cell (p := ⟨W.heap.size, 0, none⟩) (by simp; omega)).trans (Lib.cell?_alloc_some _ c0))
set_option maxRecDepth 100000 in
set_option maxHeartbeats 1000000 in
theorem max_yes {b : Nat} {ps : List Plc} {W : World} (h : WAt b ps W) (hi : WI ps) (k : Nat) (q : Plc) (hq : ps[k]? = some q) (nm ds : ByteArray) : Calls Tryz.prog 85 #[.pointer (some ⟨b, 0, none⟩), .int .i64 (k : Int), .string nm, .string ds] W fun e w' => (∃ v, e = .returned (.tuple #[v, .int .i64 0]) ∧ w'.ownsRow W.heap.size 62 2 v (maxL ps (candL ps nm ds q.cl)).length (flatD (maxL ps (candL ps nm ds q.cl)))) ∧ Below W.heap.size W w' := by
  have hKb : (candL ps nm ds q.cl).length ≤ 1000000 := by
    obtain ⟨N, mb, vp, pv, h⟩ := h
    have hwf := h.wf q (List.mem_of_getElem? hq)
    have := nodup_lt_len _ _ hwf.2 hwf.1
    have := candL_len ps nm ds q.cl
    have := hi.hi
    omega
  have HC : Hid (∀ w, Below W.heap.size W w → Calls Tryz.prog 84 #[.pointer (some ⟨b, 0, none⟩), .int .i64 (k : Int), .string nm, .string ds] w fun e w' => (∃ v, e = .returned (.tuple #[v, .int .i64 0]) ∧ w'.ownsRow w.heap.size 62 2 v (candL ps nm ds q.cl).length (flatD (candL ps nm ds q.cl))) ∧ Below w.heap.size w w') := fun w hb => cand_yes (h.below hb) hi.pb hi.hi k q hq nm ds
  have HW0 : Hid (WAt b ps W) := h
  have HWI : Hid (WI ps) := hi
  obtain ⟨l, hl⟩ : ∃ l, candL ps nm ds q.cl = l := ⟨_, rfl⟩
  rw [hl] at hKb HC ⊢
  have HKb : Hid (l.length ≤ 1000000) := hKb
  clear h hi hq hl
  have HCL : Hid (∀ (N : Nat) (v : Value) (w : World), w.ownsRow N 62 2 v l.length (flatD l) → Calls Tryz.prog 147 #[v] w fun e w' => ∃ v', e = .returned v' ∧ w'.ownsRow w.heap.size 62 2 v' l.length (flatD l) ∧ Below w.heap.size w w') := fun N v w ho => cloD_any N l v w ho hKb
  go_enter Tryz.func85, Tryz.ntmps85
  go_wp2_with (first
    | (go_at_call 84; refine (HC.out _ (by repeat (first | exact Below.refl _ _ | refine Below.setCell ?_ (by simp; try omega) _ | refine Below.alloc ?_ (by simp; try omega) _ | refine Below.drew ?_))).mono ?_; rintro e w1 ⟨⟨v, rfl, ho⟩, hb⟩; obtain ⟨va, vn, rfl⟩ := ownv ho; have O1 : Hid (w1.ownsRow (W.heap.size + 1) 62 2 (.slice va l.length vn) l.length (flatD l)) := Go.Joins.ownsRow_le ho (by simp); have c0 : w1.cell? ⟨W.heap.size, 0, none⟩ = some (.pointer (some ⟨b, 0, none⟩)) := (hb.cell (p := ⟨W.heap.size, 0, none⟩) (by simp)).trans (by simp [go_sem]); have hl1 : W.heap.size < w1.heap.size := World.block_lt_of_cell? w1 _ c0; have B1 : Hid (Below W.heap.size W w1) := bstep (by repeat (first | exact Below.refl _ _ | refine Below.setCell ?_ (by simp; try omega) _ | refine Below.alloc ?_ (by simp; try omega) _ | refine Below.drew ?_)) hb; clear hb HC ho)
    | (go_at_call 147; refine (HCL.out _ _ _ (O1.out.alloc _)).mono ?_; rintro e w2 ⟨v2, rfl, ho, hb⟩; obtain ⟨va2, vn2, rfl⟩ := ownv ho; have O2 : Hid (w2.ownsRow (w1.heap.size + 1) 62 2 (.slice va2 l.length vn2) l.length (flatD l)) := Go.Joins.ownsRow_le ho (by simp); have B2 : Hid (Below (w1.heap.size + 1) (w1.alloc (.cells #[.slice va l.length vn] 110)) w2) := hb.mono (by simp); clear hb HCL ho)
    | (go_at_call 146; have hpd := max_pred HW0.out HWI.out O1.out c0 HKb.out B1.out B2.out; refine (delD_any 148 callMy #[.pointer (some ⟨w1.heap.size, 0, none⟩), .pointer (some ⟨W.heap.size, 0, none⟩)] (overB ps l) (w1.heap.size + 1) l _ w2 O2.out (by have := B2.out.size; simpa using this) HKb.out hpd).mono ?_; rintro e w3 ⟨v3, rfl, ho, hb⟩; obtain ⟨va3, vn3, rfl⟩ := ownv ho; have O3 : Hid (w3.ownsRow (w1.heap.size + 1) 62 2 (.slice va3 (maxL ps l).length vn3) (maxL ps l).length (flatD (maxL ps l))) := ho; have B3 : Hid (Below (w1.heap.size + 1) w2 w3) := hb; clear hb ho hpd))
  refine bodyPost_ret (results_tmp2 rfl _ _ _) rfl ⟨⟨.slice va3 (maxL ps l).length vn3, rfl, Go.Joins.ownsRow_le O3.out (by omega)⟩, ?_⟩
  have hb3 := B2.out.trans B3.out
  exact (B1.out.alloc B1.out.size _).trans (hb3.mono (by omega))
set_option maxRecDepth 100000 in
theorem max_no {b : Nat} {ps : List Plc} {W : World} (h : WAt b ps W) (c : Int) (hc : plcI ps c = none) (nm ds : ByteArray) : Calls Tryz.prog 85 #[.pointer (some ⟨b, 0, none⟩), .int .i64 c, .string nm, .string ds] W fun e w' => e = .returned (.tuple #[.slice none 0 0, .int .i64 3]) ∧ Below W.heap.size W w' := by
  have HC : Hid (∀ w, Below W.heap.size W w → Calls Tryz.prog 84 #[.pointer (some ⟨b, 0, none⟩), .int .i64 c, .string nm, .string ds] w fun e w' => e = .returned (.tuple #[.slice none 0 0, .int .i64 3]) ∧ Below w.heap.size w w') := fun w hb => cand_no (h.below hb) c hc nm ds
  clear h hc
  go_enter Tryz.func85, Tryz.ntmps85
  go_wp2_with (go_at_call 84; refine (HC.out _ (by repeat (first | exact Below.refl _ _ | refine Below.setCell ?_ (by simp; try omega) _ | refine Below.alloc ?_ (by simp; try omega) _ | refine Below.drew ?_))).mono ?_; rintro e w1 ⟨rfl, hb⟩; have B1 : Hid (Below W.heap.size W w1) := bstep (by repeat (first | exact Below.refl _ _ | refine Below.setCell ?_ (by simp; try omega) _ | refine Below.alloc ?_ (by simp; try omega) _ | refine Below.drew ?_)) hb; clear hb HC)
  exact bodyPost_ret (results_tmp2 rfl _ _ _) rfl ⟨rfl, B1.out.alloc B1.out.size _⟩


theorem callMz (vs : Array Value) (w : World) : (callFunc 151 vs).run Tryz.prog w = .ok (.enter 151 vs) w := by simp [go_sem]
set_option maxRecDepth 100000 in
set_option maxHeartbeats 1000000 in
theorem oneIn_c {b : Nat} {ps : List Plc} {W : World} (h : WAt b ps W) (hi : WI ps) (bw : Nat) (m : Int × Int) (hw : W.cell? ⟨bw, 0, none⟩ = some (.pointer (some ⟨b, 0, none⟩))) : Calls Tryz.prog 151 (#[.agg #[.int .i64 m.1, .int .i64 m.2]] ++ #[.pointer (some ⟨bw, 0, none⟩)]) W fun e w' => e = .returned (.bool (hasS ps m.1 m.2 1024)) ∧ Below W.heap.size W w' := by
  show Calls Tryz.prog 151 #[.agg #[.int .i64 m.1, .int .i64 m.2], .pointer (some ⟨bw, 0, none⟩)] W _
  have hlw : bw < W.heap.size := World.block_lt_of_cell? W _ hw
  have n2 : ¬ bw = W.heap.size := by omega
  have HS : Hid (∀ w, Below W.heap.size W w → Calls Tryz.prog 145 #[.pointer (some ⟨b, 0, none⟩), .agg #[.int .i64 m.1, .int .i64 m.2], .int .i64 1024] w fun e w' => e = .returned (.bool (hasS ps m.1 m.2 1024)) ∧ Below W.heap.size W w') := fun w hb => (hasS_c (h.below hb) hi.pb m.1 m.2 1024).mono fun e w' zz => ⟨zz.1, bstep hb zz.2⟩
  generalize hasS ps m.1 m.2 1024 = R at *
  obtain ⟨m1, m2⟩ := m
  simp only at HS
  clear h hi
  go_enter Tryz.func151, Tryz.ntmps151
  go_wp2_with (go_at_call 145; refine (HS.out _ (by repeat (first | exact Below.refl _ _ | refine Below.setCell ?_ (by simp; try omega) _ | refine Below.alloc ?_ (by simp; try omega) _ | refine Below.drew ?_))).mono ?_; rintro e w1 ⟨rfl, hb⟩; have B1 : Hid (Below W.heap.size W w1) := hb; clear hb HS)
  exact bodyPost_ret (results_tmp rfl _ _ _) rfl ⟨rfl, B1.out⟩
theorem halloc2 (w : World) {n : Nat} (o : Obj) (hn : w.heap.size = n) : (w.alloc o).heap[n]? = some o := by subst hn; exact halloc1 w o
def idE (x : (Int × Int) × Int) : Value := .tuple #[.agg #[.int .i64 x.1.1, .int .i64 x.1.2], .int .i64 x.2]
set_option maxRecDepth 100000 in
set_option maxHeartbeats 1000000 in
theorem one_yes {b : Nat} {ps : List Plc} {W : World} (h : WAt b ps W) (hi : WI ps) (k : Nat) (q : Plc) (hq : ps[k]? = some q) (nm ds : ByteArray) : Calls Tryz.prog 87 #[.pointer (some ⟨b, 0, none⟩), .int .i64 (k : Int), .string nm, .string ds] W fun e w' => e = .returned (idE (oneV ps (candL ps nm ds q.cl))) ∧ Below W.heap.size W w' := by
  have hKb : (candL ps nm ds q.cl).length ≤ 1000000 := by
    obtain ⟨N, mb, vp, pv, h⟩ := h
    have hwf := h.wf q (List.mem_of_getElem? hq)
    have := nodup_lt_len _ _ hwf.2 hwf.1
    have := candL_len ps nm ds q.cl
    have := hi.hi
    omega
  have HC : Hid (∀ w, Below W.heap.size W w → Calls Tryz.prog 85 #[.pointer (some ⟨b, 0, none⟩), .int .i64 (k : Int), .string nm, .string ds] w fun e w' => (∃ v, e = .returned (.tuple #[v, .int .i64 0]) ∧ w'.ownsRow w.heap.size 62 2 v (maxL ps (candL ps nm ds q.cl)).length (flatD (maxL ps (candL ps nm ds q.cl)))) ∧ Below w.heap.size w w') := fun w hb => max_yes (h.below hb) hi k q hq nm ds
  have HW0 : Hid (WAt b ps W) := h
  have HWI : Hid (WI ps) := hi
  obtain ⟨l, hl⟩ : ∃ l, candL ps nm ds q.cl = l := ⟨_, rfl⟩
  rw [hl] at hKb HC ⊢
  have HMb : Hid ((maxL ps l).length ≤ 1000000) := Nat.le_trans (List.length_filter_le _ _) hKb
  have HOL : Hid ((maxL ps l).filter (fun m => !hasS ps m.1 m.2 1024) = oneL ps l) := rfl
  obtain ⟨R, hR⟩ : ∃ R, oneV ps l = R := ⟨_, rfl⟩
  have HR : Hid ((match oneL ps l with | [] => ((0, 0), 24) | [m] => (m, 0) | _ => ((0, 0), 23)) = R) := hR
  rw [hR]
  generalize oneL ps l = ol at *
  generalize maxL ps l = ml at *
  clear h hi hq hl hR
  have hpred : Hid (∀ (w1 w : World), Below (W.heap.size + 2) w1 w → Below W.heap.size W w1 → w1.cell? ⟨W.heap.size, 0, none⟩ = some (.pointer (some ⟨b, 0, none⟩)) → ∀ m : Int × Int, Calls Tryz.prog 151 (#[.agg #[.int .i64 m.1, .int .i64 m.2]] ++ #[.pointer (some ⟨W.heap.size, 0, none⟩)]) w fun e w' => e = .returned (.bool (hasS ps m.1 m.2 1024)) ∧ Below w.heap.size w w') := fun w1 w hb hb1 hc m => oneIn_c (HW0.out.below (hb1.trans (hb.mono (by omega)))) HWI.out W.heap.size m ((hb.cell (p := ⟨W.heap.size, 0, none⟩) (show W.heap.size < W.heap.size + 2 by omega)).trans hc)
  match ol with
  | [] =>
    have eR : R = ((0, 0), 24) := HR.out.symm
    subst eR
    clear HR
    go_enter Tryz.func87, Tryz.ntmps87
    go_wp2_with (first
      | (go_at_call 85; refine (HC.out _ (by repeat (first | exact Below.refl _ _ | refine Below.setCell ?_ (by simp; try omega) _ | refine Below.alloc ?_ (by simp; try omega) _ | refine Below.drew ?_))).mono ?_; rintro e w1 ⟨⟨v, rfl, ho⟩, hb⟩; obtain ⟨va, vn, rfl⟩ := ownv ho; have O1 : Hid (w1.ownsRow (W.heap.size + 2) 62 2 (.slice va ml.length vn) ml.length (flatD ml)) := Go.Joins.ownsRow_le ho (by simp); have c0 : w1.cell? ⟨W.heap.size, 0, none⟩ = some (.pointer (some ⟨b, 0, none⟩)) := (hb.cell (p := ⟨W.heap.size, 0, none⟩) (by simp; try omega)).trans (by simp [go_sem]); have d0 : w1.heap[W.heap.size + 1]? = some (.cells #[.int .i64 0, .int .i64 0] 62 (0, 0)) := (hb.block (W.heap.size + 1) (by simp)).trans (halloc2 _ _ (by simp)); have B1 : Hid (Below W.heap.size W w1) := bstep (by repeat (first | exact Below.refl _ _ | refine Below.setCell ?_ (by simp; try omega) _ | refine Below.alloc ?_ (by simp; try omega) _ | refine Below.drew ?_)) hb; have L1 : Hid (W.heap.size + 2 ≤ w1.heap.size) := Nat.le_trans (by simp) hb.size; clear hb HC ho)
      | (go_at_call 146; refine (delD_any 151 callMz #[.pointer (some ⟨W.heap.size, 0, none⟩)] (fun m => hasS ps m.1 m.2 1024) (W.heap.size + 2) ml _ w1 O1.out L1.out HMb.out (fun m _ w hb => hpred.out w1 w hb B1.out c0 m)).mono ?_; rintro e w3 ⟨v3, rfl, ho, hb⟩; rw [HOL.out] at ho; obtain ⟨va3, vn3, rfl⟩ := ownv ho; have d1 := (hb.block (W.heap.size + 1) (by omega)).trans d0; have z0 : w3.cell? ⟨W.heap.size + 1, 0, none⟩ = some (.int .i64 0) := (cell_of_row w3 (W.heap.size + 1) 0 _ _ _ d1).trans rfl; have z1 : w3.cell? ⟨W.heap.size + 1, 1, none⟩ = some (.int .i64 0) := (cell_of_row w3 (W.heap.size + 1) 1 _ _ _ d1).trans rfl; have f0 := frozen_of_row w3 (W.heap.size + 1) 0 _ _ d1; have f1 := frozen_of_row w3 (W.heap.size + 1) 1 _ _ d1; have B3 : Hid (Below W.heap.size W w3) := B1.out.trans (hb.mono (by omega)); clear hb ho d0 d1 c0))
    exact bodyPost_ret (v := idE ((0, 0), 24)) (by simp [results, Tryz.results87, go_sem, idE, *]) rfl ⟨rfl, (B3.out.setCell (by simp) _).setCell (by simp) _⟩
  | [m] =>
    have eR : R = (m, 0) := HR.out.symm
    subst eR
    clear HR
    have hlen : (List.length [m]) = 1 := rfl
    go_enter Tryz.func87, Tryz.ntmps87
    go_wp2_with (first
      | (go_at_call 85; refine (HC.out _ (by repeat (first | exact Below.refl _ _ | refine Below.setCell ?_ (by simp; try omega) _ | refine Below.alloc ?_ (by simp; try omega) _ | refine Below.drew ?_))).mono ?_; rintro e w1 ⟨⟨v, rfl, ho⟩, hb⟩; obtain ⟨va, vn, rfl⟩ := ownv ho; have O1 : Hid (w1.ownsRow (W.heap.size + 2) 62 2 (.slice va ml.length vn) ml.length (flatD ml)) := Go.Joins.ownsRow_le ho (by simp); have c0 : w1.cell? ⟨W.heap.size, 0, none⟩ = some (.pointer (some ⟨b, 0, none⟩)) := (hb.cell (p := ⟨W.heap.size, 0, none⟩) (by simp; try omega)).trans (by simp [go_sem]); have d0 : w1.heap[W.heap.size + 1]? = some (.cells #[.int .i64 0, .int .i64 0] 62 (0, 0)) := (hb.block (W.heap.size + 1) (by simp)).trans (halloc2 _ _ (by simp)); have B1 : Hid (Below W.heap.size W w1) := bstep (by repeat (first | exact Below.refl _ _ | refine Below.setCell ?_ (by simp; try omega) _ | refine Below.alloc ?_ (by simp; try omega) _ | refine Below.drew ?_)) hb; have L1 : Hid (W.heap.size + 2 ≤ w1.heap.size) := Nat.le_trans (by simp) hb.size; clear hb HC ho)
      | (go_at_call 146; refine (delD_any 151 callMz #[.pointer (some ⟨W.heap.size, 0, none⟩)] (fun m => hasS ps m.1 m.2 1024) (W.heap.size + 2) ml _ w1 O1.out L1.out HMb.out (fun m _ w hb => hpred.out w1 w hb B1.out c0 m)).mono ?_; rintro e w3 ⟨v3, rfl, ho, hb⟩; rw [HOL.out] at ho; obtain ⟨g3, vn3, rfl⟩ := Go.Joins.ownsRow_form ho (by simp); obtain ⟨r0, r1, _⟩ := rowD_cells (l := [m]) ho (i := 0) rfl; simp only [Nat.zero_mul, Nat.zero_add] at r0 r1; have hg3 : ¬ g3 = W.heap.size + 1 := (by have := (ho.lt g3 rfl).1; omega); have d1 := (hb.block (W.heap.size + 1) (by omega)).trans d0; have z0 : w3.cell? ⟨W.heap.size + 1, 0, none⟩ = some (.int .i64 0) := (cell_of_row w3 (W.heap.size + 1) 0 _ _ _ d1).trans rfl; have z1 : w3.cell? ⟨W.heap.size + 1, 1, none⟩ = some (.int .i64 0) := (cell_of_row w3 (W.heap.size + 1) 1 _ _ _ d1).trans rfl; have f0 := frozen_of_row w3 (W.heap.size + 1) 0 _ _ d1; have f1 := frozen_of_row w3 (W.heap.size + 1) 1 _ _ d1; have B3 : Hid (Below W.heap.size W w3) := B1.out.trans (hb.mono (by omega)); clear hb ho d0 d1 c0))
    exact bodyPost_ret (v := idE (m, 0)) (by simp [results, Tryz.results87, go_sem, idE, *]) rfl ⟨rfl, (B3.out.setCell (by simp) _).setCell (by simp) _⟩
  | m :: m' :: r =>
    have eR : R = ((0, 0), 23) := HR.out.symm
    subst eR
    clear HR
    have hl2 : (m :: m' :: r).length = r.length + 2 := rfl
    generalize (m :: m' :: r) = ol at *
    have n1 : ¬ (ol.length : Int) = 0 := by omega
    have n2 : ¬ (ol.length : Int) = 1 := by omega
    clear hl2
    go_enter Tryz.func87, Tryz.ntmps87
    go_wp2_with (first
      | (go_at_call 85; refine (HC.out _ (by repeat (first | exact Below.refl _ _ | refine Below.setCell ?_ (by simp; try omega) _ | refine Below.alloc ?_ (by simp; try omega) _ | refine Below.drew ?_))).mono ?_; rintro e w1 ⟨⟨v, rfl, ho⟩, hb⟩; obtain ⟨va, vn, rfl⟩ := ownv ho; have O1 : Hid (w1.ownsRow (W.heap.size + 2) 62 2 (.slice va ml.length vn) ml.length (flatD ml)) := Go.Joins.ownsRow_le ho (by simp); have c0 : w1.cell? ⟨W.heap.size, 0, none⟩ = some (.pointer (some ⟨b, 0, none⟩)) := (hb.cell (p := ⟨W.heap.size, 0, none⟩) (by simp; try omega)).trans (by simp [go_sem]); have d0 : w1.heap[W.heap.size + 1]? = some (.cells #[.int .i64 0, .int .i64 0] 62 (0, 0)) := (hb.block (W.heap.size + 1) (by simp)).trans (halloc2 _ _ (by simp)); have B1 : Hid (Below W.heap.size W w1) := bstep (by repeat (first | exact Below.refl _ _ | refine Below.setCell ?_ (by simp; try omega) _ | refine Below.alloc ?_ (by simp; try omega) _ | refine Below.drew ?_)) hb; have L1 : Hid (W.heap.size + 2 ≤ w1.heap.size) := Nat.le_trans (by simp) hb.size; clear hb HC ho)
      | (go_at_call 146; refine (delD_any 151 callMz #[.pointer (some ⟨W.heap.size, 0, none⟩)] (fun m => hasS ps m.1 m.2 1024) (W.heap.size + 2) ml _ w1 O1.out L1.out HMb.out (fun m _ w hb => hpred.out w1 w hb B1.out c0 m)).mono ?_; rintro e w3 ⟨v3, rfl, ho, hb⟩; rw [HOL.out] at ho; obtain ⟨va3, vn3, rfl⟩ := ownv ho; have d1 := (hb.block (W.heap.size + 1) (by omega)).trans d0; have z0 : w3.cell? ⟨W.heap.size + 1, 0, none⟩ = some (.int .i64 0) := (cell_of_row w3 (W.heap.size + 1) 0 _ _ _ d1).trans rfl; have z1 : w3.cell? ⟨W.heap.size + 1, 1, none⟩ = some (.int .i64 0) := (cell_of_row w3 (W.heap.size + 1) 1 _ _ _ d1).trans rfl; have f0 := frozen_of_row w3 (W.heap.size + 1) 0 _ _ d1; have f1 := frozen_of_row w3 (W.heap.size + 1) 1 _ _ d1; have B3 : Hid (Below W.heap.size W w3) := B1.out.trans (hb.mono (by omega)); clear hb ho d0 d1 c0))
    exact bodyPost_ret (v := idE ((0, 0), 23)) (by simp [results, Tryz.results87, go_sem, idE, *]) rfl ⟨rfl, (B3.out.setCell (by simp) _).setCell (by simp) _⟩
/-- the first, or none -/
def someV : List (Int × Int) → (Int × Int) × Int
  | [] => ((0, 0), 6)
  | m :: _ => (m, 0)
set_option maxRecDepth 100000 in
set_option maxHeartbeats 1000000 in
theorem some_yes {b : Nat} {ps : List Plc} {W : World} (h : WAt b ps W) (hi : WI ps) (k : Nat) (q : Plc) (hq : ps[k]? = some q) (nm ds : ByteArray) : Calls Tryz.prog 144 #[.pointer (some ⟨b, 0, none⟩), .int .i64 (k : Int), .string nm, .string ds] W fun e w' => e = .returned (idE (someV (candL ps nm ds q.cl))) ∧ Below W.heap.size W w' := by
  have HC : Hid (∀ w, Below W.heap.size W w → Calls Tryz.prog 84 #[.pointer (some ⟨b, 0, none⟩), .int .i64 (k : Int), .string nm, .string ds] w fun e w' => (∃ v, e = .returned (.tuple #[v, .int .i64 0]) ∧ w'.ownsRow w.heap.size 62 2 v (candL ps nm ds q.cl).length (flatD (candL ps nm ds q.cl))) ∧ Below w.heap.size w w') := fun w hb => cand_yes (h.below hb) hi.pb hi.hi k q hq nm ds
  generalize candL ps nm ds q.cl = l at *
  clear h hi hq
  match l with
  | [] =>
    rw [someV]
    go_enter Tryz.func144, Tryz.ntmps144
    go_wp2_with (go_at_call 84; refine (HC.out _ (by repeat (first | exact Below.refl _ _ | refine Below.setCell ?_ (by simp; try omega) _ | refine Below.alloc ?_ (by simp; try omega) _ | refine Below.drew ?_))).mono ?_; rintro e w3 ⟨⟨v, rfl, ho⟩, hb⟩; obtain ⟨va3, vn3, rfl⟩ := ownv ho; have d1 : w3.heap[W.heap.size]? = some (.cells #[.int .i64 0, .int .i64 0] 62 (0, 0)) := (hb.block W.heap.size (by simp)).trans (halloc2 _ _ rfl); have z0 : w3.cell? ⟨W.heap.size, 0, none⟩ = some (.int .i64 0) := (cell_of_row w3 W.heap.size 0 _ _ _ d1).trans rfl; have z1 : w3.cell? ⟨W.heap.size, 1, none⟩ = some (.int .i64 0) := (cell_of_row w3 W.heap.size 1 _ _ _ d1).trans rfl; have f0 := frozen_of_row w3 W.heap.size 0 _ _ d1; have f1 := frozen_of_row w3 W.heap.size 1 _ _ d1; have B3 : Hid (Below W.heap.size W w3) := bstep (by repeat (first | exact Below.refl _ _ | refine Below.setCell ?_ (by simp; try omega) _ | refine Below.alloc ?_ (by simp; try omega) _ | refine Below.drew ?_)) hb; clear hb d1 HC ho)
    exact bodyPost_ret (v := idE ((0, 0), 6)) (by simp [results, Tryz.results144, go_sem, idE, *]) rfl ⟨rfl, (B3.out.setCell (by simp) _).setCell (by simp) _⟩
  | m :: r =>
    rw [someV]
    have hl2 : (m :: r).length = r.length + 1 := rfl
    have hat : Hid ((m :: r)[0]? = some m) := rfl
    generalize (m :: r) = l at *
    have n1 : ¬ (l.length : Int) = 0 := by omega
    have n2 : (0 : Int) < (l.length : Int) := by omega
    have n3 : Hid (0 < l.length) := by rw [Hid, hl2]; omega
    clear hl2
    go_enter Tryz.func144, Tryz.ntmps144
    go_wp2_with (go_at_call 84; refine (HC.out _ (by repeat (first | exact Below.refl _ _ | refine Below.setCell ?_ (by simp; try omega) _ | refine Below.alloc ?_ (by simp; try omega) _ | refine Below.drew ?_))).mono ?_; rintro e w3 ⟨⟨v, rfl, ho⟩, hb⟩; obtain ⟨g3, vn3, rfl⟩ := Go.Joins.ownsRow_form ho n3.out; obtain ⟨r0, r1, _⟩ := rowD_cells ho hat.out; simp only [Nat.zero_mul, Nat.zero_add] at r0 r1; have hg3 : ¬ g3 = W.heap.size := (by have := (ho.lt g3 rfl).1; simp at this; omega); have d1 : w3.heap[W.heap.size]? = some (.cells #[.int .i64 0, .int .i64 0] 62 (0, 0)) := (hb.block W.heap.size (by simp)).trans (halloc2 _ _ rfl); have z0 : w3.cell? ⟨W.heap.size, 0, none⟩ = some (.int .i64 0) := (cell_of_row w3 W.heap.size 0 _ _ _ d1).trans rfl; have z1 : w3.cell? ⟨W.heap.size, 1, none⟩ = some (.int .i64 0) := (cell_of_row w3 W.heap.size 1 _ _ _ d1).trans rfl; have f0 := frozen_of_row w3 W.heap.size 0 _ _ d1; have f1 := frozen_of_row w3 W.heap.size 1 _ _ d1; have B3 : Hid (Below W.heap.size W w3) := bstep (by repeat (first | exact Below.refl _ _ | refine Below.setCell ?_ (by simp; try omega) _ | refine Below.alloc ?_ (by simp; try omega) _ | refine Below.drew ?_)) hb; clear hb d1 HC ho)
    exact bodyPost_ret (v := idE (m, 0)) (by simp [results, Tryz.results144, go_sem, idE, *]) rfl ⟨rfl, (B3.out.setCell (by simp) _).setCell (by simp) _⟩


set_option maxRecDepth 100000 in
set_option maxHeartbeats 4000000 in
theorem built10_c (v : Value) (l : List Cls) (W : World) (h : IsClss W v l) : Calls Tryz.prog 83 #[v] W fun e w' => (∃ b, e = .returned (.pointer (some ⟨b, 0, none⟩)) ∧ WAt b (wld l) w') ∧ Below W.heap.size W w' := by
  have hCW := clss_w h
  obtain ⟨ao, cap, rfl, h1, h2, h3⟩ := h
  unfold maxLen at h2
  obtain ⟨L, hL⟩ : ∃ L, l.length = L := ⟨_, rfl⟩
  have HL : Hid (l.length = L) := hL
  have HI : Hid _ := h3
  have HCW : Hid (∀ c ∈ l, ClsW c) := hCW
  rw [hL] at h1 ⊢
  clear hL h3 hCW
  have HN : Hid (∀ w : World, Calls Tryz.prog 43 #[] w fun e w' => e = .returned (.pointer (some ⟨w.heap.size + 1, 0, none⟩)) ∧ (∃ vp pv, HW w' w.heap.size (w.heap.size + 1) w.heap.size P3 vp pv) ∧ Below w.heap.size w w') := new_any
  go_enter Tryz.func83, Tryz.ntmps83
  go_wp2_with (first
    | (go_at_call 43; refine (HN.out _).mono ?_; rintro e w2 ⟨rfl, hw, hb⟩; have H2 : Hid (∃ vp pv, HW w2 W.heap.size (W.heap.size + 1) W.heap.size P3 vp pv) := hw; have B2 : Hid (Below W.heap.size W w2) := hb; clear hb hw HN))
  go_loopw [4] (fun iv wr => ∃ (i : Nat), iv = .int .i64 i ∧ i ≤ L ∧ Hid (∃ vp pv, HW wr W.heap.size (W.heap.size + 1) W.heap.size (wld (l.take i)) vp pv) ∧ Hid (Below W.heap.size W wr)) (fun iv _ => L - (intOf iv).toNat)
  case atStart => exact ⟨0, rfl, Nat.zero_le _, H2, B2⟩
  case round =>
    clear H2 B2
    obtain ⟨i, rfl, hi, hHW, hB⟩ := hrel
    by_cases hlt : i < L
    · obtain ⟨c, hc⟩ : ∃ c, l[i]? = some c := ⟨_, List.getElem?_eq_getElem (by rw [HL.out]; exact hlt)⟩
      obtain ⟨bk, o, rfl, hbk, hcl⟩ := HI.out (fun e => by rw [e] at hc; simp at hc)
      obtain ⟨vi, vm, hcell, hin⟩ := hcl i c hc
      have bel : Below W.heap.size W wr := hB.out
      have p0 : wr.cell? ⟨bk, o + i * 6, none⟩ = some (.string c.nm) := (bel.cell (p := ⟨bk, o + i * 6, none⟩) hbk).trans (hcell 0 _ rfl)
      have p1 : wr.cell? ⟨bk, o + i * 6 + 1, none⟩ = some (.string c.su) := (bel.cell (p := ⟨bk, o + i * 6 + 1, none⟩) hbk).trans (hcell 1 _ rfl)
      have p2 : wr.cell? ⟨bk, o + i * 6 + 2, none⟩ = some vi := (bel.cell (p := ⟨bk, o + i * 6 + 2, none⟩) hbk).trans (hcell 2 _ rfl)
      have p3 : wr.cell? ⟨bk, o + i * 6 + 3, none⟩ = some (.int .i64 c.fl) := (bel.cell (p := ⟨bk, o + i * 6 + 3, none⟩) hbk).trans (hcell 3 _ rfl)
      have p4 : wr.cell? ⟨bk, o + i * 6 + 4, none⟩ = some (.int .i64 c.ld) := (bel.cell (p := ⟨bk, o + i * 6 + 4, none⟩) hbk).trans (hcell 4 _ rfl)
      have p5 : wr.cell? ⟨bk, o + i * 6 + 5, none⟩ = some vm := (bel.cell (p := ⟨bk, o + i * 6 + 5, none⟩) hbk).trans (hcell 5 _ rfl)
      have hWI : WI (wld (l.take i)) := wld_wi _ (fun c hc => HCW.out c (List.mem_of_mem_take hc))
      have HD : Hid (Calls Tryz.prog 44 #[.pointer (some ⟨W.heap.size + 1, 0, none⟩), .agg #[.string c.nm, .string c.su, vi, .int .i64 c.fl, .int .i64 c.ld, vm]] wr fun e w' => (∃ u, e = .returned u) ∧ Hid (∃ vp pv, HW w' W.heap.size (W.heap.size + 1) W.heap.size (wld (l.take (i + 1))) vp pv) ∧ Hid (Below W.heap.size W w')) := by
        obtain ⟨vp, pv, hw⟩ := hHW.out
        refine (define_any W.heap.size (W.heap.size + 1) W.heap.size _ vp pv c vi vm wr hw hB.out.size (hin.keep bel) hWI.nm).mono ?_
        rintro e w' ⟨rfl, hw', hb', _⟩
        rw [wld_at hc]
        exact ⟨⟨_, rfl⟩, hw', hB.out.trans hb'⟩
      clear hcl hcell hin hc bel hWI hHW hB HI
      go_wp2_with (go_at_call 44; refine HD.out.mono ?_; rintro e w3 ⟨⟨u3, rfl⟩, hw3, hb3⟩; clear HD)
      go_roundw
      case rel => exact ⟨i + 1, by go_num, by omega, hw3, hb3⟩
      case measure => simp [intOf]; omega
    · have e : i = L := by omega
      subst e
      have HF : Hid (WAt (W.heap.size + 1) (wld l) wr) := by
        obtain ⟨vp, pv, hw⟩ := hHW.out
        rw [List.take_of_length_le (by rw [HL.out]; exact Nat.le_refl _)] at hw
        exact hw.wat
      clear hHW HI
      go_wp2
      exact bodyPost_ret (results_tmp rfl _ _ _) rfl ⟨⟨_, rfl, HF.out⟩, hB.out⟩
set_option maxRecDepth 100000 in
theorem awake10_c (W : World) : Calls Tryz.prog 82 #[] W fun e w' => e = .returned (.bool true) ∧ Below W.heap.size W w' := by
  have HN : Hid (∀ w : World, Calls Tryz.prog 43 #[] w fun e w' => ∃ b, e = .returned (.pointer (some ⟨b, 0, none⟩)) ∧ WAt b P3 w' ∧ Below w.heap.size w w') := fun w => (new_any w).mono fun e w' zz => ⟨_, zz.1, by obtain ⟨vp, pv, hw⟩ := zz.2.1; exact hw.wat, zz.2.2⟩
  have HO : Hid (∀ (w : World) (b : Nat) (nm ds : ByteArray), WAt b P3 w → Calls Tryz.prog 87 #[.pointer (some ⟨b, 0, none⟩), .int .i64 0, .string nm, .string ds] w fun e w' => e = .returned (.tuple #[.agg #[.int .i64 0, .int .i64 0], .int .i64 24]) ∧ Below w.heap.size w w') := fun w b nm ds h => one_yes h wi3 0 _ rfl nm ds
  have HS : Hid (∀ (w : World) (b : Nat) (nm ds : ByteArray), WAt b P3 w → Calls Tryz.prog 144 #[.pointer (some ⟨b, 0, none⟩), .int .i64 0, .string nm, .string ds] w fun e w' => e = .returned (.tuple #[.agg #[.int .i64 0, .int .i64 0], .int .i64 6]) ∧ Below w.heap.size w w') := fun w b nm ds h => some_yes h wi3 0 _ rfl nm ds
  have BB : Hid (Below W.heap.size W W) := Below.refl _ _
  go_enter Tryz.func82, Tryz.ntmps82
  go_wp2_with (first
    | (go_at_call 43; refine (HN.out _).mono ?_; rintro e w1 ⟨b, rfl, hw, hb⟩; have BB2 : Below W.heap.size W w1 := bstep (by repeat (first | exact BB.out | exact Below.refl _ _ | refine Below.setCell ?_ (by simp; try omega) _ | refine Below.alloc ?_ (by have := BB.out.size; simp; try omega) _ | refine Below.drew ?_)) hb; clear BB; have BB : Hid (Below W.heap.size W w1) := BB2; (try clear HH); have HH : Hid (WAt b P3 w1) := hw; clear hw hb BB2)
    | (go_at_call 87; refine (HO.out _ _ _ _ HH.out).mono ?_; rintro e w2 ⟨rfl, hb⟩; have BB2 := bstep BB.out hb; clear BB; have BB : Hid (Below W.heap.size W w2) := BB2; clear hb BB2 HO)
    | (go_at_call 144; refine (HS.out _ _ _ _ HH.out).mono ?_; rintro e w2 ⟨rfl, hb⟩; have BB2 := bstep BB.out hb; clear BB; have BB : Hid (Below W.heap.size W w2) := BB2; clear hb BB2 HS))
  exact bodyPost_ret (results_tmp rfl _ _ _) rfl ⟨rfl, (by repeat (first | exact BB.out | exact Below.refl _ _ | refine Below.setCell ?_ (by simp; try omega) _ | refine Below.alloc ?_ (by have := BB.out.size; simp; try omega) _ | refine Below.drew ?_))⟩
theorem sameID_c (a b : Int × Int) (w : World) : Calls Tryz.prog 78 #[.agg #[.int .i64 a.1, .int .i64 a.2], .agg #[.int .i64 b.1, .int .i64 b.2]] w fun e w' => e = .returned (.bool ((a.1 == b.1) && (a.2 == b.2))) ∧ Below w.heap.size w w' := by
  obtain ⟨a1, a2⟩ := a
  obtain ⟨b1, b2⟩ := b
  by_cases h1 : a1 = b1
  · by_cases h2 : a2 = b2
    · subst h1 h2
      go_enter Tryz.func78, Tryz.ntmps78
      go_wp2
      exact bodyPost_ret (results_tmp rfl _ _ _) rfl ⟨by simp, (by repeat (first | exact Below.refl _ _ | refine Below.setCell ?_ (by simp; try omega) _ | refine Below.alloc ?_ (by simp; try omega) _ | refine Below.drew ?_))⟩
    · subst h1
      go_enter Tryz.func78, Tryz.ntmps78
      go_wp2
      exact bodyPost_ret (results_tmp rfl _ _ _) rfl ⟨by simp, (by repeat (first | exact Below.refl _ _ | refine Below.setCell ?_ (by simp; try omega) _ | refine Below.alloc ?_ (by simp; try omega) _ | refine Below.drew ?_))⟩
  · go_enter Tryz.func78, Tryz.ntmps78
    go_wp2
    exact bodyPost_ret (results_tmp rfl _ _ _) rfl ⟨by simp [h1], (by repeat (first | exact Below.refl _ _ | refine Below.setCell ?_ (by simp; try omega) _ | refine Below.alloc ?_ (by simp; try omega) _ | refine Below.drew ?_))⟩




theorem wi_cl {ps : List Plc} (hW : WI ps) {j : Nat} {r : Plc} (hr : ps[j]? = some r) : r.cl.length ≤ ps.length := by
  have hj := (List.getElem?_eq_some_iff.1 hr).1
  have e : clO (ps.map nd) j = r.cl := by rw [clO, nd_at' hr]; rfl
  refine nodup_lt_len _ _ (by rw [← e]; exact cl_nodup hW.wo j) (fun i hi => ?_)
  rw [← e] at hi
  have := (cl_facts hW.wo hi).1
  omega


set_option maxRecDepth 100000 in
set_option maxHeartbeats 4000000 in
theorem in_c (N : Nat) (l : List (Int × Int)) (v : Value) (m : Int × Int) (W : World) (h : W.ownsRow N 62 2 v l.length (flatD l)) (hn : l.length ≤ 1000000) (hm : m ∈ l) : Calls Tryz.prog 86 #[v, .agg #[.int .i64 m.1, .int .i64 m.2]] W fun e w' => e = .returned (.bool true) ∧ Below W.heap.size W w' := by
  obtain ⟨a1, c1, rfl⟩ := ownv h
  have H1 : Hid (W.ownsRow N 62 2 (.slice a1 l.length c1) l.length (flatD l)) := h
  have HM : Hid (m ∈ l) := hm
  obtain ⟨K, hK⟩ : ∃ K, l.length = K := ⟨_, rfl⟩
  have HK : Hid (l.length = K) := hK
  rw [hK] at hn ⊢
  obtain ⟨m1, m2⟩ := m
  clear h hK hm
  have hB0 : Hid (Below W.heap.size W (W.alloc (.cells #[.int .i64 m1, .int .i64 m2] 62))) := (Below.refl _ _).alloc (Nat.le_refl _) _
  have hC0 : Hid ((W.alloc (.cells #[.int .i64 m1, .int .i64 m2] 62)).cell? ⟨W.heap.size, 0, none⟩ = some (.int .i64 m1) ∧ (W.alloc (.cells #[.int .i64 m1, .int .i64 m2] 62)).cell? ⟨W.heap.size, 1, none⟩ = some (.int .i64 m2) ∧ W.heap.size < (W.alloc (.cells #[.int .i64 m1, .int .i64 m2] 62)).heap.size) := by rw [Hid]; simp [go_sem]
  go_enter Tryz.func86, Tryz.ntmps86
  go_wp2
  obtain ⟨U, hU⟩ : ∃ U, W.alloc (.cells #[.int .i64 m1, .int .i64 m2] 62) = U := ⟨_, rfl⟩
  rw [hU] at hB0 hC0 ⊢
  clear hU
  go_loopw [5] (fun iv wr => ∃ i : Nat, iv = .int .i64 i ∧ i ≤ K ∧ Hid (¬ (m1, m2) ∈ l.take i) ∧ Hid (Below U.heap.size U wr)) (fun iv _ => K - (intOf iv).toNat)
  case atStart => exact ⟨0, rfl, Nat.zero_le _, by rw [Hid]; simp, Below.refl _ _⟩
  case round =>
    obtain ⟨i, rfl, hi, hni, hb⟩ := hrel
    by_cases hlt : i < K
    · have hlq : i < l.length := by rw [HK.out]; exact hlt
      obtain ⟨x, hx⟩ : ∃ x, l[i]? = some x := ⟨_, List.getElem?_eq_getElem hlq⟩
      obtain ⟨g1, d1, hf1⟩ := Go.Joins.ownsRow_form H1.out (by omega)
      have r1 := H1.out
      rw [hf1] at r1
      obtain ⟨e0, e1, hgl1⟩ := rowD_cells r1 hx
      injection hf1 with ha1 _ hc1
      subst ha1 hc1
      obtain ⟨σ, V, hne, V1, V2⟩ := class_of' (fun w' => Below U.heap.size U w') ⟨_, Below.refl _ _⟩
      obtain ⟨q0, q1, hlU⟩ := hC0.out
      have kp : ∀ (s : σ) (bb j : Nat) (v : Value), bb < W.heap.size → W.cell? ⟨bb, j, none⟩ = some v → (V s).cell? ⟨bb, j, none⟩ = some v := fun s bb j v hl h => ((V1.out s).cell (p := ⟨bb, j, none⟩) (Nat.lt_of_lt_of_le hl hB0.out.size)).trans ((hB0.out.cell (p := ⟨bb, j, none⟩) hl).trans h)
      replace e0 := fun s => kp s _ _ _ hgl1 e0
      replace e1 := fun s => kp s _ _ _ hgl1 e1
      have p0 : ∀ s, (V s).cell? ⟨W.heap.size, 0, none⟩ = some (.int .i64 m1) := fun s => ((V1.out s).cell (p := ⟨W.heap.size, 0, none⟩) hlU).trans q0
      have p1 : ∀ s, (V s).cell? ⟨W.heap.size, 1, none⟩ = some (.int .i64 m2) := fun s => ((V1.out s).cell (p := ⟨W.heap.size, 1, none⟩) hlU).trans q1
      have HS : Hid (∀ s, Calls Tryz.prog 78 #[.agg #[.int .i64 x.1, .int .i64 x.2], .agg #[.int .i64 m1, .int .i64 m2]] (V s) fun e w' => e = .returned (.bool ((x.1 == m1) && (x.2 == m2))) ∧ ∃ s', w' = V s') := fun s => (sameID_c x (m1, m2) (V s)).mono fun e w' zz => ⟨zz.1, V2.out _ (bstep (V1.out s) zz.2)⟩
      have hiI : (i : Int) < (K : Int) := by omega
      have HNX : Hid (((x.1 == m1) && (x.2 == m2)) = false → ¬ (m1, m2) ∈ l.take (i + 1)) := fun hf hmem => by
        rw [List.take_add_one, hx] at hmem
        rcases List.mem_append.1 hmem with hmem | hmem
        · exact hni.out hmem
        · simp at hmem
          rw [← hmem] at hf
          simp at hf
      generalize ((x.1 == m1) && (x.2 == m2)) = z at *
      obtain ⟨x1, x2⟩ := x
      simp only at e0 e1 HS
      clear hx r1 kp hlq H1 q0 q1 hlU hC0
      go_wp2
      refine wp_region_class (C := fun w' => ∃ s, w' = V s) (by kernel_rfl) (by kernel_rfl) (V2.out _ (hb.out.drew)) ?_
      repeat (go_big_quiet_step ((go_at_call 78; exact HS.out _)))
      refine wpQuiet_nil ?_
      intro w9 hw9
      obtain ⟨s9, rfl⟩ := hw9
      have B9 : Hid (Below U.heap.size U (V s9)) := V1.out s9
      cases z with
      | true =>
        go_wp2
        exact bodyPost_ret (results_tmp rfl _ _ _) rfl ⟨rfl, bstep hB0.out B9.out⟩
      | false =>
        have hnx : Hid (¬ (m1, m2) ∈ l.take (i + 1)) := HNX.out rfl
        clear HNX
        go_wp2
        go_roundw
        case rel => exact ⟨i + 1, by go_num, by omega, hnx, B9⟩
        case measure => simp [intOf]; omega
    · have e : i = K := by omega
      exfalso
      have h1 := hni.out
      rw [e, ← HK.out, List.take_of_length_le (Nat.le_refl _)] at h1
      exact h1 HM.out
/-- what the loops of the law stand on: a world, the candidates and the most special ones in memory -/
structure MoW (b : Nat) (ps : List Plc) (va vm : Value) (A M : List (Int × Int)) (w : World) : Prop where
  wat : WAt b ps w
  all : ∃ N, w.ownsRow N 62 2 va A.length (flatD A)
  most : ∃ N, w.ownsRow N 62 2 vm M.length (flatD M)
theorem MoW.below {b : Nat} {ps : List Plc} {va vm : Value} {A M : List (Int × Int)} {w w' : World} (h : MoW b ps va vm A M w) (hb : Below w.heap.size w w') : MoW b ps va vm A M w' := by
  obtain ⟨N1, h1⟩ := h.all
  obtain ⟨N2, h2⟩ := h.most
  exact ⟨h.wat.below hb, ⟨N1, rowBelow h1 hb⟩, ⟨N2, rowBelow h2 hb⟩⟩
theorem MoW.allC {b : Nat} {ps : List Plc} {aa : Option Addr} {ca : Nat} {vm : Value} {A M : List (Int × Int)} {w : World} (h : MoW b ps (.slice aa A.length ca) vm A M w) {i : Nat} {x : Int × Int} (hx : A[i]? = some x) : ∃ g, aa = some ⟨g, 0, none⟩ ∧ w.cell? ⟨g, i * 2, none⟩ = some (.int .i64 x.1) ∧ w.cell? ⟨g, i * 2 + 1, none⟩ = some (.int .i64 x.2) := by
  obtain ⟨N, h1⟩ := h.all
  have hi := (List.getElem?_eq_some_iff.1 hx).1
  obtain ⟨g, c, hf⟩ := Go.Joins.ownsRow_form h1 (by omega)
  injection hf with ha _ hc
  subst ha hc
  obtain ⟨e0, e1, _⟩ := rowD_cells h1 hx
  exact ⟨g, rfl, e0, e1⟩
theorem MoW.mostC {b : Nat} {ps : List Plc} {am : Option Addr} {cm : Nat} {va : Value} {A M : List (Int × Int)} {w : World} (h : MoW b ps va (.slice am M.length cm) A M w) {i : Nat} {x : Int × Int} (hx : M[i]? = some x) : ∃ g, am = some ⟨g, 0, none⟩ ∧ w.cell? ⟨g, i * 2, none⟩ = some (.int .i64 x.1) ∧ w.cell? ⟨g, i * 2 + 1, none⟩ = some (.int .i64 x.2) := by
  obtain ⟨N, h1⟩ := h.most
  have hi := (List.getElem?_eq_some_iff.1 hx).1
  obtain ⟨g, c, hf⟩ := Go.Joins.ownsRow_form h1 (by omega)
  injection hf with ha _ hc
  subst ha hc
  obtain ⟨e0, e1, _⟩ := rowD_cells h1 hx
  exact ⟨g, rfl, e0, e1⟩
end Go.Proofs.YtahalliodpkoeaaGreat
