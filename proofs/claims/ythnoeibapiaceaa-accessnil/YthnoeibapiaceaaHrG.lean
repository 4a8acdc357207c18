/- The walks of hier.New and of the classes that are there first. -/
import Derived.Test.YthnoeibapiaceaaHrF
namespace Go.Proofs.Ythnoeibapiaceaa
open Go.RowKit Go.Maps

def insL (op n : Int) : List Value := [.int .i64 op, .int .i64 n, .string ⟨#[]⟩, .bool false, .string ⟨#[]⟩, .string ⟨#[]⟩, .string ⟨#[]⟩]
def tObj : ByteArray := ⟨#[79, 98, 106, 101, 99, 116]⟩
def objMs : List HM := [⟨⟨#[60, 105, 110, 105, 116, 62]⟩, ⟨#[40, 41, 86]⟩, 1, 1, 0, 1, insL 38 0⟩, ⟨⟨#[105, 100]⟩, ⟨#[40, 41, 73]⟩, 1, 1, 1, 2, insL 1 7 ++ insL 36 0⟩, ⟨⟨#[107, 105, 110]⟩, ⟨#[40, 41, 76, 79, 98, 106, 101, 99, 116, 59]⟩, 4, 1, 1, 2, insL 4 0 ++ insL 37 0⟩]

theorem rds_at (w : World) (m : Nat) (hm : w.heap.size = m) (cs : Array Value) (t : TypeId) (n k : Nat) (hl : cs.toList.length = n * k) (hn : n ≤ maxLen) : Rds (w.alloc (.cells cs t)) (.slice (some ⟨m, 0, none⟩) n n) n k cs.toList := by
  subst hm
  refine ⟨hl, .inr ⟨w.heap.size, 0, n, rfl, Nat.le_refl _, hn, by simp, fun j u hj => ?_⟩⟩
  rw [Nat.zero_add, cell_of_row _ w.heap.size j _ _ _ (heap_alloc_new w _)]
  simpa using hj

set_option maxRecDepth 100000 in
theorem objectC_any (W : World) : Calls Try.prog 30 #[] W fun e w' => ∃ g pm, e = .returned (.agg #[.string tObj, .string ⟨#[]⟩, .slice none 0 0, .int .i64 33, .int .i64 0, .slice (some ⟨g, 0, none⟩) 3 3]) ∧ Rds w' (.slice (some ⟨g, 0, none⟩) 3 3) 3 6 (flatH pm) ∧ pm.map Prod.fst = objMs ∧ (∀ p ∈ pm, Rds w' p.2 p.1.n 7 p.1.xs ∧ (∀ u ∈ p.1.xs, u.oneCell' = true) ∧ p.1.n ≤ 1000000) ∧ Below W.heap.size W w' := by
  go_enter Try.func30, Try.ntmps30
  go_wp2
  refine bodyPost_ret (v := .agg #[.string tObj, .string ⟨#[]⟩, .slice none 0 0, .int .i64 33, .int .i64 0, .slice (some ⟨W.heap.size + 1 + 1 + 1 + 1, 0, none⟩) 3 3]) (by simp [results, Try.results30, go_sem, tObj]) rfl ⟨_, [(⟨⟨#[60, 105, 110, 105, 116, 62]⟩, ⟨#[40, 41, 86]⟩, 1, 1, 0, 1, insL 38 0⟩, .slice (some ⟨W.heap.size + 1, 0, none⟩) 1 1), (⟨⟨#[105, 100]⟩, ⟨#[40, 41, 73]⟩, 1, 1, 1, 2, insL 1 7 ++ insL 36 0⟩, .slice (some ⟨W.heap.size + 1 + 1, 0, none⟩) 2 2), (⟨⟨#[107, 105, 110]⟩, ⟨#[40, 41, 76, 79, 98, 106, 101, 99, 116, 59]⟩, 4, 1, 1, 2, insL 4 0 ++ insL 37 0⟩, .slice (some ⟨W.heap.size + 1 + 1 + 1, 0, none⟩) 2 2)], rfl, ?_, rfl, ?_, ?_⟩
  · exact rds_at _ _ (by simp) _ 42 3 6 rfl (by decide)
  · intro p hp
    simp only [List.mem_cons, List.not_mem_nil, or_false] at hp
    have one : ∀ a b : Int, ∀ u ∈ insL a b, u.oneCell' = true := fun a b u hu => by
      simp only [insL, List.mem_cons, List.not_mem_nil, or_false] at hu
      rcases hu with rfl | rfl | rfl | rfl | rfl | rfl | rfl <;> rfl
    rcases hp with rfl | rfl | rfl
    · refine ⟨(rds_at _ _ (by simp) _ 86 1 7 rfl (by decide)).keep ((((Below.refl _ _).alloc (Nat.le_refl _) _).alloc (by simp) _).alloc (by simp only [World.size_alloc]; omega) _), one _ _, show (1 : Nat) ≤ 1000000 by decide⟩
    · refine ⟨(rds_at _ _ (by simp) _ 86 2 7 rfl (by decide)).keep (((Below.refl _ _).alloc (Nat.le_refl _) _).alloc (by simp) _), fun u hu => ?_, show (2 : Nat) ≤ 1000000 by decide⟩
      rcases List.mem_append.1 hu with h | h <;> exact one _ _ u h
    · refine ⟨(rds_at _ _ (by simp) _ 86 2 7 rfl (by decide)).keep ((Below.refl _ _).alloc (Nat.le_refl _) _), fun u hu => ?_, show (2 : Nat) ≤ 1000000 by decide⟩
      rcases List.mem_append.1 hu with h | h <;> exact one _ _ u h
  · exact (((((Below.refl _ _).alloc (Nat.le_refl _) _).alloc (by simp) _).alloc (by simp; omega) _).alloc (by simp; omega) _).alloc (by simp; omega) _
set_option maxRecDepth 100000 in
theorem marker_any (nm : ByteArray) (W : World) : Calls Try.prog 31 #[.string nm] W fun e w' => e = .returned (.agg #[.string nm, .string tObj, .slice none 0 0, .int .i64 1537, .int .i64 0, .slice none 0 0]) ∧ Below W.heap.size W w' := by
  go_enter Try.func31, Try.ntmps31
  go_wp2
  exact bodyPost_ret (v := .agg #[.string nm, .string tObj, .slice none 0 0, .int .i64 1537, .int .i64 0, .slice none 0 0]) (by simp [results, Try.results31, go_sem, tObj]) rfl ⟨rfl, (Below.refl _ _).alloc (Nat.le_refl _) _⟩
def tClo : ByteArray := ⟨#[67, 108, 111, 110, 101, 97, 98, 108, 101]⟩
def tSer : ByteArray := ⟨#[83, 101, 114, 105, 97, 108, 105, 122, 97, 98, 108, 101]⟩
set_option maxRecDepth 100000 in
theorem firstC_any (W : World) : Calls Try.prog 17 #[] W fun e w' => ∃ f g pm, e = .returned (.slice (some ⟨f, 0, none⟩) 3 3) ∧ w'.heap[f]? = some (.cells #[.string tObj, .string ⟨#[]⟩, .slice none 0 0, .int .i64 33, .int .i64 0, .slice (some ⟨g, 0, none⟩) 3 3, .string tClo, .string tObj, .slice none 0 0, .int .i64 1537, .int .i64 0, .slice none 0 0, .string tSer, .string tObj, .slice none 0 0, .int .i64 1537, .int .i64 0, .slice none 0 0] 58 (0, 0)) ∧ Rds w' (.slice (some ⟨g, 0, none⟩) 3 3) 3 6 (flatH pm) ∧ pm.map Prod.fst = objMs ∧ (∀ p ∈ pm, Rds w' p.2 p.1.n 7 p.1.xs ∧ (∀ u ∈ p.1.xs, u.oneCell' = true) ∧ p.1.n ≤ 1000000) ∧ Below W.heap.size W w' := by
  have HO : Hid (∀ w : World, Calls Try.prog 30 #[] w fun e w' => ∃ g pm, e = .returned (.agg #[.string tObj, .string ⟨#[]⟩, .slice none 0 0, .int .i64 33, .int .i64 0, .slice (some ⟨g, 0, none⟩) 3 3]) ∧ Rds w' (.slice (some ⟨g, 0, none⟩) 3 3) 3 6 (flatH pm) ∧ pm.map Prod.fst = objMs ∧ (∀ p ∈ pm, Rds w' p.2 p.1.n 7 p.1.xs ∧ (∀ u ∈ p.1.xs, u.oneCell' = true) ∧ p.1.n ≤ 1000000) ∧ Below w.heap.size w w') := objectC_any
  have H1 : Hid (∀ w : World, Calls Try.prog 31 #[.string tClo] w fun e w' => e = .returned (.agg #[.string tClo, .string tObj, .slice none 0 0, .int .i64 1537, .int .i64 0, .slice none 0 0]) ∧ Below w.heap.size w w') := marker_any tClo
  have H2 : Hid (∀ w : World, Calls Try.prog 31 #[.string tSer] w fun e w' => e = .returned (.agg #[.string tSer, .string tObj, .slice none 0 0, .int .i64 1537, .int .i64 0, .slice none 0 0]) ∧ Below w.heap.size w w') := marker_any tSer
  go_enter Try.func17, Try.ntmps17
  go_wp2_with (first
    | (go_at_call 30; refine (HO.out _).mono ?_; rintro e w1 ⟨g, pm, rfl, hr, hq, hc, hb⟩; have R1 : Hid (Rds w1 (.slice (some ⟨g, 0, none⟩) 3 3) 3 6 (flatH pm)) := hr; have Q1 : Hid (pm.map Prod.fst = objMs) := hq; have C1 : Hid (∀ p ∈ pm, Rds w1 p.2 p.1.n 7 p.1.xs ∧ (∀ u ∈ p.1.xs, u.oneCell' = true) ∧ p.1.n ≤ 1000000) := hc; have B1 : Hid (Below W.heap.size W w1) := hb; clear hr hq hc hb HO)
    | (have h9 := H1; clear h9; go_at_call 31; refine (H1.out _).mono ?_; rintro e w2 ⟨rfl, hb⟩; have B2 : Hid (Below w1.heap.size w1 w2) := hb; clear hb H1)
    | (have h9 := B2; clear h9; go_at_call 31; refine (H2.out _).mono ?_; rintro e w3 ⟨rfl, hb⟩; have B3 : Hid (Below w1.heap.size w1 w3) := bstep B2.out hb; clear hb H2))
  have B4 : Below w1.heap.size w1 (w3.alloc (.cells #[.string tObj, .string ⟨#[]⟩, .slice none 0 0, .int .i64 33, .int .i64 0, .slice (some ⟨g, 0, none⟩) 3 3, .string tClo, .string tObj, .slice none 0 0, .int .i64 1537, .int .i64 0, .slice none 0 0, .string tSer, .string tObj, .slice none 0 0, .int .i64 1537, .int .i64 0, .slice none 0 0] 58)) := B3.out.alloc B3.out.size _
  exact bodyPost_ret (results_tmp rfl _ _ _) rfl ⟨w3.heap.size, g, pm, rfl, heap_alloc_new w3 _, R1.out.keep B4, Q1.out, fun p hp => ⟨(C1.out p hp).1.keep B4, (C1.out p hp).2⟩, bstep B1.out B4⟩

def objH : HC := ⟨tObj, ⟨#[]⟩, 0, [], 33, 0, objMs⟩
def cloH : HC := ⟨tClo, tObj, 0, [], 1537, 0, []⟩
def serH : HC := ⟨tSer, tObj, 0, [], 1537, 0, []⟩
def P3 : List Plc := [⟨objH, 0, []⟩, ⟨cloH, 0, []⟩, ⟨serH, 0, []⟩]

theorem HW.new (w : World) : HW ((w.alloc (.map #[] 0)).alloc (.cells #[.slice none 0 0, .map (some w.heap.size)] 52)) w.heap.size (w.heap.size + 1) w.heap.size [] (.slice none 0 0) [] := by
  have h1 := heap_alloc2_new w (.map #[] 0) (.cells #[.slice none 0 0, .map (some w.heap.size)] 52)
  exact ⟨h1, World.ownsRow_nil _ _ _ _, rfl, fun k p q h => by simp at h, (World.ownsMap_made w _ _ _).alloc _, by omega, Nat.le_refl _, fun q hq => by simp at hq⟩

set_option maxRecDepth 100000 in
set_option maxHeartbeats 4000000 in
theorem new_any (W : World) : Calls Try.prog 9 #[] W fun e w' => e = .returned (.pointer (some ⟨W.heap.size + 1, 0, none⟩)) ∧ (∃ vp pv, HW w' W.heap.size (W.heap.size + 1) W.heap.size P3 vp pv) ∧ Below W.heap.size W w' := by
  have HF : Hid (∀ w : World, Calls Try.prog 17 #[] w fun e w' => ∃ f g pm, e = .returned (.slice (some ⟨f, 0, none⟩) 3 3) ∧ w'.heap[f]? = some (.cells #[.string tObj, .string ⟨#[]⟩, .slice none 0 0, .int .i64 33, .int .i64 0, .slice (some ⟨g, 0, none⟩) 3 3, .string tClo, .string tObj, .slice none 0 0, .int .i64 1537, .int .i64 0, .slice none 0 0, .string tSer, .string tObj, .slice none 0 0, .int .i64 1537, .int .i64 0, .slice none 0 0] 58 (0, 0)) ∧ Rds w' (.slice (some ⟨g, 0, none⟩) 3 3) 3 6 (flatH pm) ∧ pm.map Prod.fst = objMs ∧ (∀ p ∈ pm, Rds w' p.2 p.1.n 7 p.1.xs ∧ (∀ u ∈ p.1.xs, u.oneCell' = true) ∧ p.1.n ≤ 1000000) ∧ Below w.heap.size w w') := firstC_any
  have hmm := @run_makeMap Try.prog
  obtain ⟨Wc, hWc⟩ : ∃ x, x = (W.alloc (.map #[] 0)).alloc (.cells #[.slice none 0 0, .map (some W.heap.size)] 52) := ⟨_, rfl⟩
  have HW0 : Hid (HW Wc W.heap.size (W.heap.size + 1) W.heap.size [] (.slice none 0 0) []) := by rw [hWc]; exact HW.new W
  have HB0 : Hid (Below W.heap.size W Wc) := by rw [hWc]; exact ((Below.refl _ _).alloc (Nat.le_refl _) _).alloc (by simp) _
  have HWE : Hid (Wc = (W.alloc (.map #[] 0)).alloc (.cells #[.slice none 0 0, .map (some W.heap.size)] 52)) := hWc
  have hWs : Wc.heap.size = W.heap.size + 2 := by rw [hWc]; simp
  clear hWc
  go_enter Try.func9, Try.ntmps9
  go_wp2_with (go_at_call 17; rw [← HWE.out]; refine (HF.out _).mono ?_; rintro e w1 ⟨f, g, pm, rfl, hf, hr, hq, hc, hb⟩; have F1 : Hid (w1.heap[f]? = _) := hf; have R1 : Hid (Rds w1 (.slice (some ⟨g, 0, none⟩) 3 3) 3 6 (flatH pm)) := hr; have Q1 : Hid (pm.map Prod.fst = objMs) := hq; have C1 : Hid (∀ p ∈ pm, Rds w1 p.2 p.1.n 7 p.1.xs ∧ (∀ u ∈ p.1.xs, u.oneCell' = true) ∧ p.1.n ≤ 1000000) := hc; have H1 : Hid (HW w1 W.heap.size (W.heap.size + 1) W.heap.size [] (.slice none 0 0) []) := HW0.out.below hb; have B1 : Hid (Below W.heap.size W w1) := bstep HB0.out hb; clear hf hr hq hc hb HF HW0 HB0 HWE)
  have HPL : Hid (pm.length = 3) := by have h9 := congrArg List.length Q1.out; rw [List.length_map] at h9; exact h9
  have hfl : f < w1.heap.size := (Array.getElem?_eq_some_iff.1 F1.out).1
  have HA : Hid (∀ (k : Nat) (q : Plc) (vm : Value) (pm' : List (HM × Value)) (w : World) (vp : Value) (pv : List PV), P3[k]? = some q → HW w W.heap.size (W.heap.size + 1) W.heap.size (P3.take k) vp pv → W.heap.size ≤ w.heap.size → Rds w vm pm'.length 6 (flatH pm') → pm'.map Prod.fst = q.c.ms → pm'.length ≤ 3 → (∀ p ∈ pm', Rds w p.2 p.1.n 7 p.1.xs ∧ (∀ u ∈ p.1.xs, u.oneCell' = true) ∧ p.1.n ≤ 1000000) →
      Calls Try.prog 18 #[.pointer (some ⟨W.heap.size + 1, 0, none⟩), .agg #[.string q.c.nm, .string q.c.su, .slice none 0 0, .int .i64 q.c.fl, .int .i64 q.c.ld, vm], .int .i64 0, .slice none 0 0] w fun e w' => e = .returned (.int .i64 (k : Int)) ∧ (∃ vp' pv', HW w' W.heap.size (W.heap.size + 1) W.heap.size (P3.take (k + 1)) vp' pv') ∧ Below W.heap.size w w' ∧ ∀ j < w.heap.size, j ≠ W.heap.size + 1 → j ≠ W.heap.size → some j ≠ vp.ownBlock → w'.heap[j]? = w.heap[j]?) := by
    intro k q vm pm' w vp pv hq hw hs hr he hl hc
    have hk : k < 3 := (List.getElem?_eq_some_iff.1 hq).1
    have hlen : (P3.take k).length = k := by rw [List.length_take]; show min k 3 = k; omega
    have hcs : q.sp = 0 ∧ q.cl = [] ∧ q.c.ni = 0 ∧ q.c.xi = [] ∧ q.c.nm.size ≤ maxLen := by
      have : q ∈ P3 := List.mem_of_getElem? hq
      simp only [P3, List.mem_cons, List.not_mem_nil, or_false] at this
      rcases this with rfl | rfl | rfl <;> exact ⟨rfl, rfl, rfl, rfl, by decide⟩
    have hg : gathL ((P3.take k).map Plc.cl) 0 [] = [] := by
      have : ∀ j, j < 3 → gathL ((P3.take j).map Plc.cl) 0 [] = [] := fun j hj => by
        match j, hj with
        | 0, _ => rfl
        | 1, _ => rfl
        | 2, _ => rfl
      exact this k hk
    have h := add_any W.heap.size (W.heap.size + 1) W.heap.size (P3.take k) vp pv q.c (.slice none 0 0) vm pm' 0 (.slice none 0 0) [] w hw hs ⟨by rw [hcs.2.2.2.1, hcs.2.2.1]; rfl, .inl ⟨rfl, hcs.2.2.1⟩⟩ (by rw [hcs.2.2.2.1]; simp) (by rw [hcs.2.2.1]; omega) hr he (by omega) hc ⟨rfl, .inl ⟨rfl, rfl⟩⟩ (by simp) (by simp) (by omega) (by rw [hlen]; omega) hcs.2.2.2.2
    rw [hlen, hg] at h
    have e : P3.take (k + 1) = P3.take k ++ [⟨q.c, 0, []⟩] := by
      rw [List.take_add_one, hq]
      obtain ⟨qc, qs, ql⟩ := q
      simp only at hcs
      rw [hcs.1, hcs.2.1]; rfl
    rw [e]
    exact h
  go_loopw [9] (fun kv wr => ∃ (k : Nat) (vp : Value) (pv : List PV), kv = .int .i64 k ∧ k ≤ 3 ∧ Hid (HW wr W.heap.size (W.heap.size + 1) W.heap.size (P3.take k) vp pv) ∧ Hid (wr.heap[f]? = w1.heap[f]?) ∧ Hid (k = 0 → Below w1.heap.size w1 wr) ∧ Hid (Below W.heap.size W wr)) (fun kv _ => 3 - (intOf kv).toNat)
  case atStart => exact ⟨0, _, _, rfl, by decide, H1, rfl, fun _ => Below.refl _ _, B1⟩
  case round =>
    obtain ⟨k, vp, pv, rfl, hk, hH, hF, hZ, hB⟩ := hrel
    have hff := hF.out.trans F1.out
    have e0 := cell_of_row wr f 0 _ _ _ hff
    have e1 := cell_of_row wr f 1 _ _ _ hff
    have e2 := cell_of_row wr f 2 _ _ _ hff
    have e3 := cell_of_row wr f 3 _ _ _ hff
    have e4 := cell_of_row wr f 4 _ _ _ hff
    have e5 := cell_of_row wr f 5 _ _ _ hff
    have e6 := cell_of_row wr f 6 _ _ _ hff
    have e7 := cell_of_row wr f 7 _ _ _ hff
    have e8 := cell_of_row wr f 8 _ _ _ hff
    have e9 := cell_of_row wr f 9 _ _ _ hff
    have e10 := cell_of_row wr f 10 _ _ _ hff
    have e11 := cell_of_row wr f 11 _ _ _ hff
    have e12 := cell_of_row wr f 12 _ _ _ hff
    have e13 := cell_of_row wr f 13 _ _ _ hff
    have e14 := cell_of_row wr f 14 _ _ _ hff
    have e15 := cell_of_row wr f 15 _ _ _ hff
    have e16 := cell_of_row wr f 16 _ _ _ hff
    have e17 := cell_of_row wr f 17 _ _ _ hff
    simp only [List.getElem?_toArray, List.getElem?_cons_zero, List.getElem?_cons_succ] at e0 e1 e2 e3 e4 e5 e6 e7 e8 e9 e10 e11 e12 e13 e14 e15 e16 e17
    have hfr : f < wr.heap.size := (Array.getElem?_eq_some_iff.1 hff).1
    have hn1 : f ≠ W.heap.size + 1 := fun e => by have h9 := hH.out.hb; rw [← e, hff] at h9; simp at h9
    have hn2 : f ≠ W.heap.size := fun e => by obtain ⟨es, ck, hmb, _⟩ := hH.out.map; rw [← e, hff] at hmb; simp at hmb
    have hn3 : some f ≠ vp.ownBlock := by
      rcases row_kind_ne hH.out.row hff (by decide) with e | e
      · rw [e]; simp
      · exact fun e2 => e e2.symm
    clear hff
    by_cases hlt : k < 3
    · obtain rfl | rfl | rfl : k = 0 ∨ k = 1 ∨ k = 2 := by omega
      · have hkk : (0 : Int) < 3 := by decide
        have HK : Hid (∀ w : World, Below wr.heap.size wr w → Calls Try.prog 18 #[.pointer (some ⟨W.heap.size + 1, 0, none⟩), .agg #[.string tObj, .string ⟨#[]⟩, .slice none 0 0, .int .i64 33, .int .i64 0, .slice (some ⟨g, 0, none⟩) 3 3], .int .i64 0, .slice none 0 0] w fun e w' => e = .returned (.int .i64 ((0 : Nat) : Int)) ∧ (∃ vp' pv', HW w' W.heap.size (W.heap.size + 1) W.heap.size (P3.take 1) vp' pv') ∧ Below W.heap.size w w' ∧ ∀ j < w.heap.size, j ≠ W.heap.size + 1 → j ≠ W.heap.size → some j ≠ vp.ownBlock → w'.heap[j]? = w.heap[j]?) := fun w hb => HA.out 0 ⟨objH, 0, []⟩ (.slice (some ⟨g, 0, none⟩) 3 3) pm w vp pv rfl (hH.out.below hb) (Nat.le_trans hB.out.size hb.size) (by rw [HPL.out]; exact R1.out.keep (bstep (hZ.out rfl) hb)) Q1.out (by rw [HPL.out]; decide) (fun p hp => ⟨(C1.out p hp).1.keep (bstep (hZ.out rfl) hb), (C1.out p hp).2⟩)
        obtain ⟨Wm, hWm⟩ : ∃ x, x = wr.alloc (.cells #[.string tObj, .string ⟨#[]⟩, .slice none 0 0, .int .i64 33, .int .i64 0, .slice (some ⟨g, 0, none⟩) 3 3] 58) := ⟨_, rfl⟩
        have HWm : Hid (Below wr.heap.size wr Wm) := by rw [hWm]; exact (Below.refl _ _).alloc (Nat.le_refl _) _
        have HWE : Hid (Wm = wr.alloc (.cells #[.string tObj, .string ⟨#[]⟩, .slice none 0 0, .int .i64 33, .int .i64 0, .slice (some ⟨g, 0, none⟩) 3 3] 58)) := hWm
        clear hWm
        go_wp2_with (go_at_call 18; rw [← HWE.out]; refine (HK.out _ HWm.out).mono ?_; rintro e w2 ⟨rfl, ⟨vp', pv', hw2⟩, hb2, hj2⟩; have H2 : Hid (HW w2 W.heap.size (W.heap.size + 1) W.heap.size (P3.take 1) vp' pv') := hw2; have B2 : Hid (Below W.heap.size W w2) := (hB.out.trans (HWm.out.mono hB.out.size)).trans hb2; have F2 : Hid (w2.heap[f]? = w1.heap[f]?) := ((hj2 f (Nat.lt_of_lt_of_le hfr HWm.out.size) hn1 hn2 hn3).trans (HWm.out.block f hfr)).trans hF.out; clear hw2 hb2 hj2 HK)
        go_roundw
        case rel => exact ⟨1, vp', pv', rfl, by decide, H2, F2, fun h => by omega, B2⟩
        case measure => simp [intOf]
      · have hkk : (1 : Int) < 3 := by decide
        have HK : Hid (∀ w : World, Below wr.heap.size wr w → Calls Try.prog 18 #[.pointer (some ⟨W.heap.size + 1, 0, none⟩), .agg #[.string tClo, .string tObj, .slice none 0 0, .int .i64 1537, .int .i64 0, .slice none 0 0], .int .i64 0, .slice none 0 0] w fun e w' => e = .returned (.int .i64 ((1 : Nat) : Int)) ∧ (∃ vp' pv', HW w' W.heap.size (W.heap.size + 1) W.heap.size (P3.take 2) vp' pv') ∧ Below W.heap.size w w' ∧ ∀ j < w.heap.size, j ≠ W.heap.size + 1 → j ≠ W.heap.size → some j ≠ vp.ownBlock → w'.heap[j]? = w.heap[j]?) := fun w hb => HA.out 1 ⟨cloH, 0, []⟩ (.slice none 0 0) [] w vp pv rfl (hH.out.below hb) (Nat.le_trans hB.out.size hb.size) ⟨rfl, .inl ⟨rfl, rfl⟩⟩ rfl (by decide) (fun p hp => by simp at hp)
        obtain ⟨Wm, hWm⟩ : ∃ x, x = wr.alloc (.cells #[.string tClo, .string tObj, .slice none 0 0, .int .i64 1537, .int .i64 0, .slice none 0 0] 58) := ⟨_, rfl⟩
        have HWm : Hid (Below wr.heap.size wr Wm) := by rw [hWm]; exact (Below.refl _ _).alloc (Nat.le_refl _) _
        have HWE : Hid (Wm = wr.alloc (.cells #[.string tClo, .string tObj, .slice none 0 0, .int .i64 1537, .int .i64 0, .slice none 0 0] 58)) := hWm
        clear hWm
        go_wp2_with (go_at_call 18; rw [← HWE.out]; refine (HK.out _ HWm.out).mono ?_; rintro e w2 ⟨rfl, ⟨vp', pv', hw2⟩, hb2, hj2⟩; have H2 : Hid (HW w2 W.heap.size (W.heap.size + 1) W.heap.size (P3.take 2) vp' pv') := hw2; have B2 : Hid (Below W.heap.size W w2) := (hB.out.trans (HWm.out.mono hB.out.size)).trans hb2; have F2 : Hid (w2.heap[f]? = w1.heap[f]?) := ((hj2 f (Nat.lt_of_lt_of_le hfr HWm.out.size) hn1 hn2 hn3).trans (HWm.out.block f hfr)).trans hF.out; clear hw2 hb2 hj2 HK)
        go_roundw
        case rel => exact ⟨2, vp', pv', rfl, by decide, H2, F2, fun h => by omega, B2⟩
        case measure => simp [intOf]
      · have hkk : (2 : Int) < 3 := by decide
        have HK : Hid (∀ w : World, Below wr.heap.size wr w → Calls Try.prog 18 #[.pointer (some ⟨W.heap.size + 1, 0, none⟩), .agg #[.string tSer, .string tObj, .slice none 0 0, .int .i64 1537, .int .i64 0, .slice none 0 0], .int .i64 0, .slice none 0 0] w fun e w' => e = .returned (.int .i64 ((2 : Nat) : Int)) ∧ (∃ vp' pv', HW w' W.heap.size (W.heap.size + 1) W.heap.size (P3.take 3) vp' pv') ∧ Below W.heap.size w w' ∧ ∀ j < w.heap.size, j ≠ W.heap.size + 1 → j ≠ W.heap.size → some j ≠ vp.ownBlock → w'.heap[j]? = w.heap[j]?) := fun w hb => HA.out 2 ⟨serH, 0, []⟩ (.slice none 0 0) [] w vp pv rfl (hH.out.below hb) (Nat.le_trans hB.out.size hb.size) ⟨rfl, .inl ⟨rfl, rfl⟩⟩ rfl (by decide) (fun p hp => by simp at hp)
        obtain ⟨Wm, hWm⟩ : ∃ x, x = wr.alloc (.cells #[.string tSer, .string tObj, .slice none 0 0, .int .i64 1537, .int .i64 0, .slice none 0 0] 58) := ⟨_, rfl⟩
        have HWm : Hid (Below wr.heap.size wr Wm) := by rw [hWm]; exact (Below.refl _ _).alloc (Nat.le_refl _) _
        have HWE : Hid (Wm = wr.alloc (.cells #[.string tSer, .string tObj, .slice none 0 0, .int .i64 1537, .int .i64 0, .slice none 0 0] 58)) := hWm
        clear hWm
        go_wp2_with (go_at_call 18; rw [← HWE.out]; refine (HK.out _ HWm.out).mono ?_; rintro e w2 ⟨rfl, ⟨vp', pv', hw2⟩, hb2, hj2⟩; have H2 : Hid (HW w2 W.heap.size (W.heap.size + 1) W.heap.size (P3.take 3) vp' pv') := hw2; have B2 : Hid (Below W.heap.size W w2) := (hB.out.trans (HWm.out.mono hB.out.size)).trans hb2; have F2 : Hid (w2.heap[f]? = w1.heap[f]?) := ((hj2 f (Nat.lt_of_lt_of_le hfr HWm.out.size) hn1 hn2 hn3).trans (HWm.out.block f hfr)).trans hF.out; clear hw2 hb2 hj2 HK)
        go_roundw
        case rel => exact ⟨3, vp', pv', rfl, by decide, H2, F2, fun h => by omega, B2⟩
        case measure => simp [intOf]
    · have hk3 : k = 3 := by omega
      subst hk3
      go_wp2
      exact bodyPost_ret (results_tmp rfl _ _ _) rfl ⟨rfl, ⟨_, _, hH.out⟩, hB.out⟩
end Go.Proofs.Ythnoeibapiaceaa
