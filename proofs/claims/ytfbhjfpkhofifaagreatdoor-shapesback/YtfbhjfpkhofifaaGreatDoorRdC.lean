/- Walks of package shapes' readName and readNumber; what was there before stays. -/
import Derived.Test.YtfbhjfpkhofifaaGreatDoorFIdxA
import Derived.Test.YtfbhjfpkhofifaaGreatDoorPaW
import Derived.Test.YtfbhjfpkhofifaaGreatDoorPaB
import Derived.Test.YtfbhjfpkhofifaaGreatDoorOwnS
import Derived.Test.YtfbhjfpkhofifaaGreatDoorPaU
import Derived.Test.YtfbhjfpkhofifaaGreatDoorOwnP
import Derived.Test.YtfbhjfpkhofifaaGreatDoorArgI
import Derived.Deep.RegionHeld3
namespace Go.Proofs.YtfbhjfpkhofifaaGreatDoor
open Go.RowKit

set_option maxRecDepth 100000 in
set_option maxHeartbeats 400000 in
theorem cutPart_yes (s P : ByteArray) (k : Nat) (hk : k ≤ P.size) (_hP : P.size ≤ 9223372036854775807) (HT : ∀ w : World, Calls Tryz.prog 180 #[.string s, .string ⟨#[32]⟩] w fun e w' => e = .returned (.string P) ∧ w' = w) (HI : ∀ w : World, Calls Tryz.prog 181 #[.string P, .string ⟨#[32]⟩] w fun e w' => e = .returned (.int .i64 (k : Int)) ∧ w' = w) (w : World) :
    Calls Tryz.prog 156 #[.string s] w fun e w' => e = .returned (.tuple #[.string (P.extract 0 k), .string (P.extract k P.size)]) ∧ ∃ n, w' = w.drewN n := by
  have HT : Hid (∀ w : World, _) := HT
  have HI : Hid (∀ w : World, _) := HI
  go_enter Tryz.func156, Tryz.ntmps156
  go_wp2_with (first
    | (go_at_call 180; refine (HT.out _).mono ?_; rintro e w1 ⟨rfl, hw1⟩; rw [hw1]; clear hw1 HT)
    | (go_at_call 181; refine (HI.out _).mono ?_; rintro e w1 ⟨rfl, hw1⟩; rw [hw1]; clear hw1 HI))
  all_goals (try go_region)
  all_goals (try go_wp2)
  all_goals exact bodyPost_ret (v := .tuple #[.string (P.extract 0 k), .string (P.extract k P.size)]) (by simp [results, Tryz.results156, go_sem, *]) rfl ⟨rfl, 1, rfl⟩

set_option maxRecDepth 100000 in
set_option maxHeartbeats 400000 in
theorem cutPart_no (s P : ByteArray) (HT : ∀ w : World, Calls Tryz.prog 180 #[.string s, .string ⟨#[32]⟩] w fun e w' => e = .returned (.string P) ∧ w' = w) (HI : ∀ w : World, Calls Tryz.prog 181 #[.string P, .string ⟨#[32]⟩] w fun e w' => e = .returned (.int .i64 (-1)) ∧ w' = w) (w : World) :
    Calls Tryz.prog 156 #[.string s] w fun e w' => e = .returned (.tuple #[.string P, .string ⟨#[]⟩]) ∧ w' = w := by
  have HT : Hid (∀ w : World, _) := HT
  have HI : Hid (∀ w : World, _) := HI
  go_enter Tryz.func156, Tryz.ntmps156
  go_wp2_with (first
    | (go_at_call 180; refine (HT.out _).mono ?_; rintro e w1 ⟨rfl, hw1⟩; rw [hw1]; clear hw1 HT)
    | (go_at_call 181; refine (HI.out _).mono ?_; rintro e w1 ⟨rfl, hw1⟩; rw [hw1]; clear hw1 HI))
  go_ret2
  exact ⟨rfl, rfl⟩


theorem hp_pre (s p : ByteArray) : hpB s p = p.data.toList.isPrefixOf s.data.toList := by
  have e1 : p.data.toList.length = p.size := by rw [Array.length_toList]; rfl
  have e2 : s.data.toList.length = s.size := by rw [Array.length_toList]; rfl
  rw [Bool.eq_iff_iff, List.isPrefixOf_iff_prefix, List.prefix_iff_eq_take, hpB, Bool.and_eq_true, decide_eq_true_eq, beq_iff_eq, Lib.toList_data, Lib.toList_data, ex_take, e1]
  constructor
  · intro h; exact h.2.symm
  · intro h
    refine ⟨?_, h.symm⟩
    have := congrArg List.length h
    rw [List.length_take, e1, e2] at this
    omega
theorem hp_32 (l : List UInt8) (s : ByteArray) (h : s.data.toList = l) : hpB s ⟨#[32]⟩ = (l.head? == some 32) := by
  rw [hp_pre, h]
  cases l with
  | nil => rfl
  | cons x l =>
    rw [Bool.eq_iff_iff]
    simp [List.isPrefixOf]
    exact eq_comm
theorem cwOK_fst (s p : ByteArray) (hp : (32 : UInt8) ∉ p.data.toList) : cwOK s p = (fstW s.data.toList == p.data.toList) := by
  have e1 : p.data.toList.length = p.size := by rw [Array.length_toList]; rfl
  have e3 : (s.extract p.size s.size).data.toList = s.data.toList.drop p.size := Lib.extract_to_end _ _
  rw [← cw_fst hp, cwOK, cwB, hp_pre, hp_32 _ _ e3, Lib.toList_data, e3, e1]
theorem cw_extract (s p : ByteArray) (h : fstW s.data.toList = p.data.toList) : s.extract p.size s.size = ⟨(restW s.data.toList).toArray⟩ := by
  have e1 : p.data.toList.length = p.size := by rw [Array.length_toList]; rfl
  apply bytes_ext
  rw [Lib.extract_to_end, ← e1, cw_rest h]
theorem fst_take (l : List UInt8) : l.take (fstW l).length = fstW l ∧ l.drop (fstW l).length = restW l := by
  have h := fst_rest l
  have h1 : ∀ a b : List UInt8, a ++ b = l → l.take a.length = a ∧ l.drop a.length = b := fun a b e => by
    rw [← e]; exact ⟨List.take_left' rfl, List.drop_left' rfl⟩
  exact h1 _ _ h
theorem span_fst (l : List UInt8) : spanN (fun x => !decide (x = 32)) l = (fstW l).length := rfl

/-- cutPart of nothing, or of a blank and a text -/
theorem cutPart_any (s : ByteArray) (hs : s.size ≤ 9223372036854775807) (h : s.data.toList = [] ∨ ∃ r, s.data.toList = 32 :: r) (w : World) :
    Calls Tryz.prog 156 #[.string s] w fun e w' => e = .returned (.tuple #[.string ⟨(fstW (s.data.toList.drop 1)).toArray⟩, .string ⟨(restW (s.data.toList.drop 1)).toArray⟩]) ∧ ∃ n, w' = w.drewN n := by
  obtain ⟨P, hP⟩ : ∃ P : ByteArray, P = ⟨(s.data.toList.drop 1).toArray⟩ := ⟨_, rfl⟩
  have hPd : P.data.toList = s.data.toList.drop 1 := by rw [hP]
  have hPs : P.size ≤ 9223372036854775807 := by
    rw [hP, mk_size, List.length_drop]
    have e2 : s.data.toList.length = s.size := by rw [Array.length_toList]; rfl
    omega
  have HT : ∀ w : World, Calls Tryz.prog 180 #[.string s, .string ⟨#[32]⟩] w fun e w' => e = .returned (.string P) ∧ w' = w := fun w => by
    have h1 := trim_prefix s ⟨#[32]⟩ w
    have e : (if hpB s ⟨#[32]⟩ then s.extract (⟨#[32]⟩ : ByteArray).size s.size else s) = P := by
      rcases h with h | ⟨r, h⟩
      · rw [hp_32 _ _ h, if_neg (by simp)]
        apply bytes_ext; rw [hPd, h]; rfl
      · rw [hp_32 _ _ h, if_pos (by simp)]
        apply bytes_ext; rw [hPd, Lib.extract_to_end]; rfl
    rw [e] at h1
    exact h1
  have HI := Fl.index_any P
  rw [idx_span, span_fst] at HI
  obtain ⟨t1, t2⟩ := fst_take P.data.toList
  have hl : P.data.toList.length = P.size := by rw [Array.length_toList]; rfl
  rw [← hPd]
  by_cases hk : (fstW P.data.toList).length < P.data.toList.length
  · rw [if_pos hk] at HI
    have e1 : (⟨(fstW P.data.toList).toArray⟩ : ByteArray) = P.extract 0 (fstW P.data.toList).length := by apply bytes_ext; rw [ex_take, t1]
    have e2 : (⟨(restW P.data.toList).toArray⟩ : ByteArray) = P.extract (fstW P.data.toList).length P.size := by apply bytes_ext; rw [Lib.extract_to_end, t2]
    rw [e1, e2]
    exact cutPart_yes s P _ (by omega) hPs HT HI w
  · rw [if_neg hk] at HI
    have hr : restW P.data.toList = [] := by rw [← t2]; exact List.drop_of_length_le (by omega)
    have e1 : (⟨(fstW P.data.toList).toArray⟩ : ByteArray) = P := by apply bytes_ext; exact fst_none hr
    have e2 : (⟨(restW P.data.toList).toArray⟩ : ByteArray) = ⟨#[]⟩ := by rw [hr]
    rw [e1, e2]
    exact (cutPart_no s P HT HI w).mono fun e w' ⟨h1, h2⟩ => ⟨h1, 0, h2⟩

/-- the package's errors are there -/
def PartIn (w : World) : Prop := 5 < w.heap.size ∧ ∃ tp a, w.cell? ⟨5, 0, none⟩ = some (.iface tp (.pointer a))
def OpenIn (w : World) : Prop := 0 < w.heap.size ∧ ∃ tp a, w.cell? ⟨0, 0, none⟩ = some (.iface tp (.pointer a))
def SIn (w : World) : Prop := OrdIn w ∧ PartIn w ∧ OpenIn w
theorem SIn.keep {w w' : World} (h : SIn w) (hb : Below w.heap.size w w') : SIn w' := by
  obtain ⟨⟨h1, t1, a1, c1⟩, ⟨h2, t2, a2, c2⟩, h3, t3, a3, c3⟩ := h
  have := hb.size
  exact ⟨⟨by omega, t1, a1, (hb.cell h1).trans c1⟩, ⟨by omega, t2, a2, (hb.cell h2).trans c2⟩, by omega, t3, a3, (hb.cell h3).trans c3⟩
def ErrV (er : Value) : Prop := ∃ tp a, er = .iface tp (.pointer a)
/-- cutWord, by the line's first word -/
theorem cutWord_w (s p : ByteArray) (hp : (32 : UInt8) ∉ p.data.toList) (w : World) (hO : OrdIn w) : Calls Tryz.prog 155 #[.string s, .string p] w fun e w' => (∃ er, e = .returned (.tuple #[.string (if fstW s.data.toList == p.data.toList then ⟨(restW s.data.toList).toArray⟩ else ⟨#[]⟩), er]) ∧ if fstW s.data.toList == p.data.toList then er = .nilIface else ErrV er) ∧ Below w.heap.size w w' := by
  have h := cutWord_any s p w hO
  rw [cwOK_fst s p hp] at h
  cases hq : (fstW s.data.toList == p.data.toList) with
  | false => rw [hq] at h; exact h
  | true =>
    rw [hq, cw_extract s p (eq_of_beq hq)] at h
    exact h


theorem sum_at {l : List (List UInt8)} (k : Nat) (x : List UInt8) (h : l[k]? = some x) : x.length + 1 + ((l.drop (k + 1)).map fun p => p.length + 1).sum = ((l.drop k).map fun p => p.length + 1).sum := by
  obtain ⟨h1, h2⟩ := List.getElem?_eq_some_iff.1 h
  rw [List.drop_eq_getElem_cons h1, h2, List.map_cons, List.sum_cons]

set_option maxRecDepth 100000 in
set_option maxHeartbeats 1000000 in
theorem line_any (f : ByteArray) (v : Value) (l : List (List UInt8)) (W : World) (h : IsStrs W v l) (hL : f.size + (l.map fun p => p.length + 1).sum ≤ 1000000) :
    Calls Tryz.prog 34 #[.string f, v] W fun e w' => e = .returned (.string ⟨(lineL f.data.toList l).toArray⟩) ∧ Below W.heap.size W w' := by
  obtain ⟨ao, cap, rfl, h1, h2, h3⟩ := h
  obtain ⟨N, hN⟩ : ∃ N, l.length = N := ⟨_, rfl⟩
  unfold maxLen at h2
  rw [hN] at h1 ⊢
  have HN1 : Hid (l.length = N) := hN
  have HA : Hid _ := h3
  have HL : Hid _ := hL
  clear hN h3 hL
  go_enter Tryz.func34, Tryz.ntmps34
  go_wp2
  go_loopw [0, 9] (fun sv iv wr => ∃ (i : Nat) (acc : ByteArray), sv = .string acc ∧ iv = .int .i64 i ∧ i ≤ N ∧ Hid (Below W.heap.size W wr) ∧ Hid (acc.size + ((l.drop i).map fun p => p.length + 1).sum ≤ 1000000) ∧ Hid (lineL acc.data.toList (l.drop i) = lineL f.data.toList l)) (fun _ iv _ => N - (intOf iv).toNat)
  case atStart => exact ⟨0, f, rfl, rfl, Nat.zero_le _, Below.refl _ _, HL, rfl⟩
  case round =>
    obtain ⟨i, acc, rfl, rfl, hi, hb, hm, hs⟩ := hrel
    by_cases hlt : i < N
    · obtain ⟨bk, o, hao, hbk, hc⟩ := HA.out (by intro e; have := HN1.out; rw [e] at this; simp at this; omega)
      obtain ⟨x, hx⟩ : ∃ x, l[i]? = some x := ⟨_, List.getElem?_eq_getElem (by rw [HN1.out]; exact hlt)⟩
      subst hao
      have hst := lineL_at acc.data.toList i x hx
      have hsum := sum_at i x hx
      rw [← hsum] at hm
      have HM1 : acc.size + (x.length + 1 + ((l.drop (i + 1)).map fun p => p.length + 1).sum) ≤ 1000000 := hm.out
      clear hsum hm
      rw [hs.out] at hst
      have p0 := (hb.out.cell hbk).trans (hc i x hx)
      obtain ⟨X, hX⟩ : ∃ X : ByteArray, X = ⟨x.toArray⟩ := ⟨_, rfl⟩
      have hxe : X.toList.isEmpty = (x == []) := by rw [Lib.toList_data, hX]; cases x <;> rfl
      have HX : Hid (X.data.toList = x) := by rw [hX]; exact rfl
      have hXs : X.size = x.length := by rw [hX]; simp [ByteArray.size]
      have hb1 : ¬ 9223372036854775807 < 1 + X.size := by omega
      have hb2 : ¬ 9223372036854775807 < acc.size + (1 + X.size) := by omega
      have HM2 : Hid (acc.size + ((l.drop (i + 1)).map fun p => p.length + 1).sum ≤ 1000000) := by unfold Hid; omega
      have HM3 : Hid (acc.size + (1 + X.size) + ((l.drop (i + 1)).map fun p => p.length + 1).sum ≤ 1000000) := by unfold Hid; omega
      clear HM1 hXs
      rw [← hX] at p0
      clear hc hs HA hx hX
      by_cases q : x = []
      · have HZ : Hid (lineL acc.data.toList (l.drop (i + 1)) = lineL f.data.toList l) := by rw [Hid, hst, if_pos q]
        rw [show (x == []) = true by rw [q]; rfl] at hxe
        clear hst q
        go_wp2
        go_roundw
        case rel => exact ⟨i + 1, acc, rfl, by go_num, by omega, hb, HM2, HZ⟩
        case measure => simp [intOf]; omega
      · rw [show (x == []) = false by rw [beq_eq_false_iff_ne]; exact q] at hxe
        have HZ : Hid (lineL (acc.data.toList ++ 32 :: x) (l.drop (i + 1)) = lineL f.data.toList l) := by rw [Hid, hst, if_neg q]
        clear hst q
        go_wp2

        go_roundw
        case rel => exact ⟨i + 1, _, rfl, by go_num, by omega, hb, by unfold Hid; simpa [Nat.add_assoc, show (⟨#[32]⟩ : ByteArray).size = 1 from rfl] using HM3.out, by rw [Hid, ← HZ.out, ← HX.out]; simp⟩
        case measure => simp [intOf]; omega
    · have e : i = N := by omega
      subst e
      have HZ : Hid (acc.data.toList = lineL f.data.toList l) := by rw [Hid, ← hs.out, List.drop_of_length_le (by rw [HN1.out]; exact Nat.le_refl _)]; rfl
      clear hs HA hm HL hlt hi
      go_wp2

      go_ret
      exact ⟨by rw [← HZ.out]; simp, hb.out⟩

theorem join_own10 {w : World} {B : Nat} {v : Value} {L : List (List UInt8)} (h : w.ownsRow B 9 1 v L.length (L.map txtV)) (hl : (Lib.join L [10]).length ≤ 140737488355328) (hL : L.length ≤ 100000) :
    Calls Tryz.prog 38 #[v, .string ⟨#[10]⟩] w fun e w' => e = .returned (.string ⟨(Lib.join L [10]).toArray⟩) ∧ Below w.heap.size w w' := by
  rcases h.2 with ⟨rfl, hn⟩ | ⟨g, cap, cur, rfl, _, hg, hc1, hc2, _⟩
  · obtain rfl : L = [] := List.eq_nil_of_length_eq_zero hn
    refine (Fl.Tryz.strings_Join_none none 0 ⟨#[10]⟩ w).mono ?_
    rintro e w' ⟨rfl, rfl⟩
    exact ⟨rfl, Below.refl _ _⟩
  · have hlt : g < w.heap.size := (Array.getElem?_eq_some_iff.1 hg).1
    have hcell : ∀ j t, L[j]? = some t → w.cell? ⟨g, 0 + j, none⟩ = some (txtV t) := by
      intro j t ht
      have hj : j < L.length := (List.getElem?_eq_some_iff.1 ht).1
      rw [Nat.zero_add, h.cellAt j (by simpa using hj), List.getElem?_map, ht]; rfl
    have := Fl.Tryz.strings_Join g 0 cap (L.map fun p => ⟨p.toArray⟩) ⟨#[10]⟩ w (fun j x hj => by
      rw [List.getElem?_map] at hj
      cases e : L[j]? with
      | none => rw [e] at hj; simp at hj
      | some p => rw [e] at hj; simp at hj; subst hj; exact hcell j p e) hlt (by simp; omega) (by simpa using hc1)
    simp only [List.map_map, List.length_map] at this
    have e2 : L.map ((fun x : ByteArray => x.data.toList) ∘ fun p => ⟨p.toArray⟩) = L := by
      conv => rhs; rw [← List.map_id L]
      apply List.map_congr_left; intro a _; simp
    rw [e2] at this
    exact this hl


theorem strs1 {w : World} {g : Nat} {x : ByteArray} (h : w.cell? ⟨g, 0, none⟩ = some (.string x)) (hg : g < w.heap.size) : IsStrs w (.slice (some ⟨g, 0, none⟩) 1 1) [x.data.toList] :=
  ⟨some ⟨g, 0, none⟩, 1, rfl, by simp, by unfold maxLen; omega, fun _ => ⟨g, 0, rfl, hg, fun k p hk => by
    match k, hk with
    | 0, hk => simp at hk; subst hk; simpa using h⟩⟩
theorem strs3 {w : World} {g : Nat} {x y z : ByteArray} (h0 : w.cell? ⟨g, 0, none⟩ = some (.string x)) (h1 : w.cell? ⟨g, 1, none⟩ = some (.string y)) (h2 : w.cell? ⟨g, 2, none⟩ = some (.string z)) (hg : g < w.heap.size) : IsStrs w (.slice (some ⟨g, 0, none⟩) 3 3) [x.data.toList, y.data.toList, z.data.toList] :=
  ⟨some ⟨g, 0, none⟩, 3, rfl, by simp, by unfold maxLen; omega, fun _ => ⟨g, 0, rfl, hg, fun k p hk => by
    match k, hk with
    | 0, hk => simp at hk; subst hk; simpa using h0
    | 1, hk => simp at hk; subst hk; simpa using h1
    | 2, hk => simp at hk; subst hk; simpa using h2⟩⟩

theorem line1_any (f x : ByteArray) (g : Nat) (w : World) (h : w.cell? ⟨g, 0, none⟩ = some (.string x)) (hg : g < w.heap.size) (hL : f.size + x.size ≤ 100000) :
    Calls Tryz.prog 34 #[.string f, .slice (some ⟨g, 0, none⟩) 1 1] w fun e w' => e = .returned (.string ⟨(lineL f.data.toList [x.data.toList]).toArray⟩) ∧ Below w.heap.size w w' :=
  line_any f _ _ w (strs1 h hg) (by have : x.data.toList.length = x.size := by rw [Array.length_toList]; rfl
                                    simp only [List.map_cons, List.map_nil, List.sum_cons, List.sum_nil]; omega)
theorem line3_any (f x y z : ByteArray) (g : Nat) (w : World) (h0 : w.cell? ⟨g, 0, none⟩ = some (.string x)) (h1 : w.cell? ⟨g, 1, none⟩ = some (.string y)) (h2 : w.cell? ⟨g, 2, none⟩ = some (.string z)) (hg : g < w.heap.size) (hL : f.size + x.size + y.size + z.size ≤ 100000) :
    Calls Tryz.prog 34 #[.string f, .slice (some ⟨g, 0, none⟩) 3 3] w fun e w' => e = .returned (.string ⟨(lineL f.data.toList [x.data.toList, y.data.toList, z.data.toList]).toArray⟩) ∧ Below w.heap.size w w' :=
  line_any f _ _ w (strs3 h0 h1 h2 hg) (by have e1 : x.data.toList.length = x.size := by rw [Array.length_toList]; rfl
                                           have e2 : y.data.toList.length = y.size := by rw [Array.length_toList]; rfl
                                           have e3 : z.data.toList.length = z.size := by rw [Array.length_toList]; rfl
                                           simp only [List.map_cons, List.map_nil, List.sum_cons, List.sum_nil]; omega)

def GAll (w : World) : Prop := GIn w ∧ Fl.WordsIn w
theorem GAll.keep {w w' : World} (h : GAll w) (hb : Below w.heap.size w w') : GAll w' := ⟨h.1.keep hb, h.2.keep hb⟩


theorem own_stay {w w' : World} {base : Nat} {e : TypeId} {size : Nat} {v : Value} {n : Nat} {xs : List Value} (h : w.ownsRow base e size v n xs) (hb : Below w.heap.size w w') : w'.ownsRow base e size v n xs := by
  rcases h with ⟨h1, h2 | ⟨g, cap, cur, e1, e2, e3, e4⟩⟩
  · exact ⟨h1, .inl h2⟩
  · exact ⟨h1, .inr ⟨g, cap, cur, e1, e2, (hb.block g (Array.getElem?_eq_some_iff.1 e3).1).trans e3, e4⟩⟩

set_option maxRecDepth 100000 in
set_option maxHeartbeats 2000000 in
theorem methodLines_any (nm ds : ByteArray) (fl lo st : Int) (vc : Value) (code : List Ins) (hf : -9223372036854775808 ≤ fl ∧ fl ≤ 9223372036854775807) (W : World) (hI : IsInss W vc code) (hG : GAll W) (hn : nm.size ≤ 60) (hd : ds.size ≤ 2000) (hlo : 0 ≤ lo ∧ lo ≤ 40) (hst : 0 ≤ st ∧ st ≤ 40) (hw : ∀ i ∈ code, InsW i) (hcl : code.length ≤ 200) :
    Calls Tryz.prog 37 #[.agg #[.string nm, .string ds, .int .i64 fl, .int .i64 lo, .int .i64 st, vc]] W fun e w' => ∃ v, e = .returned v ∧ w'.ownsRow W.heap.size 9 1 v (mthLs ⟨nm, ds, fl, lo, st, code⟩).length ((mthLs ⟨nm, ds, fl, lo, st, code⟩).map txtV) ∧ Below W.heap.size W w' := by
  have HP : Hid (∀ (i : Ins) (w' : World), i ∈ code → Below W.heap.size W w' → Calls Tryz.prog 74 #[.agg #[.int .i64 i.op, .int .i64 i.n, .string i.t, .bool i.b, .string i.c, .string i.m, .string i.d]] w' fun e w'' => e = .returned (.tuple #[.string ⟨(prtI i).toArray⟩, .int .i64 (ickI i)]) ∧ Below w'.heap.size w' w'') := fun i w' hi h => by
    obtain ⟨⟨n1, n2⟩, t1, t2, t3, t4⟩ := hw i hi
    exact oprint_any i.op i.n n1 n2 i.t i.b i.c i.m i.d t1 t2 t3 t4 w' (hG.keep h).1
  obtain ⟨ao, cap, rfl, h1, h2, h3⟩ := hI
  obtain ⟨K, hK⟩ : ∃ K, code.length = K := ⟨_, rfl⟩
  unfold maxLen at h2
  rw [hK] at h1 hcl ⊢
  have HK : Hid (code.length = K) := hK
  have HA : Hid _ := h3
  have HMS : Hid (mthLs ⟨nm, ds, fl, lo, st, code⟩ = [lineL wMethod [nm.data.toList, ds.data.toList, textF fl mthP], lineL wLocals [Lib.itoa lo], lineL wStack [Lib.itoa st]] ++ code.map prtI) := rfl
  obtain ⟨i0, hi9, hz0, hz1, hz2⟩ := info_parts Tryz.info9
  clear hK h3 hw
  obtain ⟨T, hT⟩ : ∃ T : ByteArray, T = ⟨(textF fl mthP).toArray⟩ := ⟨_, rfl⟩
  have hTs : T.size ≤ 2100 := by rw [hT]; have := textF_len fl mthP mthP_small (by decide); simpa [ByteArray.size] using this
  have HMT : Hid (∀ w', Below W.heap.size W w' → Calls Tryz.prog 73 #[.int .i64 fl] w' fun e w'' => e = .returned (.tuple #[.string T, .int .i64 (textE fl mthP)]) ∧ Below w'.heap.size w' w'') := fun w' h => by rw [hT]; exact Fl.MethodText_any fl hf w' (hG.keep h).2
  obtain ⟨D1, hD1⟩ : ∃ D : ByteArray, D = ⟨(Lib.itoa lo).toArray⟩ := ⟨_, rfl⟩
  obtain ⟨D2, hD2⟩ : ∃ D : ByteArray, D = ⟨(Lib.itoa st).toArray⟩ := ⟨_, rfl⟩
  have hD1s : D1.size ≤ 21 := by rw [hD1]; exact itoa_size lo (by omega) (by omega)
  have hD2s : D2.size ≤ 21 := by rw [hD2]; exact itoa_size st (by omega) (by omega)
  have HI1 : Hid (∀ w', Below W.heap.size W w' → Calls Tryz.prog 36 #[.int .i64 lo] w' fun e w'' => e = .returned (.string D1) ∧ Below w'.heap.size w' w'') := fun w' h => by rw [hD1]; exact itoa_any lo (by omega) (by omega) w' (hG.keep h).1.2
  have HI2 : Hid (∀ w', Below W.heap.size W w' → Calls Tryz.prog 36 #[.int .i64 st] w' fun e w'' => e = .returned (.string D2) ∧ Below w'.heap.size w' w'') := fun w' h => by rw [hD2]; exact itoa_any st (by omega) (by omega) w' (hG.keep h).1.2
  obtain ⟨L1, hL1⟩ : ∃ D : ByteArray, D = ⟨(lineL wMethod [nm.data.toList, ds.data.toList, T.data.toList]).toArray⟩ := ⟨_, rfl⟩
  obtain ⟨L2, hL2⟩ : ∃ D : ByteArray, D = ⟨(lineL wLocals [D1.data.toList]).toArray⟩ := ⟨_, rfl⟩
  obtain ⟨L3, hL3⟩ : ∃ D : ByteArray, D = ⟨(lineL wStack [D2.data.toList]).toArray⟩ := ⟨_, rfl⟩
  have HL1 : Hid (∀ (g : Nat) (w' : World), w'.cell? ⟨g, 0, none⟩ = some (.string nm) → w'.cell? ⟨g, 1, none⟩ = some (.string ds) → w'.cell? ⟨g, 2, none⟩ = some (.string T) → g < w'.heap.size → Calls Tryz.prog 34 #[.string ⟨#[109, 101, 116, 104, 111, 100]⟩, .slice (some ⟨g, 0, none⟩) 3 3] w' fun e w'' => e = .returned (.string L1) ∧ Below w'.heap.size w' w'') := fun g w' h0 h1 h2 hg => by
    rw [hL1]; exact line3_any ⟨#[109, 101, 116, 104, 111, 100]⟩ nm ds T g w' h0 h1 h2 hg (by have h9 : (⟨#[109, 101, 116, 104, 111, 100]⟩ : ByteArray).size = 6 := (rfl); omega)
  have HL2 : Hid (∀ (g : Nat) (w' : World), w'.cell? ⟨g, 0, none⟩ = some (.string D1) → g < w'.heap.size → Calls Tryz.prog 34 #[.string ⟨#[108, 111, 99, 97, 108, 115]⟩, .slice (some ⟨g, 0, none⟩) 1 1] w' fun e w'' => e = .returned (.string L2) ∧ Below w'.heap.size w' w'') := fun g w' h0 hg => by
    rw [hL2]; exact line1_any ⟨#[108, 111, 99, 97, 108, 115]⟩ D1 g w' h0 hg (by have h9 : (⟨#[108, 111, 99, 97, 108, 115]⟩ : ByteArray).size = 6 := (rfl); omega)
  have HL3 : Hid (∀ (g : Nat) (w' : World), w'.cell? ⟨g, 0, none⟩ = some (.string D2) → g < w'.heap.size → Calls Tryz.prog 34 #[.string ⟨#[115, 116, 97, 99, 107]⟩, .slice (some ⟨g, 0, none⟩) 1 1] w' fun e w'' => e = .returned (.string L3) ∧ Below w'.heap.size w' w'') := fun g w' h0 hg => by
    rw [hL3]; exact line1_any ⟨#[115, 116, 97, 99, 107]⟩ D2 g w' h0 hg (by have h9 : (⟨#[115, 116, 97, 99, 107]⟩ : ByteArray).size = 5 := (rfl); omega)
  have hLL : Hid (mthLs ⟨nm, ds, fl, lo, st, code⟩ = [L1.data.toList, L2.data.toList, L3.data.toList] ++ code.map prtI) := by
    rw [Hid, HMS.out, hL1, hL2, hL3, hT, hD1, hD2]
  generalize mthLs ⟨nm, ds, fl, lo, st, code⟩ = ML at *
  clear hn hd hlo hst hT hD1 hD2 hL1 hL2 hL3 hTs hD1s hD2s hf hG HMS
  generalize textE fl mthP = te at *
  go_enter Tryz.func37, Tryz.ntmps37
  go_wp2_with (go_at_call 73; refine (HMT.out _ ((Below.refl _ _).alloc (Nat.le_refl _) _)).mono ?_; rintro e w1 ⟨rfl, hb1⟩; have hs1 : W.heap.size < w1.heap.size := (by have := hb1.size; simp at this; omega); have a0 : w1.cell? ⟨W.heap.size, 0, none⟩ = some (.string nm) := (hb1.cell (p := ⟨W.heap.size, 0, none⟩) (by simp)).trans (by simp [go_sem]); have a1 : w1.cell? ⟨W.heap.size, 1, none⟩ = some (.string ds) := (hb1.cell (p := ⟨W.heap.size, 1, none⟩) (by simp)).trans (by simp [go_sem]); have a3 : w1.cell? ⟨W.heap.size, 3, none⟩ = some (.int .i64 lo) := (hb1.cell (p := ⟨W.heap.size, 3, none⟩) (by simp)).trans (by simp [go_sem]); have a4 : w1.cell? ⟨W.heap.size, 4, none⟩ = some (.int .i64 st) := (hb1.cell (p := ⟨W.heap.size, 4, none⟩) (by simp)).trans (by simp [go_sem]); have a5 : w1.cell? ⟨W.heap.size, 5, none⟩ = some (.slice ao K cap) := (hb1.cell (p := ⟨W.heap.size, 5, none⟩) (by simp)).trans (by simp [go_sem]); have B1 : Hid (Below W.heap.size W w1) := Below.step ((Below.refl _ _).alloc (Nat.le_refl _) _) hb1; clear hb1)
  go_region_held3 (fun w' => w'.cell? ⟨W.heap.size, 0, none⟩ = some (.string nm) ∧ w'.cell? ⟨W.heap.size, 1, none⟩ = some (.string ds) ∧ w'.cell? ⟨W.heap.size, 3, none⟩ = some (.int .i64 lo) ∧ w'.cell? ⟨W.heap.size, 4, none⟩ = some (.int .i64 st)) (go_keep)
    (first
      | (go_at_call 34; refine (HL1.out _ _ ?_ ?_ ?_ ?_).mono ?_; (simp [go_sem]); (simp [go_sem]); (simp [go_sem]); (simp); rintro e w2 ⟨rfl, hb2⟩; have hs2 : W.heap.size < w2.heap.size := (by have := hb2.size; simp at this; omega); have b0 : w2.cell? ⟨W.heap.size, 0, none⟩ = some (.string nm) := (hb2.cell (p := ⟨W.heap.size, 0, none⟩) (by simp; omega)).trans (by simp [go_sem, *]); have b1 : w2.cell? ⟨W.heap.size, 1, none⟩ = some (.string ds) := (hb2.cell (p := ⟨W.heap.size, 1, none⟩) (by simp; omega)).trans (by simp [go_sem, *]); have b3 : w2.cell? ⟨W.heap.size, 3, none⟩ = some (.int .i64 lo) := (hb2.cell (p := ⟨W.heap.size, 3, none⟩) (by simp; omega)).trans (by simp [go_sem, *]); have b4 : w2.cell? ⟨W.heap.size, 4, none⟩ = some (.int .i64 st) := (hb2.cell (p := ⟨W.heap.size, 4, none⟩) (by simp; omega)).trans (by simp [go_sem, *]); have b5 : w2.cell? ⟨W.heap.size, 5, none⟩ = some (.slice ao K cap) := (hb2.cell (p := ⟨W.heap.size, 5, none⟩) (by simp; omega)).trans (by simp [go_sem, *]); have B2 : Hid (Below W.heap.size W w2) := Below.step ((B1.out.alloc B1.out.size _).drew) hb2; clear hb2 a0 a1 a3 a4 a5 HL1)
      | (go_at_call 36; refine (HI1.out _ B2.out).mono ?_; rintro e w3 ⟨rfl, hb3⟩; have hs3 : W.heap.size < w3.heap.size := (by have := hb3.size; omega); have c0 : w3.cell? ⟨W.heap.size, 0, none⟩ = some (.string nm) := (hb3.cell (p := ⟨W.heap.size, 0, none⟩) hs2).trans (by simp [go_sem, *]); have c1 : w3.cell? ⟨W.heap.size, 1, none⟩ = some (.string ds) := (hb3.cell (p := ⟨W.heap.size, 1, none⟩) hs2).trans (by simp [go_sem, *]); have c3 : w3.cell? ⟨W.heap.size, 3, none⟩ = some (.int .i64 lo) := (hb3.cell (p := ⟨W.heap.size, 3, none⟩) hs2).trans (by simp [go_sem, *]); have c4 : w3.cell? ⟨W.heap.size, 4, none⟩ = some (.int .i64 st) := (hb3.cell (p := ⟨W.heap.size, 4, none⟩) hs2).trans (by simp [go_sem, *]); have c5 : w3.cell? ⟨W.heap.size, 5, none⟩ = some (.slice ao K cap) := (hb3.cell (p := ⟨W.heap.size, 5, none⟩) hs2).trans (by simp [go_sem, *]); have B3 : Hid (Below W.heap.size W w3) := Below.step B2.out hb3; clear hb3 b0 b1 b3 b4 b5 HI1)
      | (go_at_call 34; refine (HL2.out _ _ ?_ ?_).mono ?_; (simp [go_sem]); (simp); rintro e w4 ⟨rfl, hb4⟩; have hs4 : W.heap.size < w4.heap.size := (by have := hb4.size; simp at this; omega); have d0 : w4.cell? ⟨W.heap.size, 0, none⟩ = some (.string nm) := (hb4.cell (p := ⟨W.heap.size, 0, none⟩) (by simp; omega)).trans (by simp [go_sem, *]); have d1 : w4.cell? ⟨W.heap.size, 1, none⟩ = some (.string ds) := (hb4.cell (p := ⟨W.heap.size, 1, none⟩) (by simp; omega)).trans (by simp [go_sem, *]); have d3 : w4.cell? ⟨W.heap.size, 3, none⟩ = some (.int .i64 lo) := (hb4.cell (p := ⟨W.heap.size, 3, none⟩) (by simp; omega)).trans (by simp [go_sem, *]); have d4 : w4.cell? ⟨W.heap.size, 4, none⟩ = some (.int .i64 st) := (hb4.cell (p := ⟨W.heap.size, 4, none⟩) (by simp; omega)).trans (by simp [go_sem, *]); have d5 : w4.cell? ⟨W.heap.size, 5, none⟩ = some (.slice ao K cap) := (hb4.cell (p := ⟨W.heap.size, 5, none⟩) (by simp; omega)).trans (by simp [go_sem, *]); have B4 : Hid (Below W.heap.size W w4) := Below.step (B3.out.alloc B3.out.size _) hb4; clear hb4 c0 c1 c3 c4 c5 HL2)
      | (go_at_call 36; refine (HI2.out _ B4.out).mono ?_; rintro e w5 ⟨rfl, hb5⟩; have hs5 : W.heap.size < w5.heap.size := (by have := hb5.size; omega); have e0 : w5.cell? ⟨W.heap.size, 0, none⟩ = some (.string nm) := (hb5.cell (p := ⟨W.heap.size, 0, none⟩) hs4).trans (by simp [go_sem, *]); have e1 : w5.cell? ⟨W.heap.size, 1, none⟩ = some (.string ds) := (hb5.cell (p := ⟨W.heap.size, 1, none⟩) hs4).trans (by simp [go_sem, *]); have e3 : w5.cell? ⟨W.heap.size, 3, none⟩ = some (.int .i64 lo) := (hb5.cell (p := ⟨W.heap.size, 3, none⟩) hs4).trans (by simp [go_sem, *]); have e4 : w5.cell? ⟨W.heap.size, 4, none⟩ = some (.int .i64 st) := (hb5.cell (p := ⟨W.heap.size, 4, none⟩) hs4).trans (by simp [go_sem, *]); have e5 : w5.cell? ⟨W.heap.size, 5, none⟩ = some (.slice ao K cap) := (hb5.cell (p := ⟨W.heap.size, 5, none⟩) hs4).trans (by simp [go_sem, *]); have B5 : Hid (Below W.heap.size W w5) := Below.step B4.out hb5; clear hb5 d0 d1 d3 d4 d5 HI2)
      | (go_at_call 34; refine (HL3.out _ _ ?_ ?_).mono ?_; (simp [go_sem]); (simp); rintro e w6 ⟨rfl, hb6⟩; have hs6 : W.heap.size < w6.heap.size := (by have := hb6.size; simp at this; omega); have f0 : w6.cell? ⟨W.heap.size, 0, none⟩ = some (.string nm) := (hb6.cell (p := ⟨W.heap.size, 0, none⟩) (by simp; omega)).trans (by simp [go_sem, *]); have f1 : w6.cell? ⟨W.heap.size, 1, none⟩ = some (.string ds) := (hb6.cell (p := ⟨W.heap.size, 1, none⟩) (by simp; omega)).trans (by simp [go_sem, *]); have f3 : w6.cell? ⟨W.heap.size, 3, none⟩ = some (.int .i64 lo) := (hb6.cell (p := ⟨W.heap.size, 3, none⟩) (by simp; omega)).trans (by simp [go_sem, *]); have f4 : w6.cell? ⟨W.heap.size, 4, none⟩ = some (.int .i64 st) := (hb6.cell (p := ⟨W.heap.size, 4, none⟩) (by simp; omega)).trans (by simp [go_sem, *]); have f5 : w6.cell? ⟨W.heap.size, 5, none⟩ = some (.slice ao K cap) := (hb6.cell (p := ⟨W.heap.size, 5, none⟩) (by simp; omega)).trans (by simp [go_sem, *]); have B6 : Hid (Below W.heap.size W w6) := Below.step (B5.out.alloc B5.out.size _) hb6; clear hb6 e0 e1 e3 e4 e5 HL3))
  go_wp2
  have HO0 : Hid ((w6.alloc (.cells #[.string L1, .string L2, .string L3] 9)).ownsRow W.heap.size 9 1 (.slice (some ⟨w6.heap.size, 0, none⟩) 3 3) 3 ([L1.data.toList, L2.data.toList, L3.data.toList].map txtV)) := by
    refine ⟨rfl, .inr ⟨w6.heap.size, 3, #[.string L1, .string L2, .string L3], rfl, B6.out.size, heap_alloc_new w6 _, Nat.le_refl _, by unfold maxLen; omega, rfl, ?_⟩⟩
    simp [txtV]
  have B7 : Hid (Below W.heap.size W (w6.alloc (.cells #[.string L1, .string L2, .string L3] 9))) := B6.out.alloc B6.out.size _
  clear f0 f1 f3 f4 f5 B1 B2 B3 B4 B5 B6 hs1 hs2 hs3 hs4 hs5 hs6
  go_loopw [5, 37] (fun sv iv wr => ∃ (i : Nat) (done : List (List UInt8)), iv = .int .i64 i ∧ i ≤ K ∧ done.length = 3 + i ∧ Hid (done = [L1.data.toList, L2.data.toList, L3.data.toList] ++ (code.take i).map prtI) ∧ Hid (wr.ownsRow W.heap.size 9 1 sv done.length (done.map txtV)) ∧ Hid (Below W.heap.size W wr)) (fun _ iv _ => K - (intOf iv).toNat)
  case atStart => exact ⟨0, [L1.data.toList, L2.data.toList, L3.data.toList], rfl, Nat.zero_le _, rfl, by simp [Hid], HO0, B7⟩
  case round =>
    obtain ⟨i, done, rfl, hi, hdl, hD, hown, hb⟩ := hrel
    clear HO0 B7
    by_cases hlt : i < K
    · obtain ⟨bk, o, hao, hbk, hc⟩ := HA.out (by intro e; have := HK.out; rw [e] at this; simp at this; omega)
      obtain ⟨x, hx⟩ : ∃ x, code[i]? = some x := ⟨_, List.getElem?_eq_getElem (by rw [HK.out]; exact hlt)⟩
      subst hao
      have HPX : Hid (∀ w', Below W.heap.size W w' → Calls Tryz.prog 74 #[.agg #[.int .i64 x.op, .int .i64 x.n, .string x.t, .bool x.b, .string x.c, .string x.m, .string x.d]] w' fun e w'' => e = .returned (.tuple #[.string ⟨(prtI x).toArray⟩, .int .i64 (ickI x)]) ∧ Below w'.heap.size w' w'') := fun w' h => HP.out x w' (List.mem_of_getElem? hx) h
      have HN : Hid (done ++ [prtI x] = [L1.data.toList, L2.data.toList, L3.data.toList] ++ (code.take (i + 1)).map prtI) := by
        rw [Hid, hD.out, List.take_add_one, hx]; simp
      obtain ⟨p0, p1, p2, p3, p4, p5, p6⟩ := hc i x hx
      replace p0 := (hb.out.cell hbk).trans p0
      replace p1 := (hb.out.cell hbk).trans p1
      replace p2 := (hb.out.cell hbk).trans p2
      replace p3 := (hb.out.cell hbk).trans p3
      replace p4 := (hb.out.cell hbk).trans p4
      replace p5 := (hb.out.cell hbk).trans p5
      replace p6 := (hb.out.cell hbk).trans p6
      generalize ickI x = xe at *
      obtain ⟨P, hP⟩ : ∃ P : ByteArray, P = ⟨(prtI x).toArray⟩ := ⟨_, rfl⟩
      rw [← hP] at HPX
      have HPP : Hid (txtV (prtI x) = .string P) := by rw [Hid, hP]; rfl
      obtain ⟨xo, xn, xt, xb, xc, xm, xd⟩ := x
      simp only at p0 p1 p2 p3 p4 p5 p6 HPX
      generalize prtI ⟨xo, xn, xt, xb, xc, xm, xd⟩ = PL at *
      clear hc hD hP hx HA HP
      go_wp2_with (first
        | (go_at_call 74; refine (HPX.out _ (hb.out.alloc hb.out.size _)).mono ?_; rintro e w2 ⟨rfl, hb2⟩; have B2 : Hid (Below W.heap.size W w2) := Below.step (hb.out.alloc hb.out.size _) hb2; have O2 : Hid (w2.ownsRow W.heap.size 9 1 u5 done.length (done.map txtV)) := own_stay hown.out (((Below.refl _ _).alloc (Nat.le_refl _) _).trans (hb2.mono (by simp))); have z2 := B2.out.size; clear hb2)
        | (at_builtin; refine wpList_append_own _ rfl _ _ 22 rfl W.heap.size 9 i0 (.string ⟨#[]⟩) 1 16 Tryz.underlying22 hi9 hz0 hz1 hz2 rfl (by decide) _ _ _ rfl (O2.out.alloc _) ⟨w2.heap.size, 0, none⟩ 1 1 [.string P] rfl rfl ?c1 ?c2 ?c3 ?c4 ?c5 ?_))
      case c1 => exact cell_one_new _ _ _
      case c2 => intro u hu; simp at hu; subst hu; rfl
      case c3 => unfold maxLen; omega
      case c4 => omega
      case c5 => simp; omega
      · intro v' w3 hown' hgrow _
        have R := Fl.said_rel (t := PL) z2 O2.out B2.out (by rw [HPP.out, hdl]; exact hown') hgrow
        have R1 : Hid _ := R.1
        have R2 : Hid _ := R.2
        clear hown' hgrow hown O2 B2 R
        go_wp2
        go_roundw
        case rel => exact ⟨i + 1, done ++ [PL], by go_num, by omega, by simp; omega, HN, R1, R2⟩
        case measure => simp [intOf]; omega
    · have e : i = K := by omega
      subst e
      have hd : done = ML := by rw [hLL.out, hD.out, List.take_of_length_le (by rw [HK.out]; exact Nat.le_refl _)]
      have HR : Hid (wr.ownsRow W.heap.size 9 1 u5 ML.length (ML.map txtV)) := by rw [Hid, ← hd]; exact hown.out
      clear hD hown HA HP hd hdl done
      go_wp2
      go_ret
      exact ⟨_, rfl, HR.out, hb.out⟩


theorem below_dN {w w1 : World} (n : Nat) (h : Below w.heap.size w w1) : Below w.heap.size w (w1.drewN n) := ⟨h.os, h.tape, h.output, h.size, h.block⟩

set_option maxRecDepth 100000 in
set_option maxHeartbeats 1000000 in
theorem readName_no (s p R : ByteArray) (w : World) (HW : Calls Tryz.prog 155 #[.string s, .string p] w fun e w' => (∃ er, e = .returned (.tuple #[.string R, er]) ∧ ErrV er) ∧ Below w.heap.size w w') :
    Calls Tryz.prog 124 #[.string s, .string p] w fun e w' => (∃ er, e = .returned (.tuple #[.string ⟨#[]⟩, er]) ∧ ErrV er) ∧ Below w.heap.size w w' := by
  have HW : Hid (Calls Tryz.prog 155 _ w _) := HW
  go_enter Tryz.func124, Tryz.ntmps124
  go_wp2_with (go_at_call 155; refine HW.out.mono ?_; rintro e w1 ⟨⟨er, rfl, tp, a, rfl⟩, hb1⟩; clear HW)
  go_ret2
  exact ⟨⟨_, rfl, tp, a, rfl⟩, hb1⟩

set_option maxRecDepth 100000 in
set_option maxHeartbeats 1000000 in
theorem readName_yes (s p R A B : ByteArray) (w : World) (hS : SIn w) (HW : Calls Tryz.prog 155 #[.string s, .string p] w fun e w' => e = .returned (.tuple #[.string R, .nilIface]) ∧ Below w.heap.size w w')
    (HP : ∀ w, Calls Tryz.prog 156 #[.string R] w fun e w' => e = .returned (.tuple #[.string A, .string B]) ∧ ∃ n, w' = w.drewN n) (q : Bool) (hq : q = (!A.toList.isEmpty && B.toList.isEmpty)) :
    Calls Tryz.prog 124 #[.string s, .string p] w fun e w' => (∃ er, e = .returned (.tuple #[.string (if q then A else ⟨#[]⟩), er]) ∧ if q then er = .nilIface else ErrV er) ∧ Below w.heap.size w w' := by
  have HW : Hid (Calls Tryz.prog 155 _ w _) := HW
  have HP : Hid (∀ w : World, _) := HP
  have HS : Hid (SIn w) := hS
  clear hS
  generalize hA : A.toList.isEmpty = qa at *
  generalize hB : B.toList.isEmpty = qb at *
  cases qa with
  | true =>
    obtain rfl : q = false := by rw [hq]; rfl
    clear hq
    go_enter Tryz.func124, Tryz.ntmps124
    go_wp2_with (first
      | (go_at_call 155; refine HW.out.mono ?_; rintro e w1 ⟨rfl, hb1⟩; obtain ⟨_, ⟨h5, tp, a, hc⟩, _⟩ := HS.out.keep hb1; clear HW HS)
      | (go_at_call 156; refine (HP.out _).mono ?_; rintro e w2 ⟨rfl, n, rfl⟩; clear HP))
    all_goals (try go_region)
    all_goals (try go_wp2)
    all_goals go_ret2
    all_goals first
      | exact ⟨⟨_, rfl, tp, a, rfl⟩, below_dN _ hb1⟩
      | exact ⟨⟨_, rfl, tp, a, rfl⟩, (below_dN n hb1).drew⟩
  | false =>
    cases qb with
    | true =>
      obtain rfl : q = true := by rw [hq]; rfl
      clear hq
      go_enter Tryz.func124, Tryz.ntmps124
      go_wp2_with (first
        | (go_at_call 155; refine HW.out.mono ?_; rintro e w1 ⟨rfl, hb1⟩; obtain ⟨_, ⟨h5, tp, a, hc⟩, _⟩ := HS.out.keep hb1; clear HW HS)
        | (go_at_call 156; refine (HP.out _).mono ?_; rintro e w2 ⟨rfl, n, rfl⟩; clear HP))
      all_goals go_ret2
      all_goals first
        | exact ⟨⟨_, rfl, rfl⟩, below_dN _ hb1⟩
        | exact ⟨rfl, below_dN _ hb1⟩
    | false =>
      obtain rfl : q = false := by rw [hq]; rfl
      clear hq
      go_enter Tryz.func124, Tryz.ntmps124
      go_wp2_with (first
        | (go_at_call 155; refine HW.out.mono ?_; rintro e w1 ⟨rfl, hb1⟩; obtain ⟨_, ⟨h5, tp, a, hc⟩, _⟩ := HS.out.keep hb1; clear HW HS)
        | (go_at_call 156; refine (HP.out _).mono ?_; rintro e w2 ⟨rfl, n, rfl⟩; clear HP))
      all_goals (try go_region)
      all_goals (try go_wp2)
      all_goals go_ret2
      all_goals first
        | exact ⟨⟨_, rfl, tp, a, rfl⟩, below_dN _ hb1⟩
        | exact ⟨⟨_, rfl, tp, a, rfl⟩, (below_dN n hb1).drew⟩

theorem bsize (s : ByteArray) : s.data.toList.length = s.size := by rw [Array.length_toList]; rfl
/-- readName: the text behind the line's word, or an error -/
theorem rdName_any (s p : ByteArray) (hs : s.size ≤ 40000) (hp : (32 : UInt8) ∉ p.data.toList) (w : World) (hS : SIn w) :
    Calls Tryz.prog 124 #[.string s, .string p] w fun e w' => (∃ er, e = .returned (.tuple #[.string ⟨(rnS s.data.toList p.data.toList).toArray⟩, er]) ∧ if rnB s.data.toList p.data.toList then er = .nilIface else ErrV er) ∧ Below w.heap.size w w' := by
  have HW := cutWord_w s p hp w hS.1
  cases hq : (fstW s.data.toList == p.data.toList) with
  | false =>
    have hb : rnB s.data.toList p.data.toList = false := by rw [rnB, hq]; rfl
    simp only [hq] at HW
    have := readName_no s p _ w HW
    rw [rnS, hb]
    exact this
  | true =>
    have hr := (rest_len s.data.toList).1
    rw [bsize] at hr
    have hd : (⟨(restW s.data.toList).toArray⟩ : ByteArray).data.toList = restW s.data.toList := by simp
    have HP := cutPart_any ⟨(restW s.data.toList).toArray⟩ (by rw [mk_size]; omega) (by rw [hd]; exact rest_head _)
    rw [hd] at HP
    rw [hq] at HW
    simp only [if_true] at HW
    have HW2 : Calls Tryz.prog 155 #[.string s, .string p] w fun e w' => e = .returned (.tuple #[.string ⟨(restW s.data.toList).toArray⟩, .nilIface]) ∧ Below w.heap.size w w' := HW.mono fun e w' ⟨⟨er, h1, h2⟩, h3⟩ => ⟨by rw [h1, h2], h3⟩
    have hb : rnB s.data.toList p.data.toList = (!((⟨(fstW ((restW s.data.toList).drop 1)).toArray⟩ : ByteArray).toList.isEmpty) && (⟨(restW ((restW s.data.toList).drop 1)).toArray⟩ : ByteArray).toList.isEmpty) := by
      rw [Lib.toList_data, Lib.toList_data]
      simp only [rnB, hq, Bool.true_and]
      generalize (restW s.data.toList).drop 1 = P
      cases hr : restW P with
      | cons x r => simp
      | nil =>
        rw [fst_none hr]
        cases P <;> rfl
    have := readName_yes s p _ _ _ w hS HW2 HP _ hb
    have hn : (if rnB s.data.toList p.data.toList then (⟨(fstW ((restW s.data.toList).drop 1)).toArray⟩ : ByteArray) else ⟨#[]⟩) = ⟨(rnS s.data.toList p.data.toList).toArray⟩ := by
      rw [rnS]
      cases h : rnB s.data.toList p.data.toList with
      | false => rfl
      | true =>
        simp only [rnB, Bool.and_eq_true, beq_iff_eq] at h
        simp only [if_true]
        rw [fst_none h.2]
    rw [hn] at this
    exact this

set_option maxRecDepth 100000 in
set_option maxHeartbeats 1000000 in
theorem readNumber_no (s p R : ByteArray) (w : World) (HW : Calls Tryz.prog 124 #[.string s, .string p] w fun e w' => (∃ er, e = .returned (.tuple #[.string R, er]) ∧ ErrV er) ∧ Below w.heap.size w w') :
    Calls Tryz.prog 126 #[.string s, .string p] w fun e w' => (∃ er, e = .returned (.tuple #[.int .i64 0, er]) ∧ ErrV er) ∧ Below w.heap.size w w' := by
  have HW : Hid (Calls Tryz.prog 124 _ w _) := HW
  go_enter Tryz.func126, Tryz.ntmps126
  go_wp2_with (go_at_call 124; refine HW.out.mono ?_; rintro e w1 ⟨⟨er, rfl, tp, a, rfl⟩, hb1⟩; clear HW)
  go_ret2
  exact ⟨⟨_, rfl, tp, a, rfl⟩, hb1⟩

set_option maxRecDepth 100000 in
set_option maxHeartbeats 1000000 in
theorem readNumber_bad (s p R : ByteArray) (w : World) (hS : SIn w) (HW : Calls Tryz.prog 124 #[.string s, .string p] w fun e w' => e = .returned (.tuple #[.string R, .nilIface]) ∧ Below w.heap.size w w')
    (HA : ∀ w', Below w.heap.size w w' → Calls Tryz.prog 159 #[.string R] w' fun e w'' => (∃ n er, e = .returned (.tuple #[.int .i64 n, er]) ∧ ErrV er) ∧ Below w'.heap.size w' w'') :
    Calls Tryz.prog 126 #[.string s, .string p] w fun e w' => (∃ er, e = .returned (.tuple #[.int .i64 0, er]) ∧ ErrV er) ∧ Below w.heap.size w w' := by
  have HW : Hid (Calls Tryz.prog 124 _ w _) := HW
  have HA : Hid (∀ w' : World, _ → _) := HA
  have HS : Hid (SIn w) := hS
  clear hS
  go_enter Tryz.func126, Tryz.ntmps126
  go_wp2_with (first
    | (go_at_call 124; refine HW.out.mono ?_; rintro e w1 ⟨rfl, hb1⟩; clear HW)
    | (go_at_call 159; refine (HA.out _ hb1).mono ?_; rintro e w2 ⟨⟨n, er, rfl, tp0, a0, rfl⟩, hb2⟩; have B2 : Hid (Below w.heap.size w w2) := Below.step hb1 hb2; clear hb1 hb2 HA; obtain ⟨_, ⟨h5, tp, a, hc⟩, _⟩ := HS.out.keep B2.out; clear HS))
  all_goals (try go_region)
  all_goals (try go_wp2)
  all_goals go_ret2
  all_goals first
    | exact ⟨⟨_, rfl, tp, a, rfl⟩, B2.out⟩
    | exact ⟨⟨_, rfl, tp, a, rfl⟩, B2.out.drew⟩

set_option maxRecDepth 100000 in
set_option maxHeartbeats 2000000 in
theorem readNumber_ok (s p R I : ByteArray) (n : Int) (w : World) (hS : SIn w) (HW : Calls Tryz.prog 124 #[.string s, .string p] w fun e w' => e = .returned (.tuple #[.string R, .nilIface]) ∧ Below w.heap.size w w')
    (HA : ∀ w', Below w.heap.size w w' → Calls Tryz.prog 159 #[.string R] w' fun e w'' => e = .returned (.tuple #[.int .i64 n, .nilIface]) ∧ Below w'.heap.size w' w'')
    (HI : ∀ w', Below w.heap.size w w' → Calls Tryz.prog 36 #[.int .i64 n] w' fun e w'' => e = .returned (.string I) ∧ Below w'.heap.size w' w'') (q : Bool) (hq : q = (!(decide (n < 0)) && !(decide (9 < (R.size : Int))) && (I.toList == R.toList))) :
    Calls Tryz.prog 126 #[.string s, .string p] w fun e w' => (∃ er, e = .returned (.tuple #[.int .i64 (if q then n else 0), er]) ∧ if q then er = .nilIface else ErrV er) ∧ Below w.heap.size w w' := by
  have HW : Hid (Calls Tryz.prog 124 _ w _) := HW
  have HA : Hid (∀ w' : World, _ → _) := HA
  have HI : Hid (∀ w' : World, _ → _) := HI
  have HS : Hid (SIn w) := hS
  clear hS
  by_cases h1 : n < 0
  · obtain rfl : q = false := by rw [hq, decide_eq_true h1]; rfl
    clear hq
    go_enter Tryz.func126, Tryz.ntmps126
    go_wp2_with (first
      | (go_at_call 124; refine HW.out.mono ?_; rintro e w1 ⟨rfl, hb1⟩; clear HW)
      | (go_at_call 159; refine (HA.out _ hb1).mono ?_; rintro e w2 ⟨rfl, hb2⟩; have B2 : Hid (Below w.heap.size w w2) := Below.step hb1 hb2; clear hb1 hb2 HA; obtain ⟨_, ⟨h5, tp, a, hc⟩, _⟩ := HS.out.keep B2.out; clear HS))
    all_goals (try go_region)
    all_goals (try go_wp2)
    all_goals go_ret2
    all_goals first
      | exact ⟨⟨_, rfl, tp, a, rfl⟩, B2.out⟩
      | exact ⟨⟨_, rfl, tp, a, rfl⟩, B2.out.drew⟩
  · by_cases h2 : 9 < (R.size : Int)
    · obtain rfl : q = false := by rw [hq, decide_eq_true h2]; simp
      clear hq
      go_enter Tryz.func126, Tryz.ntmps126
      go_wp2_with (first
        | (go_at_call 124; refine HW.out.mono ?_; rintro e w1 ⟨rfl, hb1⟩; clear HW)
        | (go_at_call 159; refine (HA.out _ hb1).mono ?_; rintro e w2 ⟨rfl, hb2⟩; have B2 : Hid (Below w.heap.size w w2) := Below.step hb1 hb2; clear hb1 hb2 HA; obtain ⟨_, ⟨h5, tp, a, hc⟩, _⟩ := HS.out.keep B2.out; clear HS))
      all_goals (try go_region)
      all_goals (try go_wp2)
      all_goals go_ret2
      all_goals first
        | exact ⟨⟨_, rfl, tp, a, rfl⟩, B2.out⟩
        | exact ⟨⟨_, rfl, tp, a, rfl⟩, B2.out.drew⟩
    · generalize h3 : (I.toList == R.toList) = q3 at *
      cases q3 with
      | true =>
        obtain rfl : q = true := by rw [hq, decide_eq_false h1, decide_eq_false h2]; rfl
        have h4 : (I.toList != R.toList) = !true := by rw [bne, h3]
        clear hq
        go_enter Tryz.func126, Tryz.ntmps126
        go_wp2_with (first
          | (go_at_call 124; refine HW.out.mono ?_; rintro e w1 ⟨rfl, hb1⟩; clear HW)
          | (go_at_call 159; refine (HA.out _ hb1).mono ?_; rintro e w2 ⟨rfl, hb2⟩; have B2 : Hid (Below w.heap.size w w2) := Below.step hb1 hb2; clear hb1 hb2 HA)
          | (go_at_call 36; refine (HI.out _ B2.out).mono ?_; rintro e w3 ⟨rfl, hb3⟩; have B3 : Hid (Below w.heap.size w w3) := Below.step B2.out hb3; clear hb3 HI; obtain ⟨_, ⟨h5, tp, a, hc⟩, _⟩ := HS.out.keep B3.out; clear HS))
        all_goals go_ret2
        all_goals first
          | exact ⟨⟨_, rfl, rfl⟩, B3.out⟩
          | exact ⟨rfl, B3.out⟩
      | false =>
        obtain rfl : q = false := by rw [hq]; simp
        have h4 : (I.toList != R.toList) = !false := by rw [bne, h3]
        clear hq
        go_enter Tryz.func126, Tryz.ntmps126
        go_wp2_with (first
          | (go_at_call 124; refine HW.out.mono ?_; rintro e w1 ⟨rfl, hb1⟩; clear HW)
          | (go_at_call 159; refine (HA.out _ hb1).mono ?_; rintro e w2 ⟨rfl, hb2⟩; have B2 : Hid (Below w.heap.size w w2) := Below.step hb1 hb2; clear hb1 hb2 HA)
          | (go_at_call 36; refine (HI.out _ B2.out).mono ?_; rintro e w3 ⟨rfl, hb3⟩; have B3 : Hid (Below w.heap.size w w3) := Below.step B2.out hb3; clear hb3 HI; obtain ⟨_, ⟨h5, tp, a, hc⟩, _⟩ := HS.out.keep B3.out; clear HS))
        all_goals (try go_region)
        all_goals (try go_wp2)
        all_goals go_ret2
        all_goals first
          | exact ⟨⟨_, rfl, tp, a, rfl⟩, B3.out⟩
          | exact ⟨⟨_, rfl, tp, a, rfl⟩, B3.out.drew⟩

/-- all that the reading needs of package-level variables -/
def GP (w : World) : Prop := GAll w ∧ WordsRow w ∧ EIn w ∧ SIn w
theorem GP.keep {w w' : World} (h : GP w) (hb : Below w.heap.size w w') : GP w' := ⟨h.1.keep hb, h.2.1.keep hb, h.2.2.1.keep hb, h.2.2.2.keep hb⟩

/-- readNumber: the number behind the line's word, or an error -/
theorem rdNumber_any (s p : ByteArray) (hs : s.size ≤ 40000) (hp : (32 : UInt8) ∉ p.data.toList) (w : World) (hG : GP w) :
    Calls Tryz.prog 126 #[.string s, .string p] w fun e w' => (∃ n er, e = .returned (.tuple #[.int .i64 n, er]) ∧ if rnB s.data.toList p.data.toList && num9 (rnS s.data.toList p.data.toList) then er = .nilIface ∧ n = (numR (rnS s.data.toList p.data.toList)).1 else ErrV er) ∧ Below w.heap.size w w' := by
  have HW := rdName_any s p hs hp w hG.2.2.2
  have hlen := rnS_len s.data.toList p.data.toList
  rw [bsize] at hlen
  cases hb : rnB s.data.toList p.data.toList with
  | false =>
    simp only [hb] at HW
    exact (readNumber_no s p _ w HW).mono fun e w' ⟨⟨er, h1, h2⟩, h3⟩ => ⟨⟨0, er, h1, h2⟩, h3⟩
  | true =>
    rw [hb] at HW
    simp only [if_true] at HW
    obtain ⟨e1, e2⟩ := rd_num9 (rnS s.data.toList p.data.toList)
    obtain ⟨R, hR⟩ : ∃ R : ByteArray, R = ⟨(rnS s.data.toList p.data.toList).toArray⟩ := ⟨_, rfl⟩
    have hRd : R.data.toList = rnS s.data.toList p.data.toList := by rw [hR]
    have hRs : R.size ≤ 40000 := by rw [hR, mk_size]; omega
    rw [← hR] at HW
    rw [← hRd] at e1 e2 ⊢
    have HW2 : Calls Tryz.prog 124 #[.string s, .string p] w fun e w' => e = .returned (.tuple #[.string R, .nilIface]) ∧ Below w.heap.size w w' := HW.mono fun e w' ⟨⟨er, h1, h2⟩, h3⟩ => ⟨by rw [h1, h2], h3⟩
    obtain ⟨⟨t1, p1, h1⟩, t2, p2, h2⟩ := hG.2.2.1
    cases ha : Lib.atoiAll R.data.toList with
    | ok v =>
      have hv : rdN R.data.toList = v := by rw [rdN, ha]
      have hvb := rdN_bounds R.data.toList
      rw [hv] at hvb
      have HA : ∀ w', Below w.heap.size w w' → Calls Tryz.prog 159 #[.string R] w' fun e w'' => e = .returned (.tuple #[.int .i64 v, .nilIface]) ∧ Below w'.heap.size w' w'' := fun w' _ =>
        (Tryz.strconv_Atoi_ok R (by omega) v ha w').mono fun e w'' ⟨he, hw⟩ => ⟨he, by
          rcases hw with rfl | ⟨t, rfl⟩
          · exact Below.refl _ _
          · exact bytes_below _ _ _⟩
      have HI : ∀ w', Below w.heap.size w w' → Calls Tryz.prog 36 #[.int .i64 v] w' fun e w'' => e = .returned (.string ⟨(Lib.itoa v).toArray⟩) ∧ Below w'.heap.size w' w'' := fun w' h => itoa_any v (by omega) (by omega) w' (hG.1.1.2.keep h)
      have hq : num9 R.data.toList = (!(decide (v < 0)) && !(decide (9 < (R.size : Int))) && ((⟨(Lib.itoa v).toArray⟩ : ByteArray).toList == R.toList)) := by
        rw [e1, pkgN, hv, Lib.toList_data, Lib.toList_data, bsize]
      refine (readNumber_ok s p R _ v w hG.2.2.2 HW2 HA HI _ hq).mono fun e w' ⟨⟨er, h3, h4⟩, h5⟩ => ⟨⟨_, er, h3, ?_⟩, h5⟩
      cases h6 : num9 R.data.toList with
      | false => rw [h6] at h4; exact h4
      | true => rw [h6] at h4; exact ⟨h4, by rw [e2 h6, hv]; rfl⟩
    | «syntax» =>
      have hz : num9 R.data.toList = false := by rw [e1]; exact rd_zero (fun v hv => by rw [ha] at hv; cases hv)
      rw [hz]
      refine (readNumber_bad s p R w hG.2.2.2 HW2 (fun w' hb => ?_)).mono fun e w' ⟨⟨er, h3, h4⟩, h5⟩ => ⟨⟨0, er, h3, h4⟩, h5⟩
      exact (Tryz.strconv_Atoi_syntax_var R (by omega) ha t1 p1 w' (Joins.var_stays Tryz.synG h1 hb (Nat.le_refl _))).mono fun e w'' ⟨N, he, _, _, hb⟩ => ⟨⟨0, _, he, _, _, rfl⟩, hb⟩
    | range =>
      have hz : num9 R.data.toList = false := by rw [e1]; exact rd_zero (fun v hv => by rw [ha] at hv; cases hv)
      rw [hz]
      refine (readNumber_bad s p R w hG.2.2.2 HW2 (fun w' hb => ?_)).mono fun e w' ⟨⟨er, h3, h4⟩, h5⟩ => ⟨⟨0, er, h3, h4⟩, h5⟩
      exact (Tryz.strconv_Atoi_range_var R (by omega) ha t2 p2 w' (Joins.var_stays Tryz.rngG h2 hb (Nat.le_refl _))).mono fun e w'' ⟨N, he, _, _, hb⟩ => ⟨⟨_, _, he, _, _, rfl⟩, hb⟩
end Go.Proofs.YtfbhjfpkhofifaaGreatDoor
