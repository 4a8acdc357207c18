/- Plain facts on classes there and back: a text that is taken is the text of its class. -/
import Derived.Test.YtfbhjfpkhofifaaGreatDoorSoE
import Derived.Test.YtfbhjfpkhofifaaGreatDoorCodeT
import Derived.Test.YtfbhjfpkhofifaaGreatDoorFOwnC
import Derived.Test.YtfbhjfpkhofifaaGreatDoorSoA
import Derived.Test.YtfbhjfpkhofifaaGreatDoorCodeX
namespace Go.Proofs.YtfbhjfpkhofifaaGreatDoor
open Go.RowKit

/-- a line of words: those that are empty are left out -/
def lineL : List UInt8 → List (List UInt8) → List UInt8
  | f, [] => f
  | f, p :: r => lineL (if p = [] then f else f ++ 32 :: p) r
theorem lineL_at {l : List (List UInt8)} (f : List UInt8) (k : Nat) (x : List UInt8) (h : l[k]? = some x) : lineL f (l.drop k) = lineL (if x = [] then f else f ++ 32 :: x) (l.drop (k + 1)) := by
  obtain ⟨h1, h2⟩ := List.getElem?_eq_some_iff.1 h
  rw [List.drop_eq_getElem_cons h1, h2, lineL]

def wClass : List UInt8 := [99, 108, 97, 115, 115]
def wSup : List UInt8 := [115, 117, 112, 101, 114]
def wIface : List UInt8 := [105, 102, 97, 99, 101]
def wFlags : List UInt8 := [102, 108, 97, 103, 115]
def wLoader : List UInt8 := [108, 111, 97, 100, 101, 114]
def wMethod : List UInt8 := [109, 101, 116, 104, 111, 100]
def wLocals : List UInt8 := [108, 111, 99, 97, 108, 115]
def wStack : List UInt8 := [115, 116, 97, 99, 107]
def wEnd : List UInt8 := [101, 110, 100]

/-- a method's lines, a class's lines, its text -/
def mthLs (m : Mth) : List (List UInt8) := lineL wMethod [m.nm.data.toList, m.ds.data.toList, textF m.fl mthP] :: lineL wLocals [Lib.itoa m.lo] :: lineL wStack [Lib.itoa m.st] :: m.code.map prtI
def clsLs (c : Cls) : List (List UInt8) :=
  [lineL wClass [c.nm.data.toList], lineL wSup [c.su.data.toList]] ++ c.ifs.map (fun p => lineL wIface [p]) ++ [lineL wFlags [textF c.fl clsP], lineL wLoader [Lib.itoa c.ld]] ++ c.ms.flatMap mthLs ++ [wEnd]
def clsT (c : Cls) : List UInt8 := (clsLs c).flatMap (· ++ [10])

theorem jn_cons2 (x y : List UInt8) (r : List (List UInt8)) (sep : List UInt8) : Lib.join (x :: y :: r) sep = x ++ sep ++ Lib.join (y :: r) sep := by
  simp [Lib.join, List.intercalate]
theorem join_ends (L : List (List UInt8)) : Lib.join (L ++ [[]]) [10] = L.flatMap (· ++ [10]) := by
  induction L with
  | nil => rfl
  | cons x r ih =>
    cases r with
    | nil => simp [Lib.join, List.intercalate]
    | cons y r =>
      rw [List.cons_append, List.cons_append, jn_cons2, ← List.cons_append, ih]
      simp

theorem textF_len (f : Int) (ps : List (Int × List UInt8)) (h : ∀ p ∈ ps, p.2.length ≤ 20) (hl : ps.length ≤ 100) : (textF f ps).length ≤ 2100 := by
  unfold textF
  split
  · have := join_small f ps h; omega
  · simp

theorem prt_len {i : Ins} (h : ickI i = 0) : (prtI i).length ≤ 9000 := by
  have h2 : i.t.size ≤ 2000 := ick_type h
  have hw := word_len i.op
  have hrx := rtx_size i.b i.c.data.toList i.m.data.toList i.d.data.toList
  rw [mk_size] at hrx
  have hl : i.t.data.toList.length = i.t.size := by simp
  have hr : (restL (opdI i.op) i.n i.t.data.toList (rtxL i.b i.c.data.toList i.m.data.toList i.d.data.toList)).length ≤ 8000 := by
    rcases sound_shape h with ⟨hk, _⟩ | ⟨hk, hn, _⟩ | ⟨hk, _, _⟩ | ⟨hk, hn, _, _⟩ | ⟨hk, _, _⟩
    · rw [hk]; show ([] : List UInt8).length ≤ 8000; simp
    · rw [restL, if_pos hk]
      have := Lib.itoa_length_le i.n (by omega) (by omega)
      rw [List.length_cons]; omega
    · rw [restL, if_neg (by omega), if_pos hk, List.length_cons]; omega
    · rw [restL, if_neg (by omega), if_neg (by omega), if_pos hk]
      have := Lib.itoa_length_le i.n (by omega) (by omega)
      rw [List.length_cons, List.length_append, List.length_cons]; omega
    · rw [restL, if_neg (by omega), if_neg (by omega), if_neg (by omega), if_pos hk, List.length_cons]; omega
  rw [prt_form h, List.length_append]
  omega

theorem line_len (f : List UInt8) (l : List (List UInt8)) : (lineL f l).length ≤ f.length + (l.map fun p => p.length + 1).sum := by
  induction l generalizing f with
  | nil => simp [lineL]
  | cons p r ih =>
    rw [lineL]
    refine Nat.le_trans (ih _) ?_
    split <;> simp <;> omega

/-- what is sound of a method, as facts -/
structure MthS (m : Mth) : Prop where
  mem : memberL m.nm.data.toList = true
  desc : pdE m.ds.data.toList = 0
  lo : 0 ≤ m.lo ∧ m.lo ≤ 40
  st : 0 ≤ m.st ∧ m.st ≤ 40
  num : m.code.length ≤ 200
  ins : ∀ i ∈ m.code, ickI i = 0

theorem all_ins {l : List Ins} {lo : Int} (h : (allE l lo == 0) = true) : l.length ≤ 200 ∧ ∀ i ∈ l, ickI i = 0 := by
  unfold allE at h
  split at h
  · exact absurd h (by decide)
  · rename_i h1
    split at h
    · exact absurd h (by decide)
    · rename_i h2
      refine ⟨by omega, fun i hi => ?_⟩
      simp only [Bool.not_eq_true, List.any_eq_false] at h2
      have := h2 i hi
      simp [badI] at this
      exact this.1.1

theorem wds_nonneg (ds : List UInt8) (fl : Int) : 0 ≤ wdsN ds fl := by
  unfold wdsN
  split
  · split <;> omega
  · omega

theorem mth_sound {m : Mth} {iface : Bool} (h : mthB m iface = true) : MthS m := by
  unfold mthB at h
  simp only [Bool.and_eq_true] at h
  obtain ⟨⟨⟨⟨h1, _⟩, h3⟩, _⟩, h5⟩ := h
  have hd : pdE m.ds.data.toList = 0 := by simpa using h3
  split at h5
  · simp only [Bool.and_eq_true, beq_iff_eq] at h5
    obtain ⟨⟨l0, s0⟩, c0⟩ := h5
    have hc : m.code = [] := List.eq_nil_of_length_eq_zero (by omega)
    exact ⟨h1, hd, by omega, by omega, by rw [hc]; simp, fun i hi => by rw [hc] at hi; simp at hi⟩
  · simp only [Bool.and_eq_true, Bool.not_eq_true', decide_eq_false_iff_not] at h5
    obtain ⟨⟨⟨⟨a1, a2⟩, a3⟩, a4⟩, a5⟩ := h5
    have := wds_nonneg m.ds.data.toList m.fl
    obtain ⟨b1, b2⟩ := all_ins a5
    exact ⟨h1, hd, by omega, by omega, b1, b2⟩

theorem mths_sound {iface : Bool} {all l : List Mth} {k : Nat} (h : mthsB iface all l k = true) : ∀ m ∈ l, MthS m := by
  induction l generalizing k with
  | nil => intro m hm; simp at hm
  | cons x r ih =>
    rw [mthsB] at h
    simp only [Bool.and_eq_true] at h
    intro m hm
    rcases List.mem_cons.1 hm with rfl | hm
    · exact mth_sound h.1.1
    · exact ih h.2 m hm

theorem ifs_sound {nm : List UInt8} {pre l : List (List UInt8)} (h : ifsB nm pre l = true) : ∀ p ∈ l, validL p = true := by
  induction l generalizing pre with
  | nil => intro p hp; simp at hp
  | cons x r ih =>
    rw [ifsB] at h
    simp only [Bool.and_eq_true] at h
    intro p hp
    rcases List.mem_cons.1 hp with rfl | hp
    · exact h.1.1.1
    · exact ih h.2 p hp

/-- what is sound of a class, as facts -/
structure ClsS (c : Cls) : Prop where
  nm : validL c.nm.data.toList = true
  su : validL c.su.data.toList = true
  nif : c.ifs.length ≤ 20
  ifs : ∀ p ∈ c.ifs, validL p = true
  ld : 0 ≤ c.ld ∧ c.ld ≤ 9
  nms : c.ms.length ≤ 40
  ms : ∀ m ∈ c.ms, MthS m

theorem cls_sound {c : Cls} (h : clsB c = true) : ClsS c := by
  unfold clsB at h
  simp only [Bool.and_eq_true, Bool.not_eq_true', decide_eq_false_iff_not] at h
  obtain ⟨⟨⟨⟨⟨⟨⟨⟨⟨h1, h2⟩, _⟩, h4⟩, h5⟩, h6⟩, h7⟩, _⟩, h9⟩, h10⟩ := h
  exact ⟨h1, h2, by omega, ifs_sound h9, by omega, by omega, mths_sound h10⟩

theorem val_ne {l : List UInt8} (h : validL l = true) : l ≠ [] ∧ l.length ≤ 60 := by
  unfold validL at h
  rw [Bool.and_eq_true, decide_eq_true_eq] at h
  refine ⟨?_, h.1⟩
  rintro rfl
  exact absurd h.2 (by decide)

theorem flat_len (L : List (List UInt8)) (B : Nat) (h : ∀ x ∈ L, x.length ≤ B) : (L.flatMap (· ++ [10])).length ≤ L.length * (B + 1) := by
  induction L with
  | nil => simp
  | cons x r ih =>
    rw [List.flatMap_cons, List.length_append, List.length_append, List.length_cons, List.length_cons]
    have h1 := h x (List.mem_cons_self ..)
    have h2 := ih fun y hy => h y (List.mem_cons_of_mem _ hy)
    rw [Nat.succ_mul]
    simp only [List.length_nil]
    omega

theorem itoa_small {n : Int} (h : 0 ≤ n ∧ n ≤ 40) : (Lib.itoa n).length ≤ 21 := Lib.itoa_length_le n (by omega) (by omega)

theorem mthP_small : ∀ p ∈ mthP, p.2.length ≤ 20 := by decide
theorem clsP_small : ∀ p ∈ clsP, p.2.length ≤ 20 := by decide

theorem mthLs_len {m : Mth} (h : MthS m) : (mthLs m).length ≤ 203 ∧ ∀ x ∈ mthLs m, x.length ≤ 10000 := by
  constructor
  · have := h.num; simp [mthLs]; omega
  · intro x hx
    have e1 := textF_len m.fl mthP mthP_small (by decide)
    have e2 := member_len h.mem
    have e3 := pd_len h.desc
    have e4 := itoa_small h.lo
    have e5 := itoa_small h.st
    rw [mthLs] at hx
    rcases List.mem_cons.1 hx with rfl | hx
    · have := line_len wMethod [m.nm.data.toList, m.ds.data.toList, textF m.fl mthP]
      simp [wMethod] at this
      simp at e1 e2 e3
      have h6 : m.nm.data.toList.length = m.nm.data.size := by simp
      have h7 : m.ds.data.toList.length = m.ds.data.size := by simp
      simp only [wMethod]
      omega
    rcases List.mem_cons.1 hx with rfl | hx
    · have := line_len wLocals [Lib.itoa m.lo]
      simp [wLocals] at this
      simp only [wLocals]
      omega
    rcases List.mem_cons.1 hx with rfl | hx
    · have := line_len wStack [Lib.itoa m.st]
      simp [wStack] at this
      simp only [wStack]
      omega
    · obtain ⟨i, hi, rfl⟩ := List.mem_map.1 hx
      have := prt_len (h.ins i hi)
      omega

theorem flatMap_len {α β : Type} (l : List α) (f : α → List β) (B : Nat) (h : ∀ a ∈ l, (f a).length ≤ B) : (l.flatMap f).length ≤ l.length * B := by
  induction l with
  | nil => simp
  | cons x r ih =>
    rw [List.flatMap_cons, List.length_append, List.length_cons, Nat.succ_mul]
    have h1 := h x (List.mem_cons_self ..)
    have h2 := ih fun y hy => h y (List.mem_cons_of_mem _ hy)
    omega

theorem clsLs_len {c : Cls} (h : ClsS c) : (clsLs c).length ≤ 9000 ∧ ∀ x ∈ clsLs c, x.length ≤ 10000 := by
  have hm : (c.ms.flatMap mthLs).length ≤ c.ms.length * 203 := flatMap_len _ _ _ fun m hm => (mthLs_len (h.ms m hm)).1
  have hn := h.nms
  have hi := h.nif
  constructor
  · simp [clsLs] at hm ⊢
    omega
  · intro x hx
    have e1 := textF_len c.fl clsP clsP_small (by decide)
    have e2 := (val_ne h.nm).2
    have e3 := (val_ne h.su).2
    have e4 : (Lib.itoa c.ld).length ≤ 21 := Lib.itoa_length_le c.ld (by have := h.ld; omega) (by have := h.ld; omega)
    simp only [clsLs, List.mem_append, List.mem_cons, List.not_mem_nil, or_false, List.mem_map, List.mem_flatMap] at hx
    rcases hx with ((((rfl | rfl) | ⟨p, hp, rfl⟩) | (rfl | rfl)) | ⟨m, hm, hx⟩) | rfl
    · have := line_len wClass [c.nm.data.toList]
      simp only [List.map_cons, List.map_nil, List.sum_cons, List.sum_nil] at this
      have hw : wClass.length = 5 := rfl
      omega
    · have := line_len wSup [c.su.data.toList]
      simp only [List.map_cons, List.map_nil, List.sum_cons, List.sum_nil] at this
      have hw : wSup.length = 5 := rfl
      omega
    · have := line_len wIface [p]
      simp only [List.map_cons, List.map_nil, List.sum_cons, List.sum_nil] at this
      have hw : wIface.length = 5 := rfl
      have := (val_ne (h.ifs p hp)).2
      omega
    · have := line_len wFlags [textF c.fl clsP]
      simp only [List.map_cons, List.map_nil, List.sum_cons, List.sum_nil] at this
      have hw : wFlags.length = 5 := rfl
      omega
    · have := line_len wLoader [Lib.itoa c.ld]
      simp only [List.map_cons, List.map_nil, List.sum_cons, List.sum_nil] at this
      have hw : wLoader.length = 6 := rfl
      omega
    · exact (mthLs_len (h.ms m hm)).2 x hx
    · decide

theorem clsT_len {c : Cls} (h : ClsS c) : (clsT c).length ≤ 100000000 := by
  obtain ⟨h1, h2⟩ := clsLs_len h
  have := flat_len (clsLs c) 10000 h2
  have : (clsLs c).length * (10000 + 1) ≤ 9000 * (10000 + 1) := Nat.mul_le_mul_right _ h1
  unfold clsT
  omega


/-- a text's first word, and what is left from the first blank on -/
def fstW (l : List UInt8) : List UInt8 := l.takeWhile (· != 32)
def restW (l : List UInt8) : List UInt8 := l.dropWhile (· != 32)

theorem fst_rest (l : List UInt8) : fstW l ++ restW l = l := List.takeWhile_append_dropWhile
theorem fst_free (l : List UInt8) : (32 : UInt8) ∉ fstW l := by
  induction l with
  | nil => simp [fstW]
  | cons x l ih =>
    rw [fstW, List.takeWhile_cons]
    split
    · rename_i h
      intro m
      rcases List.mem_cons.1 m with e | m
      · rw [← e] at h; simp at h
      · exact ih m
    · simp
theorem rest_head (l : List UInt8) : restW l = [] ∨ ∃ r, restW l = 32 :: r := by
  induction l with
  | nil => exact .inl rfl
  | cons x l ih =>
    rw [restW, List.dropWhile_cons]
    split
    · exact ih
    · rename_i h
      simp at h
      exact .inr ⟨l, by rw [h]⟩
theorem cut_none {l : List UInt8} (h : restW l = []) : cutL 32 l = [l] := by
  apply cutL_free
  have := fst_rest l
  rw [h, List.append_nil] at this
  rw [← this]; exact fst_free l
theorem fst_none {l : List UInt8} (h : restW l = []) : fstW l = l := by
  have := fst_rest l
  rwa [h, List.append_nil] at this
theorem cut_some {l r : List UInt8} (h : restW l = 32 :: r) : cutL 32 l = fstW l :: cutL 32 r := by
  have := fst_rest l
  rw [h] at this
  conv => lhs; rw [← this]
  exact cutL_cut 32 _ _ (fst_free l)
theorem fst_app {w : List UInt8} (hw : (32 : UInt8) ∉ w) (r : List UInt8) : fstW (w ++ 32 :: r) = w ∧ restW (w ++ 32 :: r) = 32 :: r := by
  induction w with
  | nil => simp [fstW, restW]
  | cons x w ih =>
    have hx : x ≠ 32 := fun e => hw (by simp [e])
    obtain ⟨h1, h2⟩ := ih (fun m => hw (List.mem_cons_of_mem _ m))
    constructor
    · rw [List.cons_append, fstW, List.takeWhile_cons, if_pos (by simpa using hx)]
      exact congrArg (x :: ·) h1
    · rw [List.cons_append, restW, List.dropWhile_cons, if_pos (by simpa using hx)]
      exact h2
theorem fst_all {w : List UInt8} (hw : (32 : UInt8) ∉ w) : fstW w = w ∧ restW w = [] := by
  induction w with
  | nil => exact ⟨rfl, rfl⟩
  | cons x w ih =>
    have hx : x ≠ 32 := fun e => hw (by simp [e])
    obtain ⟨h1, h2⟩ := ih (fun m => hw (List.mem_cons_of_mem _ m))
    constructor
    · rw [fstW, List.takeWhile_cons, if_pos (by simpa using hx)]
      exact congrArg (x :: ·) h1
    · rw [restW, List.dropWhile_cons, if_pos (by simpa using hx)]
      exact h2

/-- does a line begin with this word (the line's end or a blank behind it)? -/
def cwB (l w : List UInt8) : Bool := w.isPrefixOf l && ((l.drop w.length).isEmpty || ((l.drop w.length).head? == some 32))
theorem cw_fst {w : List UInt8} (hw : (32 : UInt8) ∉ w) (l : List UInt8) : cwB l w = (fstW l == w) := by
  rw [Bool.eq_iff_iff]
  constructor
  · intro h
    simp only [cwB, Bool.and_eq_true, Bool.or_eq_true, List.isPrefixOf_iff_prefix, List.isEmpty_iff, beq_iff_eq] at h
    obtain ⟨⟨r, rfl⟩, h2⟩ := h
    rw [List.drop_left] at h2
    rw [beq_iff_eq]
    rcases h2 with rfl | h2
    · rw [List.append_nil]; exact (fst_all hw).1
    · cases r with
      | nil => simp at h2
      | cons x r => simp at h2; subst h2; exact (fst_app hw r).1
  · intro h
    rw [beq_iff_eq] at h
    have e := fst_rest l
    rw [h] at e
    simp only [cwB, Bool.and_eq_true, Bool.or_eq_true, List.isPrefixOf_iff_prefix, List.isEmpty_iff, beq_iff_eq]
    refine ⟨⟨_, e⟩, ?_⟩
    rw [← e, List.drop_left]
    rcases rest_head l with h2 | ⟨r, h2⟩
    · exact .inl h2
    · exact .inr (by rw [h2]; rfl)
theorem cw_rest {l w : List UInt8} (h : fstW l = w) : l.drop w.length = restW l := by
  have e := fst_rest l
  rw [h] at e
  rw [← e, List.drop_left]; rw [e]

/-- what the package reads of a line: this word, a blank, one text more -/
def rnB (l w : List UInt8) : Bool := (fstW l == w) && !((restW l).drop 1 == []) && (restW ((restW l).drop 1) == [])
def rnS (l w : List UInt8) : List UInt8 := if rnB l w then (restW l).drop 1 else []
/-- flags behind a line's words: none at all, or a blank and words that are taken -/
def fgB (ps : List (Int × List UInt8)) (rest : List UInt8) : Bool := (rest == []) || (!(rest.drop 1 == []) && (parX ps (rest.drop 1) == 0))
def fgN (ps : List (Int × List UInt8)) (rest : List UInt8) : Int := if rest == [] then 0 else parF ps (rest.drop 1)

theorem head_cut (l : List UInt8) : (cutL 32 l).getD 0 [] = fstW l ∧ (cutL 32 l).headD [] = fstW l := by
  rcases rest_head l with h | ⟨r, h⟩
  · rw [cut_none h, fst_none h]; exact ⟨rfl, rfl⟩
  · rw [cut_some h]; exact ⟨rfl, rfl⟩
/-- a method's line: its name, its descriptor, what is left -/
def mlN (l : List UInt8) : List UInt8 := fstW ((restW l).drop 1)
def mlR (l : List UInt8) : List UInt8 := restW ((restW l).drop 1)
def mlD (l : List UInt8) : List UInt8 := fstW ((mlR l).drop 1)
def mlF (l : List UInt8) : List UInt8 := restW ((mlR l).drop 1)
def mlB (l : List UInt8) : Bool := !(mlN l == []) && !(mlD l == []) && fgB mthP (mlF l)
/-- no instruction begins with the word of a method or of the end -/
theorem no_op {l w : List UInt8} (h : fstW l = w) (h0 : opOf w = 0) : docP l = none := by
  rw [docP, (head_cut l).2, h, h0, show opdI ((0 : Nat) : Int) = -1 by decide +kernel, parI, candI, if_pos (.inl rfl)]
  by_cases hl : (cutL 32 l).length = 1
  · rw [if_pos hl]
    exact if_neg (by decide +kernel)
  · rw [if_neg hl]
theorem op_method : opOf wMethod = 0 := by decide +kernel
theorem op_end : opOf wEnd = 0 := by decide +kernel

/-- the last of the methods, changed -/
def lastM (f : Mth → Mth) : List Mth → List Mth
  | [] => []
  | [m] => [f m]
  | m :: r => m :: lastM f r
/-- a method or the end -/
def stepM (c : Cls) (l : List UInt8) : Option (Nat × Cls) :=
  if l == wEnd then some (8, c) else if (fstW l == wMethod) && mlB l then some (5, { c with ms := c.ms ++ [⟨⟨(mlN l).toArray⟩, ⟨(mlD l).toArray⟩, fgN mthP (mlF l), 0, 0, []⟩] }) else none
/-- a line, taken in a state (0 to 8) by what was read before it -/
def stepC (st : Nat) (c : Cls) (l : List UInt8) : Option (Nat × Cls) :=
  if st = 0 then (if rnB l wClass then some (1, { c with nm := ⟨(rnS l wClass).toArray⟩ }) else none)
  else if st = 1 then (if rnB l wSup then some (2, { c with su := ⟨(rnS l wSup).toArray⟩ }) else none)
  else if st = 2 then (if rnB l wIface then some (2, { c with ifs := c.ifs ++ [rnS l wIface] }) else if (fstW l == wFlags) && fgB clsP (restW l) then some (3, { c with fl := fgN clsP (restW l) }) else none)
  else if st = 3 then (if rnB l wLoader && num9 (rnS l wLoader) then some (4, { c with ld := (numR (rnS l wLoader)).1 }) else none)
  else if st = 4 then stepM c l
  else if st = 5 then (if rnB l wLocals && num9 (rnS l wLocals) then some (6, { c with ms := lastM (fun m => { m with lo := (numR (rnS l wLocals)).1 }) c.ms }) else none)
  else if st = 6 then (if rnB l wStack && num9 (rnS l wStack) then some (7, { c with ms := lastM (fun m => { m with st := (numR (rnS l wStack)).1 }) c.ms }) else none)
  else if st = 7 then (match docP l with
    | some i => some (7, { c with ms := lastM (fun m => { m with code := m.code ++ [i] }) c.ms })
    | none => stepM c l)
  else none
def zeroC : Cls := ⟨⟨#[]⟩, ⟨#[]⟩, [], 0, 0, []⟩
/-- all the lines, the last piece among them: the class, or the number of the line at fault -/
def runL : Nat → Cls → List (List UInt8) → Nat → Option Cls × Nat
  | _, _, [], n => (none, n)
  | st, c, [x], n => if (st == 8) && (x == []) then (some c, 0) else (none, n)
  | st, c, l :: r, n => match stepC st c l with
    | none => (none, n)
    | some (st', c') => runL st' c' r (n + 1)
/-- what is read of a text: the class, the line, the error -/
def parC (s : List UInt8) : Cls × Nat × Int :=
  if 40000 < s.length then (zeroC, 0, 5) else match runL 0 zeroC (cutL 10 s) 1 with
    | (none, n) => (zeroC, n, 4)
    | (some c, _) => if clsB c then (c, 0, 0) else (zeroC, 0, 1)


/-- no byte 10 -/
def ten (l : List UInt8) : Prop := ∀ c ∈ l, c ≠ 10
theorem ten_not {l : List UInt8} (h : ten l) : (10 : UInt8) ∉ l := fun m => h 10 m rfl
theorem ten_app {a b : List UInt8} (ha : ten a) (hb : ten b) : ten (a ++ b) := fun c hc => (List.mem_append.1 hc).elim (ha c) (hb c)
theorem ten_cons {x : UInt8} {b : List UInt8} (hx : x ≠ 10) (hb : ten b) : ten (x :: b) := fun c hc => (List.mem_cons.1 hc).elim (fun e => e ▸ hx) (hb c)
theorem ten_nil : ten [] := fun c hc => by cases hc
theorem word_ten {c : UInt8} (h : wordB c = true) : c ≠ 10 := by rintro rfl; revert h; decide
theorem valid_ten {l : List UInt8} (h : validL l = true) : ten l := fun c hc => by
  rcases valid_bytes h c hc with rfl | e
  · decide
  · exact word_ten e
theorem write_ten {t : Nat × List UInt8} (h : namedT t = true) : ten (writeT t) := by
  unfold writeT
  refine ten_app (fun c hc => ?_) ?_
  · obtain rfl := List.eq_of_mem_replicate hc
    decide
  · split
    · exact ten_cons (by decide) ten_nil
    · rename_i hne
      unfold namedT at h
      simp only [Bool.or_eq_true, beq_iff_eq] at h
      rcases h with h | h
      · exact absurd h hne
      · exact ten_cons (by decide) (ten_app (valid_ten h) (ten_cons (by decide) ten_nil))
theorem par_ten {l : List UInt8} (h : parE l = 0) : ten l := by
  obtain ⟨t, rfl, ht⟩ := par_text h
  exact write_ten ht
theorem prf_ten {l : List UInt8} (h : prfE l = 0) : ten l := by
  unfold prfE at h
  split at h
  · simp at h
  · split at h
    · exact par_ten h
    · split at h
      · rename_i hv
        exact valid_ten hv
      · simp at h
theorem member_ten {l : List UInt8} (h : memberL l = true) : ten l := by
  unfold memberL at h
  simp only [Bool.or_eq_true, Bool.and_eq_true, decide_eq_true_eq, beq_iff_eq] at h
  rcases h with rfl | ⟨_, h⟩
  · intro c hc
    simp [initL] at hc
    rcases hc with rfl | rfl | rfl | rfl | rfl | rfl <;> decide
  · exact fun c hc => word_ten (part_all h c hc)
theorem args_ten {ts : List (Nat × List UInt8)} (h : ∀ t ∈ ts, namedT t = true) : ten (writeArgs ts) := by
  intro c hc
  unfold writeArgs at hc
  obtain ⟨l, hl, hcl⟩ := List.mem_flatten.1 hc
  obtain ⟨t, ht, rfl⟩ := List.mem_map.1 hl
  exact write_ten (h t ht) c hcl
theorem pd_ten {l : List UInt8} (h : pdE l = 0) : ten l := by
  unfold pdE at h
  split at h
  · simp at h
  · split at h
    · simp at h
    · rename_i d e
      obtain ⟨rfl, h1, h2⟩ := writeD_read e
      unfold writeD
      refine ten_cons (by decide) (ten_app (args_ten h1) (ten_cons (by decide) ?_))
      cases hd : d.2 with
      | none => exact ten_cons (by decide) ten_nil
      | some t => exact write_ten (h2 t hd)
theorem dig_ten {l : List UInt8} (h : l.all isDig = true) : ten l := fun c hc => by
  have := List.all_eq_true.1 h c hc
  rintro rfl; revert this; decide
theorem itoa_ten (n : Int) : ten (Lib.itoa n) := by
  unfold Lib.itoa
  split
  · exact ten_cons (by decide) (dig_ten (dec_digits _).1)
  · exact dig_ten (dec_digits _).1
theorem rtx_ten {b : Bool} {c n d : List UInt8} (h : rckB c n d = true) : ten (rtxL b c n d) := by
  rw [rtxL, h, if_pos rfl]
  unfold rckB at h
  simp only [Bool.and_eq_true, beq_iff_eq] at h
  obtain ⟨⟨hc, hn⟩, hd⟩ := h
  exact ten_app (prf_ten hc) (ten_cons (by cases b <;> decide) (ten_app (member_ten hn) (pd_ten hd)))
theorem words_ten (op : Int) : ten (wordL op) := by
  have h : ∀ x ∈ wordsL, ∀ c ∈ x, c ≠ (10 : UInt8) := by decide
  unfold wordL
  rw [List.getD_eq_getElem?_getD]
  cases e : wordsL[op.toNat]? with
  | none => exact ten_nil
  | some x => exact h x (List.mem_of_getElem? e)
theorem prt_ten {i : Ins} (h : ickI i = 0) : ten (prtI i) := by
  have hi := ick_ins h
  rw [prt_form h]
  refine ten_app (words_ten _) ?_
  unfold insB at hi
  rcases opd_cases i.op with e | e | e | e | e | e | e | e | e | e <;> rw [e] at hi ⊢ <;> simp only [Bool.and_eq_true, beq_iff_eq, decide_eq_true_eq, Int.reduceEq, if_true, if_false, Int.reduceNeg] at hi
  · exact absurd hi (by decide)
  · exact ten_nil
  · exact ten_cons (by decide) (itoa_ten _)
  · exact ten_cons (by decide) (itoa_ten _)
  · exact ten_cons (by decide) (itoa_ten _)
  · exact ten_cons (by decide) (valid_ten hi.2)
  · exact ten_cons (by decide) (prf_ten hi.2)
  · exact ten_cons (by decide) (par_ten hi.1.2)
  · exact ten_cons (by decide) (ten_app (itoa_ten _) (ten_cons (by decide) (prf_ten hi.1.1.2)))
  · exact ten_cons (by decide) (rtx_ten hi.2)
theorem cls_ten : ∀ q ∈ sums clsP, ∀ c ∈ Lib.join q.2 [32], c ≠ (10 : UInt8) := by decide +kernel
theorem mth_ten : ∀ q ∈ sums mthP, ∀ c ∈ Lib.join q.2 [32], c ≠ (10 : UInt8) := by decide +kernel
theorem textC_ten {f : Int} (h : onlyB f clsP = true) : ten (textF f clsP) := by
  rw [textF, if_pos h]; exact cls_ten _ (only_sums h)
theorem textM_ten {f : Int} (h : onlyB f mthP = true) : ten (textF f mthP) := by
  rw [textF, if_pos h]; exact mth_ten _ (only_sums h)
theorem line_ten {w : List UInt8} {l : List (List UInt8)} (hw : ten w) (hl : ∀ p ∈ l, ten p) : ten (lineL w l) := by
  induction l generalizing w with
  | nil => exact hw
  | cons p r ih =>
    rw [lineL]
    refine ih ?_ fun q hq => hl q (List.mem_cons_of_mem _ hq)
    split
    · exact hw
    · exact ten_app hw (ten_cons (by decide) (hl p (List.mem_cons_self ..)))

theorem cut_lines {L : List (List UInt8)} (h : ∀ x ∈ L, ten x) : cutL 10 (L.flatMap (· ++ [10])) = L ++ [[]] := by
  induction L with
  | nil => rfl
  | cons x r ih =>
    rw [List.flatMap_cons, List.append_assoc, List.cons_append, List.nil_append, cutL_cut 10 x _ (ten_not (h x (List.mem_cons_self ..))), ih fun y hy => h y (List.mem_cons_of_mem _ hy), List.cons_append]

theorem blank_not {w : List UInt8} (h : clean w) : (32 : UInt8) ∉ w := clean_blank h
def optT (l : List UInt8) : List UInt8 := if l = [] then [] else 32 :: l
theorem line1 (w p : List UInt8) : lineL w [p] = w ++ optT p := by
  simp only [lineL, optT]; split <;> simp
theorem opt_some {p : List UInt8} (h : p ≠ []) : optT p = 32 :: p := if_neg h

/-- a word, a blank, one text: read as this text -/
theorem rn_line {w p : List UInt8} (hw : (32 : UInt8) ∉ w) (hp : p ≠ []) (hb : (32 : UInt8) ∉ p) : rnB (lineL w [p]) w = true ∧ rnS (lineL w [p]) w = p := by
  rw [line1, opt_some hp]
  obtain ⟨h1, h2⟩ := fst_app hw p
  have h : rnB (w ++ 32 :: p) w = true := by
    rw [rnB, h1, h2]
    have h3 := (fst_all hb).2
    simp [hp, h3]
  exact ⟨h, by rw [rnS, if_pos h, h2]; rfl⟩
theorem fst_opt {w t : List UInt8} (hw : (32 : UInt8) ∉ w) : fstW (w ++ optT t) = w ∧ restW (w ++ optT t) = optT t := by
  unfold optT
  split
  · rw [List.append_nil]; exact fst_all hw
  · exact fst_app hw t
theorem fg_opt {f : Int} {ps : List (Int × List UInt8)} (g : Good ps) (h : onlyB f ps = true) : fgB ps (optT (textF f ps)) = true ∧ fgN ps (optT (textF f ps)) = f := by
  have hr := read_text g h
  unfold optT
  split
  · rename_i e
    rw [e, readF, if_pos rfl] at hr
    exact ⟨rfl, Option.some.inj hr⟩
  · rename_i e
    have e1 : (32 :: textF f ps == ([] : List UInt8)) = false := rfl
    have e2 : (textF f ps == []) = false := by rw [beq_eq_false_iff_ne]; exact e
    constructor
    · rw [fgB, e1]; simp [parX, hr, e]
    · rw [fgN, e1]; simp [parF, hr]
theorem itoa_40 {n : Int} (h : 0 ≤ n ∧ n ≤ 40) : Lib.itoa n ≠ [] ∧ (Lib.itoa n).length ≤ 9 := by
  obtain ⟨h1, h2⟩ := h
  have : ∀ k : Fin 41, Lib.itoa (k.val : Int) ≠ [] ∧ (Lib.itoa (k.val : Int)).length ≤ 9 := by decide +kernel
  have h3 := this ⟨n.toNat, by omega⟩
  rwa [show (((⟨n.toNat, by omega⟩ : Fin 41).val : Nat) : Int) = n by simp; omega] at h3
theorem num_40 {n : Int} (h : 0 ≤ n ∧ n ≤ 40) : num9 (Lib.itoa n) = true ∧ (numR (Lib.itoa n)).1 = n := by
  have h1 := num_itoa n (by omega) (by omega)
  have h2 := (itoa_40 h).2
  rw [num9, h1]
  refine ⟨?_, rfl⟩
  simp; omega

theorem runL_cons {st : Nat} {c : Cls} {l : List UInt8} {r : List (List UInt8)} {n : Nat} (hr : r ≠ []) : runL st c (l :: r) n = match stepC st c l with
    | none => (none, n)
    | some (st', c') => runL st' c' r (n + 1) := by
  cases r with
  | nil => exact absurd rfl hr
  | cons x r => rfl
theorem runL_step {st st' : Nat} {c c' : Cls} {l : List UInt8} {r : List (List UInt8)} {n : Nat} (hr : r ≠ []) (h : stepC st c l = some (st', c')) : runL st c (l :: r) n = runL st' c' r (n + 1) := by
  rw [runL_cons hr, h]

theorem w_free : (32 : UInt8) ∉ wClass ∧ (32 : UInt8) ∉ wSup ∧ (32 : UInt8) ∉ wIface ∧ (32 : UInt8) ∉ wFlags ∧ (32 : UInt8) ∉ wLoader ∧ (32 : UInt8) ∉ wMethod ∧ (32 : UInt8) ∉ wLocals ∧ (32 : UInt8) ∉ wStack := by decide

theorem run_ifs (L r : List (List UInt8)) (c : Cls) (n : Nat) (hr : r ≠ []) (h : ∀ p ∈ L, validL p = true) :
    runL 2 c (L.map (fun p => lineL wIface [p]) ++ r) n = runL 2 { c with ifs := c.ifs ++ L } r (n + L.length) := by
  induction L generalizing c n with
  | nil => simp
  | cons p L ih =>
    have hv := h p (List.mem_cons_self ..)
    obtain ⟨h1, h2⟩ := rn_line w_free.2.2.1 (val_ne hv).1 (blank_not (valid_clean hv))
    rw [List.map_cons, List.cons_append, runL_step (by simp [hr]) (show stepC 2 c (lineL wIface [p]) = some (2, { c with ifs := c.ifs ++ [p] }) by simp [stepC, h1, h2]), ih _ _ fun q hq => h q (List.mem_cons_of_mem _ hq)]
    congr 1
    · simp
    · simp; omega

theorem last_app (f : Mth → Mth) (l : List Mth) (m : Mth) : lastM f (l ++ [m]) = l ++ [f m] := by
  induction l with
  | nil => rfl
  | cons x l ih =>
    cases l with
    | nil => rfl
    | cons y l =>
      show x :: lastM f (y :: (l ++ [m])) = _
      rw [← List.cons_append, ih]; rfl

theorem run_code (L : List Ins) (r : List (List UInt8)) (c : Cls) (pre : List Mth) (m : Mth) (n : Nat) (hr : r ≠ []) (h : ∀ i ∈ L, ickI i = 0) :
    runL 7 { c with ms := pre ++ [m] } (L.map prtI ++ r) n = runL 7 { c with ms := pre ++ [{ m with code := m.code ++ L }] } r (n + L.length) := by
  induction L generalizing m n with
  | nil => simp
  | cons i L ih =>
    have hd := doc_back (h i (List.mem_cons_self ..))
    rw [List.map_cons, List.cons_append, runL_step (by simp [hr]) (show stepC 7 { c with ms := pre ++ [m] } (prtI i) = some (7, { c with ms := pre ++ [{ m with code := m.code ++ [i] }] }) by simp [stepC, hd, last_app]), ih _ _ fun q hq => h q (List.mem_cons_of_mem _ hq)]
    congr 1
    · simp
    · simp; omega

/-- what the lines of a method want of it -/
structure MthR (m : Mth) : Prop extends MthS m where
  only : onlyB m.fl mthP = true

theorem head_line {nm ds t : List UInt8} (h1 : nm ≠ []) (h2 : ds ≠ []) : lineL wMethod [nm, ds, t] = wMethod ++ 32 :: (nm ++ 32 :: (ds ++ optT t)) := by
  simp only [lineL, if_neg h1, if_neg h2, optT]; split <;> simp
theorem head_step {m : Mth} (h : MthR m) (c : Cls) (st : Nat) (hst : st = 4 ∨ st = 7) : stepC st c (lineL wMethod [m.nm.data.toList, m.ds.data.toList, textF m.fl mthP]) = some (5, { c with ms := c.ms ++ [⟨m.nm, m.ds, m.fl, 0, 0, []⟩] }) := by
  have hn1 : m.nm.data.toList ≠ [] := by intro e; have := h.mem; rw [e] at this; exact absurd this (by decide +kernel)
  have hd1 : m.ds.data.toList ≠ [] := by intro e; have := h.desc; rw [e] at this; exact absurd this (by decide +kernel)
  have hn2 := blank_not (member_clean h.mem)
  obtain ⟨_, _, hd2⟩ := pd_text h.desc
  rw [head_line hn1 hd1]
  obtain ⟨a1, a2⟩ := fst_app w_free.2.2.2.2.2.1 (m.nm.data.toList ++ 32 :: (m.ds.data.toList ++ optT (textF m.fl mthP)))
  obtain ⟨b1, b2⟩ := fst_app hn2 (m.ds.data.toList ++ optT (textF m.fl mthP))
  obtain ⟨d1, d2⟩ := fst_opt (t := textF m.fl mthP) hd2
  obtain ⟨g1, g2⟩ := fg_opt goodM h.only
  have e1 : mlN (wMethod ++ 32 :: (m.nm.data.toList ++ 32 :: (m.ds.data.toList ++ optT (textF m.fl mthP)))) = m.nm.data.toList := by rw [mlN, a2]; exact b1
  have e2 : mlR (wMethod ++ 32 :: (m.nm.data.toList ++ 32 :: (m.ds.data.toList ++ optT (textF m.fl mthP)))) = 32 :: (m.ds.data.toList ++ optT (textF m.fl mthP)) := by rw [mlR, a2]; exact b2
  have e3 : mlD (wMethod ++ 32 :: (m.nm.data.toList ++ 32 :: (m.ds.data.toList ++ optT (textF m.fl mthP)))) = m.ds.data.toList := by rw [mlD, e2]; exact d1
  have e4 : mlF (wMethod ++ 32 :: (m.nm.data.toList ++ 32 :: (m.ds.data.toList ++ optT (textF m.fl mthP)))) = optT (textF m.fl mthP) := by rw [mlF, e2]; exact d2
  have e5 : mlB (wMethod ++ 32 :: (m.nm.data.toList ++ 32 :: (m.ds.data.toList ++ optT (textF m.fl mthP)))) = true := by
    rw [mlB, e1, e3, e4, g1, show (m.nm.data.toList == []) = false by rw [beq_eq_false_iff_ne]; exact hn1, show (m.ds.data.toList == []) = false by rw [beq_eq_false_iff_ne]; exact hd1]; rfl
  have e6 : (wMethod ++ 32 :: (m.nm.data.toList ++ 32 :: (m.ds.data.toList ++ optT (textF m.fl mthP))) == wEnd) = false := rfl
  have e7 : stepM c (wMethod ++ 32 :: (m.nm.data.toList ++ 32 :: (m.ds.data.toList ++ optT (textF m.fl mthP)))) = some (5, { c with ms := c.ms ++ [⟨m.nm, m.ds, m.fl, 0, 0, []⟩] }) := by
    rw [stepM, e6, a1, e5, e1, e3, e4, g2, back_bytes, back_bytes]; rfl
  have e8 := no_op a1 op_method
  rcases hst with rfl | rfl
  · exact e7
  · rw [stepC]; simp only [e8]; exact e7

theorem run_mth {m : Mth} (h : MthR m) (r : List (List UInt8)) (c : Cls) (st n : Nat) (hst : st = 4 ∨ st = 7) (hr : r ≠ []) :
    runL st c (mthLs m ++ r) n = runL 7 { c with ms := c.ms ++ [m] } r (n + (mthLs m).length) := by
  obtain ⟨l1, l2⟩ := rn_line w_free.2.2.2.2.2.2.1 (itoa_40 h.lo).1 (blank_not (itoa_clean m.lo))
  obtain ⟨s1, s2⟩ := rn_line w_free.2.2.2.2.2.2.2 (itoa_40 h.st).1 (blank_not (itoa_clean m.st))
  obtain ⟨q1, q2⟩ := num_40 h.lo
  obtain ⟨q3, q4⟩ := num_40 h.st
  rw [mthLs, List.cons_append, runL_step (by simp) (head_step h c st hst), List.cons_append,
    runL_step (by simp) (show stepC 5 { c with ms := c.ms ++ [⟨m.nm, m.ds, m.fl, 0, 0, []⟩] } (lineL wLocals [Lib.itoa m.lo]) = some (6, { c with ms := c.ms ++ [⟨m.nm, m.ds, m.fl, m.lo, 0, []⟩] }) by simp [stepC, l1, l2, q1, q2, last_app]), List.cons_append,
    runL_step (by simp [hr]) (show stepC 6 { c with ms := c.ms ++ [⟨m.nm, m.ds, m.fl, m.lo, 0, []⟩] } (lineL wStack [Lib.itoa m.st]) = some (7, { c with ms := c.ms ++ [⟨m.nm, m.ds, m.fl, m.lo, m.st, []⟩] }) by simp [stepC, s1, s2, q3, q4, last_app]),
    run_code m.code r c c.ms ⟨m.nm, m.ds, m.fl, m.lo, m.st, []⟩ _ hr h.ins]
  congr 1
  simp; omega

theorem run_mths (L : List Mth) (r : List (List UInt8)) (c : Cls) (st n : Nat) (hst : st = 4 ∨ st = 7) (hr : r ≠ []) (h : ∀ m ∈ L, MthR m) :
    ∃ st', (st' = 4 ∨ st' = 7) ∧ runL st c (L.flatMap mthLs ++ r) n = runL st' { c with ms := c.ms ++ L } r (n + (L.flatMap mthLs).length) := by
  induction L generalizing c st n with
  | nil => exact ⟨st, hst, by simp⟩
  | cons m L ih =>
    obtain ⟨st', h1, h2⟩ := ih { c with ms := c.ms ++ [m] } 7 (n + (mthLs m).length) (.inr rfl) fun x hx => h x (List.mem_cons_of_mem _ hx)
    refine ⟨st', h1, ?_⟩
    rw [List.flatMap_cons, List.append_assoc, run_mth (h m (List.mem_cons_self ..)) _ c st n hst (by simp [hr]), h2]
    congr 1
    · simp
    · simp; omega

theorem mths_only {iface : Bool} {all l : List Mth} {k : Nat} (h : mthsB iface all l k = true) : ∀ m ∈ l, onlyB m.fl mthP = true := by
  induction l generalizing k with
  | nil => intro m hm; simp at hm
  | cons x r ih =>
    rw [mthsB] at h
    simp only [Bool.and_eq_true] at h
    intro m hm
    rcases List.mem_cons.1 hm with rfl | hm
    · have h1 := h.1.1
      unfold mthB at h1
      simp only [Bool.and_eq_true, beq_iff_eq] at h1
      exact chkM_only h1.1.1.1.2
    · exact ih h.2 m hm

/-- the lines of a sound class are read as it -/
theorem run_cls {c : Cls} (hb : clsB c = true) : runL 0 zeroC (clsLs c ++ [[]]) 1 = (some c, 0) := by
  have h := cls_sound hb
  have hc : chkC c.fl = 0 := by unfold clsB at hb; simp only [Bool.and_eq_true, beq_iff_eq] at hb; exact hb.1.1.2
  have ho := chkC_only hc
  have hm : ∀ m ∈ c.ms, MthR m := fun m hm => ⟨h.ms m hm, by unfold clsB at hb; simp only [Bool.and_eq_true] at hb; exact mths_only hb.2 m hm⟩
  obtain ⟨a1, a2⟩ := rn_line w_free.1 (val_ne h.nm).1 (blank_not (valid_clean h.nm))
  obtain ⟨b1, b2⟩ := rn_line w_free.2.1 (val_ne h.su).1 (blank_not (valid_clean h.su))
  have hld : 0 ≤ c.ld ∧ c.ld ≤ 40 := by have := h.ld; omega
  obtain ⟨d1, d2⟩ := rn_line w_free.2.2.2.2.1 (itoa_40 hld).1 (blank_not (itoa_clean c.ld))
  obtain ⟨n1, n2⟩ := num_40 hld
  obtain ⟨f1, f2⟩ := fst_opt (w := wFlags) (t := textF c.fl clsP) w_free.2.2.2.1
  obtain ⟨g1, g2⟩ := fg_opt goodC ho
  obtain ⟨st', hst, hrun⟩ := run_mths c.ms [wEnd, []] ⟨c.nm, c.su, c.ifs, c.fl, c.ld, []⟩ 4 (1 + 1 + 1 + c.ifs.length + 1 + 1) (.inl rfl) (by simp) hm
  have s0 : stepC 0 zeroC (lineL wClass [c.nm.data.toList]) = some (1, ⟨c.nm, ⟨#[]⟩, [], 0, 0, []⟩) := by
    simp only [stepC, a1, a2, if_true, back_bytes]; rfl
  have s1 : stepC 1 ⟨c.nm, ⟨#[]⟩, [], 0, 0, []⟩ (lineL wSup [c.su.data.toList]) = some (2, ⟨c.nm, c.su, [], 0, 0, []⟩) := by
    simp [stepC, b1, b2]
  have s2 : stepC 2 ⟨c.nm, c.su, c.ifs, 0, 0, []⟩ (lineL wFlags [textF c.fl clsP]) = some (3, ⟨c.nm, c.su, c.ifs, c.fl, 0, []⟩) := by
    have e : rnB (wFlags ++ optT (textF c.fl clsP)) wIface = false := by rw [rnB, f1]; rfl
    simp [stepC, line1, e, f1, f2, g1, g2]
  have s3 : stepC 3 ⟨c.nm, c.su, c.ifs, c.fl, 0, []⟩ (lineL wLoader [Lib.itoa c.ld]) = some (4, ⟨c.nm, c.su, c.ifs, c.fl, c.ld, []⟩) := by
    simp [stepC, d1, d2, n1, n2]
  have s4 : stepC st' ⟨c.nm, c.su, c.ifs, c.fl, c.ld, [] ++ c.ms⟩ wEnd = some (8, c) := by
    have e8 := no_op (fst_all (show (32 : UInt8) ∉ wEnd by decide)).1 op_end
    rcases hst with rfl | rfl
    · rfl
    · rw [stepC]; simp only [e8]; rfl
  have e : clsLs c ++ [[]] = lineL wClass [c.nm.data.toList] :: lineL wSup [c.su.data.toList] :: (c.ifs.map (fun p => lineL wIface [p]) ++ (lineL wFlags [textF c.fl clsP] :: lineL wLoader [Lib.itoa c.ld] :: (c.ms.flatMap mthLs ++ [wEnd, []]))) := by
    simp [clsLs]
  rw [e, runL_step (by simp) s0, runL_step (by simp) s1, run_ifs _ _ _ _ (by simp) h.ifs]
  simp only [List.nil_append]
  rw [runL_step (by simp) s2, runL_step (by simp) s3, hrun, runL_step (by simp) s4]
  rfl

theorem lines_ten {c : Cls} (hb : clsB c = true) : ∀ x ∈ clsLs c, ten x := by
  have h := cls_sound hb
  have hc : chkC c.fl = 0 := by unfold clsB at hb; simp only [Bool.and_eq_true, beq_iff_eq] at hb; exact hb.1.1.2
  have hm : ∀ m ∈ c.ms, onlyB m.fl mthP = true := by unfold clsB at hb; simp only [Bool.and_eq_true] at hb; exact mths_only hb.2
  have one : ∀ {w p : List UInt8}, ten w → ten p → ten (lineL w [p]) := fun hw hp => line_ten hw fun q hq => by simp at hq; subst hq; exact hp
  have ws : ten wClass ∧ ten wSup ∧ ten wIface ∧ ten wFlags ∧ ten wLoader ∧ ten wMethod ∧ ten wLocals ∧ ten wStack ∧ ten wEnd := by unfold ten; decide
  obtain ⟨w1, w2, w3, w4, w5, w6, w7, w8, w9⟩ := ws
  intro x hx
  simp only [clsLs, List.mem_append, List.mem_cons, List.not_mem_nil, or_false, List.mem_map, List.mem_flatMap] at hx
  rcases hx with ((((rfl | rfl) | ⟨p, hp, rfl⟩) | (rfl | rfl)) | ⟨m, hmm, hx⟩) | rfl
  · exact one w1 (valid_ten h.nm)
  · exact one w2 (valid_ten h.su)
  · exact one w3 (valid_ten (h.ifs p hp))
  · exact one w4 (textC_ten (chkC_only hc))
  · exact one w5 (itoa_ten _)
  · have hS := h.ms m hmm
    rw [mthLs] at hx
    rcases List.mem_cons.1 hx with rfl | hx
    · refine line_ten w6 fun q hq => ?_
      simp at hq
      rcases hq with rfl | rfl | rfl
      · exact member_ten hS.mem
      · exact pd_ten hS.desc
      · exact textM_ten (hm m hmm)
    rcases List.mem_cons.1 hx with rfl | hx
    · exact one w7 (itoa_ten _)
    rcases List.mem_cons.1 hx with rfl | hx
    · exact one w8 (itoa_ten _)
    · obtain ⟨i, hi, rfl⟩ := List.mem_map.1 hx
      exact prt_ten (hS.ins i hi)
  · exact w9

/-- a sound class's text is read as it -/
theorem par_back {c : Cls} (hb : clsB c = true) (hl : (clsT c).length ≤ 40000) : parC (clsT c) = (c, 0, 0) := by
  rw [parC, if_neg (by omega), clsT, cut_lines (lines_ten hb), run_cls hb]
  simp [hb]


theorem rn_form {l w : List UInt8} (h : rnB l w = true) : lineL w [rnS l w] = l := by
  have h0 := h
  rw [rnS, if_pos h0]
  simp only [rnB, Bool.and_eq_true, beq_iff_eq, Bool.not_eq_true', beq_eq_false_iff_ne] at h
  obtain ⟨⟨h1, h2⟩, _⟩ := h
  rw [line1, opt_some h2]
  rcases rest_head l with e | ⟨r, e⟩
  · rw [e] at h2; exact absurd rfl h2
  · have := fst_rest l
    rw [h1, e] at this
    rw [e]; exact this
theorem fg_form {ps : List (Int × List UInt8)} (g : Good ps) (h0 : textF 0 ps = []) {rest : List UInt8} (hr : rest = [] ∨ ∃ r, rest = 32 :: r) (h : fgB ps rest = true) : optT (textF (fgN ps rest) ps) = rest := by
  rcases hr with rfl | ⟨r, rfl⟩
  · show optT (textF 0 ps) = []
    rw [h0]; rfl
  · simp only [fgB, fgN, List.drop_succ_cons, List.drop_zero] at h ⊢
    have e1 : (32 :: r == ([] : List UInt8)) = false := rfl
    rw [e1] at h ⊢
    simp only [Bool.false_or, Bool.and_eq_true, Bool.not_eq_true', beq_eq_false_iff_ne, beq_iff_eq, parX] at h
    obtain ⟨h1, h2⟩ := h
    cases hr : readF ps r with
    | none => rw [hr] at h2; exact absurd h2 (by decide)
    | some f =>
      obtain ⟨_, ht⟩ := text_read g hr
      have : parF ps r = f := by rw [parF, hr]; rfl
      rw [if_neg (by simp), this, ht]
      exact opt_some h1
theorem z_cls : textF 0 clsP = [] := by decide +kernel
theorem z_mth : textF 0 mthP = [] := by decide +kernel
theorem num_form {l : List UInt8} (h : num9 l = true) : Lib.itoa (numR l).1 = l := by
  simp only [num9, Bool.and_eq_true] at h
  exact num_back h.1.1
theorem flags_form {l : List UInt8} (h1 : (fstW l == wFlags) = true) (h2 : fgB clsP (restW l) = true) : lineL wFlags [textF (fgN clsP (restW l)) clsP] = l := by
  rw [line1, fg_form goodC z_cls (rest_head l) h2]
  have := fst_rest l
  rw [eq_of_beq h1] at this
  exact this
theorem method_form {l : List UInt8} (h1 : (fstW l == wMethod) = true) (h2 : mlB l = true) : lineL wMethod [mlN l, mlD l, textF (fgN mthP (mlF l)) mthP] = l := by
  simp only [mlB, Bool.and_eq_true, Bool.not_eq_true', beq_eq_false_iff_ne] at h2
  obtain ⟨⟨hn, hd⟩, hf⟩ := h2
  rw [head_line hn hd, fg_form goodM z_mth (show mlF l = [] ∨ ∃ r, mlF l = 32 :: r from rest_head _) hf]
  have e0 := fst_rest l
  rw [eq_of_beq h1] at e0
  rcases rest_head l with e | ⟨r, e⟩
  · exact absurd (by rw [mlN, e]; rfl) hn
  · have e1 := fst_rest r
    have k1 : (restW l).drop 1 = r := by rw [e]; rfl
    rcases rest_head r with e2 | ⟨q, e2⟩
    · exact absurd (by rw [mlD, mlR, k1, e2]; rfl) hd
    · have k2 : (mlR l).drop 1 = q := by rw [mlR, k1, e2]; rfl
      have e3 := fst_rest q
      have a1 : mlN l = fstW r := by rw [mlN, k1]
      have a2 : mlD l = fstW q := by rw [mlD, k2]
      have a3 : mlF l = restW q := by rw [mlF, k2]
      rw [a1, a2, a3, e3, ← e2, e1, ← e]
      exact e0

def preL (c : Cls) : List (List UInt8) := [lineL wClass [c.nm.data.toList], lineL wSup [c.su.data.toList]] ++ c.ifs.map (fun p => lineL wIface [p]) ++ [lineL wFlags [textF c.fl clsP], lineL wLoader [Lib.itoa c.ld]]
def hdL (m : Mth) : List UInt8 := lineL wMethod [m.nm.data.toList, m.ds.data.toList, textF m.fl mthP]
/-- the lines so far, by state and class -/
def Inv (st : Nat) (c : Cls) (done : List (List UInt8)) : Prop :=
  (st = 0 ∧ done = [] ∧ c.ifs = [] ∧ c.ms = []) ∨
  (st = 1 ∧ done = [lineL wClass [c.nm.data.toList]] ∧ c.ifs = [] ∧ c.ms = []) ∨
  (st = 2 ∧ done = [lineL wClass [c.nm.data.toList], lineL wSup [c.su.data.toList]] ++ c.ifs.map (fun p => lineL wIface [p]) ∧ c.ms = []) ∨
  (st = 3 ∧ done = [lineL wClass [c.nm.data.toList], lineL wSup [c.su.data.toList]] ++ c.ifs.map (fun p => lineL wIface [p]) ++ [lineL wFlags [textF c.fl clsP]] ∧ c.ms = []) ∨
  (st = 4 ∧ done = preL c ++ c.ms.flatMap mthLs) ∨
  (st = 5 ∧ ∃ pre m, c.ms = pre ++ [m] ∧ m.code = [] ∧ done = preL c ++ pre.flatMap mthLs ++ [hdL m]) ∨
  (st = 6 ∧ ∃ pre m, c.ms = pre ++ [m] ∧ m.code = [] ∧ done = preL c ++ pre.flatMap mthLs ++ [hdL m, lineL wLocals [Lib.itoa m.lo]]) ∨
  (st = 7 ∧ ∃ pre m, c.ms = pre ++ [m] ∧ done = preL c ++ c.ms.flatMap mthLs) ∨
  (st = 8 ∧ done = clsLs c)

theorem stepM_inv {c c' : Cls} {l : List UInt8} {st' : Nat} {done : List (List UInt8)} (hd : done = preL c ++ c.ms.flatMap mthLs) (h : stepM c l = some (st', c')) : Inv st' c' (done ++ [l]) := by
  unfold stepM at h
  split at h
  · rename_i e
    cases h
    refine .inr (.inr (.inr (.inr (.inr (.inr (.inr (.inr ⟨rfl, ?_⟩)))))))
    rw [hd, eq_of_beq e]; simp [clsLs, preL]
  · split at h
    · rename_i e
      cases h
      simp only [Bool.and_eq_true] at e
      refine .inr (.inr (.inr (.inr (.inr (.inl ⟨rfl, c.ms, _, rfl, rfl, ?_⟩)))))
      rw [hd]
      have := method_form e.1 e.2
      simp only [hdL]
      rw [this]; rfl
    · cases h

theorem step_inv {st st' : Nat} {c c' : Cls} {l : List UInt8} {done : List (List UInt8)} (hi : Inv st c done) (h : stepC st c l = some (st', c')) : Inv st' c' (done ++ [l]) := by
  rcases hi with ⟨rfl, hd, h1, h2⟩ | ⟨rfl, hd, h1, h2⟩ | ⟨rfl, hd, h2⟩ | ⟨rfl, hd, h2⟩ | ⟨rfl, hd⟩ | ⟨rfl, pre, m, hm, hc, hd⟩ | ⟨rfl, pre, m, hm, hc, hd⟩ | ⟨rfl, pre, m, hm, hd⟩ | ⟨rfl, hd⟩
  · have h' : (if rnB l wClass then some (1, { c with nm := ⟨(rnS l wClass).toArray⟩ }) else none) = some (st', c') := h
    split at h'
    · rename_i e
      cases h'
      exact .inr (.inl ⟨rfl, by rw [hd]; simp [rn_form e], h1, h2⟩)
    · cases h'
  · have h' : (if rnB l wSup then some (2, { c with su := ⟨(rnS l wSup).toArray⟩ }) else none) = some (st', c') := h
    split at h'
    · rename_i e
      cases h'
      exact .inr (.inr (.inl ⟨rfl, by rw [hd]; simp [rn_form e, h1], h2⟩))
    · cases h'
  · have h' : (if rnB l wIface then some (2, { c with ifs := c.ifs ++ [rnS l wIface] }) else if (fstW l == wFlags) && fgB clsP (restW l) then some (3, { c with fl := fgN clsP (restW l) }) else none) = some (st', c') := h
    split at h'
    · rename_i e
      cases h'
      exact .inr (.inr (.inl ⟨rfl, by rw [hd]; simp [rn_form e], h2⟩))
    · split at h'
      · rename_i e
        cases h'
        simp only [Bool.and_eq_true] at e
        exact .inr (.inr (.inr (.inl ⟨rfl, by rw [hd]; simp [flags_form e.1 e.2], h2⟩)))
      · cases h'
  · have h' : (if rnB l wLoader && num9 (rnS l wLoader) then some (4, { c with ld := (numR (rnS l wLoader)).1 }) else none) = some (st', c') := h
    split at h'
    · rename_i e
      cases h'
      simp only [Bool.and_eq_true] at e
      exact .inr (.inr (.inr (.inr (.inl ⟨rfl, by rw [hd]; simp [preL, num_form e.2, rn_form e.1, h2]⟩))))
    · cases h'
  · exact stepM_inv hd h
  · have h' : (if rnB l wLocals && num9 (rnS l wLocals) then some (6, { c with ms := lastM (fun m => { m with lo := (numR (rnS l wLocals)).1 }) c.ms }) else none) = some (st', c') := h
    split at h'
    · rename_i e
      cases h'
      simp only [Bool.and_eq_true] at e
      refine .inr (.inr (.inr (.inr (.inr (.inr (.inl ⟨rfl, pre, { m with lo := (numR (rnS l wLocals)).1 }, by rw [hm, last_app], hc, ?_⟩))))))
      rw [hd]; simp [preL, hdL, num_form e.2, rn_form e.1]
    · cases h'
  · have h' : (if rnB l wStack && num9 (rnS l wStack) then some (7, { c with ms := lastM (fun m => { m with st := (numR (rnS l wStack)).1 }) c.ms }) else none) = some (st', c') := h
    split at h'
    · rename_i e
      cases h'
      simp only [Bool.and_eq_true] at e
      refine .inr (.inr (.inr (.inr (.inr (.inr (.inr (.inl ⟨rfl, pre, { m with st := (numR (rnS l wStack)).1 }, by rw [hm, last_app], ?_⟩)))))))
      rw [hd]; simp [preL, hdL, hm, last_app, mthLs, hc, num_form e.2, rn_form e.1]
    · cases h'
  · have h' : (match docP l with
      | some i => some (7, { c with ms := lastM (fun m => { m with code := m.code ++ [i] }) c.ms })
      | none => stepM c l) = some (st', c') := h
    split at h'
    · rename_i i e
      cases h'
      have hp := (doc_sound e).2
      refine .inr (.inr (.inr (.inr (.inr (.inr (.inr (.inl ⟨rfl, pre, { m with code := m.code ++ [i] }, by rw [hm, last_app], ?_⟩)))))))
      rw [hd]; simp [preL, hm, last_app, mthLs, hp]
    · exact stepM_inv hd h'
  · have h' : (none : Option (Nat × Cls)) = some (st', c') := h
    cases h'

theorem run_inv {L : List (List UInt8)} : ∀ {st n k : Nat} {c c' : Cls} {done : List (List UInt8)}, Inv st c done → runL st c L n = (some c', k) → k = 0 ∧ ∃ ls, L = ls ++ [[]] ∧ done ++ ls = clsLs c' := by
  induction L with
  | nil => intro st n k c c' done _ h; cases h
  | cons l r ih =>
    intro st n k c c' done hi h
    cases r with
    | nil =>
      have h' : (if (st == 8) && (l == []) then (some c, 0) else ((none : Option Cls), n)) = (some c', k) := h
      split at h'
      · rename_i e
        simp only [Bool.and_eq_true, beq_iff_eq] at e
        cases h'
        refine ⟨rfl, [], by rw [e.2]; rfl, ?_⟩
        rcases hi with ⟨h, _⟩ | ⟨h, _⟩ | ⟨h, _⟩ | ⟨h, _⟩ | ⟨h, _⟩ | ⟨h, _⟩ | ⟨h, _⟩ | ⟨h, _⟩ | ⟨_, h⟩
        all_goals first
          | (rw [List.append_nil]; exact h)
          | (exfalso; omega)
      · cases h'
    | cons x r =>
      rw [runL_cons (by simp)] at h
      cases hs : stepC st c l with
      | none => rw [hs] at h; cases h
      | some p =>
        obtain ⟨st', c1⟩ := p
        rw [hs] at h
        obtain ⟨hk, ls, h1, h2⟩ := ih (step_inv hi hs) h
        exact ⟨hk, l :: ls, by rw [h1]; rfl, by rw [← h2]; simp⟩

theorem join_cut (s : List UInt8) : Lib.join (cutL 10 s) [10] = s := by
  induction s with
  | nil => rfl
  | cons x s ih =>
    by_cases hx : x = 10
    · subst hx
      rw [cutL, if_pos rfl]
      cases hc : cutL 10 s with
      | nil => exact absurd hc (cutL_ne 10 s)
      | cons p r => rw [jn_cons2, ← hc, ih]; rfl
    · rw [cutL, if_neg hx]
      cases hc : cutL 10 s with
      | nil => exact absurd hc (cutL_ne 10 s)
      | cons p r =>
        rw [hc] at ih
        cases r with
        | nil => simp [Lib.join, List.intercalate] at ih ⊢; exact ih
        | cons q r =>
          rw [jn_cons2] at ih ⊢
          rw [List.cons_append, List.cons_append, ih]

/-- a text that is taken is the text of a sound class -/
theorem par_taken {s : List UInt8} {c : Cls} {n : Nat} (h : parC s = (c, n, 0)) : clsB c = true ∧ clsT c = s ∧ n = 0 := by
  unfold parC at h
  split at h
  · cases h
  · split at h
    · cases h
    · rename_i c1 k hr
      split at h
      · rename_i hb
        cases h
        obtain ⟨_, ls, h1, h2⟩ := run_inv (.inl ⟨rfl, rfl, rfl, rfl⟩) hr
        refine ⟨hb, ?_, rfl⟩
        rw [List.nil_append] at h2
        rw [clsT, ← join_ends, ← h2, ← h1, join_cut]
      · cases h

/-- the line at fault is one of the lines -/
theorem run_at {L : List (List UInt8)} : ∀ {st n k : Nat} {c : Cls}, L ≠ [] → runL st c L n = (none, k) → n ≤ k ∧ k < n + L.length := by
  induction L with
  | nil => intro st n k c h; exact absurd rfl h
  | cons l r ih =>
    intro st n k c _ h
    cases r with
    | nil =>
      have h' : (if (st == 8) && (l == []) then (some c, 0) else ((none : Option Cls), n)) = (none, k) := h
      split at h'
      · cases h'
      · cases h'; simp
    | cons x r =>
      rw [runL_cons (by simp)] at h
      cases hs : stepC st c l with
      | none => rw [hs] at h; cases h; simp
      | some p =>
        obtain ⟨st', c1⟩ := p
        rw [hs] at h
        have := ih (by simp) h
        simp only [List.length_cons] at this ⊢
        omega
theorem cut_count (s : List UInt8) : (cutL 10 s).length = s.count 10 + 1 := by
  induction s with
  | nil => rfl
  | cons x s ih =>
    by_cases hx : x = 10
    · subst hx
      rw [cutL, if_pos rfl, List.length_cons, ih, List.count_cons_self]
    · rw [cutL, if_neg hx, List.count_cons_of_ne (fun e => hx e), ← ih]
      cases hc : cutL 10 s with
      | nil => exact absurd hc (cutL_ne 10 s)
      | cons p r => rfl
/-- what the answer is beside an error: nothing, and a line of the text, or none -/
theorem par_err {s : List UInt8} {c : Cls} {n : Nat} {e : Int} (h : parC s = (c, n, e)) (he : e ≠ 0) : c = zeroC ∧ ((e = 4 ∧ 1 ≤ n ∧ n ≤ s.count 10 + 1) ∨ (n = 0 ∧ (e = 1 ∨ e = 5))) := by
  unfold parC at h
  split at h
  · cases h; exact ⟨rfl, .inr ⟨rfl, .inr rfl⟩⟩
  · split at h
    · rename_i k hr
      cases h
      have := run_at (cutL_ne 10 s) hr
      rw [cut_count] at this
      exact ⟨rfl, .inl ⟨rfl, this.1, by omega⟩⟩
    · split at h
      · cases h; exact absurd rfl he
      · cases h; exact ⟨rfl, .inr ⟨rfl, .inl rfl⟩⟩
end Go.Proofs.YtfbhjfpkhofifaaGreatDoor
