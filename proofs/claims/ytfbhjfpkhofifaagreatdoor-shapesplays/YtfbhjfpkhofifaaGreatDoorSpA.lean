/- Plain facts on a class's text: its lines, how long they are at most. -/
import Derived.Test.YtfbhjfpkhofifaaGreatDoorSoE
import Derived.Test.YtfbhjfpkhofifaaGreatDoorCodeT
import Derived.Test.YtfbhjfpkhofifaaGreatDoorFOwnC
namespace Go.Proofs.YtfbhjfpkhofifaaGreatDoor
open Go.RowKit

/-- a line of words: those that are empty are left out -/
def lineL : List UInt8 → List (List UInt8) → List UInt8
  | f, [] => f
  | f, p :: r => lineL (if p = [] then f else f ++ 32 :: p) r
theorem lineL_at {l : List (List UInt8)} (f : List UInt8) (k : Nat) (x : List UInt8) (h : l[k]? = some x) : lineL f (l.drop k) = lineL (if x = [] then f else f ++ 32 :: x) (l.drop (k + 1)) := by
  obtain ⟨h1, h2⟩ := List.getElem?_eq_some_iff.1 h
  rw [List.drop_eq_getElem_cons h1, h2, lineL]

def wClass : List UInt8 := [99, 108, 97, 115, 115]
def wSup : List UInt8 := [115, 117, 112, 101, 114]
def wIface : List UInt8 := [105, 102, 97, 99, 101]
def wFlags : List UInt8 := [102, 108, 97, 103, 115]
def wLoader : List UInt8 := [108, 111, 97, 100, 101, 114]
def wMethod : List UInt8 := [109, 101, 116, 104, 111, 100]
def wLocals : List UInt8 := [108, 111, 99, 97, 108, 115]
def wStack : List UInt8 := [115, 116, 97, 99, 107]
def wEnd : List UInt8 := [101, 110, 100]

/-- a method's lines, a class's lines, its text -/
def mthLs (m : Mth) : List (List UInt8) := lineL wMethod [m.nm.data.toList, m.ds.data.toList, textF m.fl mthP] :: lineL wLocals [Lib.itoa m.lo] :: lineL wStack [Lib.itoa m.st] :: m.code.map prtI
def clsLs (c : Cls) : List (List UInt8) :=
  [lineL wClass [c.nm.data.toList], lineL wSup [c.su.data.toList]] ++ c.ifs.map (fun p => lineL wIface [p]) ++ [lineL wFlags [textF c.fl clsP], lineL wLoader [Lib.itoa c.ld]] ++ c.ms.flatMap mthLs ++ [wEnd]
def clsT (c : Cls) : List UInt8 := (clsLs c).flatMap (· ++ [10])

theorem jn_cons2 (x y : List UInt8) (r : List (List UInt8)) (sep : List UInt8) : Lib.join (x :: y :: r) sep = x ++ sep ++ Lib.join (y :: r) sep := by
  simp [Lib.join, List.intercalate]
theorem join_ends (L : List (List UInt8)) : Lib.join (L ++ [[]]) [10] = L.flatMap (· ++ [10]) := by
  induction L with
  | nil => rfl
  | cons x r ih =>
    cases r with
    | nil => simp [Lib.join, List.intercalate]
    | cons y r =>
      rw [List.cons_append, List.cons_append, jn_cons2, ← List.cons_append, ih]
      simp

theorem textF_len (f : Int) (ps : List (Int × List UInt8)) (h : ∀ p ∈ ps, p.2.length ≤ 20) (hl : ps.length ≤ 100) : (textF f ps).length ≤ 2100 := by
  unfold textF
  split
  · have := join_small f ps h; omega
  · simp

theorem prt_len {i : Ins} (h : ickI i = 0) : (prtI i).length ≤ 9000 := by
  have h2 : i.t.size ≤ 2000 := ick_type h
  have hw := word_len i.op
  have hrx := rtx_size i.b i.c.data.toList i.m.data.toList i.d.data.toList
  rw [mk_size] at hrx
  have hl : i.t.data.toList.length = i.t.size := by simp
  have hr : (restL (opdI i.op) i.n i.t.data.toList (rtxL i.b i.c.data.toList i.m.data.toList i.d.data.toList)).length ≤ 8000 := by
    rcases sound_shape h with ⟨hk, _⟩ | ⟨hk, hn, _⟩ | ⟨hk, _, _⟩ | ⟨hk, hn, _, _⟩ | ⟨hk, _, _⟩
    · rw [hk]; show ([] : List UInt8).length ≤ 8000; simp
    · rw [restL, if_pos hk]
      have := Lib.itoa_length_le i.n (by omega) (by omega)
      rw [List.length_cons]; omega
    · rw [restL, if_neg (by omega), if_pos hk, List.length_cons]; omega
    · rw [restL, if_neg (by omega), if_neg (by omega), if_pos hk]
      have := Lib.itoa_length_le i.n (by omega) (by omega)
      rw [List.length_cons, List.length_append, List.length_cons]; omega
    · rw [restL, if_neg (by omega), if_neg (by omega), if_neg (by omega), if_pos hk, List.length_cons]; omega
  rw [prt_form h, List.length_append]
  omega

theorem line_len (f : List UInt8) (l : List (List UInt8)) : (lineL f l).length ≤ f.length + (l.map fun p => p.length + 1).sum := by
  induction l generalizing f with
  | nil => simp [lineL]
  | cons p r ih =>
    rw [lineL]
    refine Nat.le_trans (ih _) ?_
    split <;> simp <;> omega

/-- what is sound of a method, as facts -/
structure MthS (m : Mth) : Prop where
  mem : memberL m.nm.data.toList = true
  desc : pdE m.ds.data.toList = 0
  lo : 0 ≤ m.lo ∧ m.lo ≤ 40
  st : 0 ≤ m.st ∧ m.st ≤ 40
  num : m.code.length ≤ 200
  ins : ∀ i ∈ m.code, ickI i = 0

theorem all_ins {l : List Ins} {lo : Int} (h : (allE l lo == 0) = true) : l.length ≤ 200 ∧ ∀ i ∈ l, ickI i = 0 := by
  unfold allE at h
  split at h
  · exact absurd h (by decide)
  · rename_i h1
    split at h
    · exact absurd h (by decide)
    · rename_i h2
      refine ⟨by omega, fun i hi => ?_⟩
      simp only [Bool.not_eq_true, List.any_eq_false] at h2
      have := h2 i hi
      simp [badI] at this
      exact this.1.1

theorem wds_nonneg (ds : List UInt8) (fl : Int) : 0 ≤ wdsN ds fl := by
  unfold wdsN
  split
  · split <;> omega
  · omega

theorem mth_sound {m : Mth} {iface : Bool} (h : mthB m iface = true) : MthS m := by
  unfold mthB at h
  simp only [Bool.and_eq_true] at h
  obtain ⟨⟨⟨⟨h1, _⟩, h3⟩, _⟩, h5⟩ := h
  have hd : pdE m.ds.data.toList = 0 := by simpa using h3
  split at h5
  · simp only [Bool.and_eq_true, beq_iff_eq] at h5
    obtain ⟨⟨l0, s0⟩, c0⟩ := h5
    have hc : m.code = [] := List.eq_nil_of_length_eq_zero (by omega)
    exact ⟨h1, hd, by omega, by omega, by rw [hc]; simp, fun i hi => by rw [hc] at hi; simp at hi⟩
  · simp only [Bool.and_eq_true, Bool.not_eq_true', decide_eq_false_iff_not] at h5
    obtain ⟨⟨⟨⟨a1, a2⟩, a3⟩, a4⟩, a5⟩ := h5
    have := wds_nonneg m.ds.data.toList m.fl
    obtain ⟨b1, b2⟩ := all_ins a5
    exact ⟨h1, hd, by omega, by omega, b1, b2⟩

theorem mths_sound {iface : Bool} {all l : List Mth} {k : Nat} (h : mthsB iface all l k = true) : ∀ m ∈ l, MthS m := by
  induction l generalizing k with
  | nil => intro m hm; simp at hm
  | cons x r ih =>
    rw [mthsB] at h
    simp only [Bool.and_eq_true] at h
    intro m hm
    rcases List.mem_cons.1 hm with rfl | hm
    · exact mth_sound h.1.1
    · exact ih h.2 m hm

theorem ifs_sound {nm : List UInt8} {pre l : List (List UInt8)} (h : ifsB nm pre l = true) : ∀ p ∈ l, validL p = true := by
  induction l generalizing pre with
  | nil => intro p hp; simp at hp
  | cons x r ih =>
    rw [ifsB] at h
    simp only [Bool.and_eq_true] at h
    intro p hp
    rcases List.mem_cons.1 hp with rfl | hp
    · exact h.1.1.1
    · exact ih h.2 p hp

/-- what is sound of a class, as facts -/
structure ClsS (c : Cls) : Prop where
  nm : validL c.nm.data.toList = true
  su : validL c.su.data.toList = true
  nif : c.ifs.length ≤ 20
  ifs : ∀ p ∈ c.ifs, validL p = true
  ld : 0 ≤ c.ld ∧ c.ld ≤ 9
  nms : c.ms.length ≤ 40
  ms : ∀ m ∈ c.ms, MthS m

theorem cls_sound {c : Cls} (h : clsB c = true) : ClsS c := by
  unfold clsB at h
  simp only [Bool.and_eq_true, Bool.not_eq_true', decide_eq_false_iff_not] at h
  obtain ⟨⟨⟨⟨⟨⟨⟨⟨⟨h1, h2⟩, _⟩, h4⟩, h5⟩, h6⟩, h7⟩, _⟩, h9⟩, h10⟩ := h
  exact ⟨h1, h2, by omega, ifs_sound h9, by omega, by omega, mths_sound h10⟩

theorem val_ne {l : List UInt8} (h : validL l = true) : l ≠ [] ∧ l.length ≤ 60 := by
  unfold validL at h
  rw [Bool.and_eq_true, decide_eq_true_eq] at h
  refine ⟨?_, h.1⟩
  rintro rfl
  exact absurd h.2 (by decide)

theorem flat_len (L : List (List UInt8)) (B : Nat) (h : ∀ x ∈ L, x.length ≤ B) : (L.flatMap (· ++ [10])).length ≤ L.length * (B + 1) := by
  induction L with
  | nil => simp
  | cons x r ih =>
    rw [List.flatMap_cons, List.length_append, List.length_append, List.length_cons, List.length_cons]
    have h1 := h x (List.mem_cons_self ..)
    have h2 := ih fun y hy => h y (List.mem_cons_of_mem _ hy)
    rw [Nat.succ_mul]
    simp only [List.length_nil]
    omega

theorem itoa_small {n : Int} (h : 0 ≤ n ∧ n ≤ 40) : (Lib.itoa n).length ≤ 21 := Lib.itoa_length_le n (by omega) (by omega)

theorem mthP_small : ∀ p ∈ mthP, p.2.length ≤ 20 := by decide
theorem clsP_small : ∀ p ∈ clsP, p.2.length ≤ 20 := by decide

theorem mthLs_len {m : Mth} (h : MthS m) : (mthLs m).length ≤ 203 ∧ ∀ x ∈ mthLs m, x.length ≤ 10000 := by
  constructor
  · have := h.num; simp [mthLs]; omega
  · intro x hx
    have e1 := textF_len m.fl mthP mthP_small (by decide)
    have e2 := member_len h.mem
    have e3 := pd_len h.desc
    have e4 := itoa_small h.lo
    have e5 := itoa_small h.st
    rw [mthLs] at hx
    rcases List.mem_cons.1 hx with rfl | hx
    · have := line_len wMethod [m.nm.data.toList, m.ds.data.toList, textF m.fl mthP]
      simp [wMethod] at this
      simp at e1 e2 e3
      have h6 : m.nm.data.toList.length = m.nm.data.size := by simp
      have h7 : m.ds.data.toList.length = m.ds.data.size := by simp
      simp only [wMethod]
      omega
    rcases List.mem_cons.1 hx with rfl | hx
    · have := line_len wLocals [Lib.itoa m.lo]
      simp [wLocals] at this
      simp only [wLocals]
      omega
    rcases List.mem_cons.1 hx with rfl | hx
    · have := line_len wStack [Lib.itoa m.st]
      simp [wStack] at this
      simp only [wStack]
      omega
    · obtain ⟨i, hi, rfl⟩ := List.mem_map.1 hx
      have := prt_len (h.ins i hi)
      omega

theorem flatMap_len {α β : Type} (l : List α) (f : α → List β) (B : Nat) (h : ∀ a ∈ l, (f a).length ≤ B) : (l.flatMap f).length ≤ l.length * B := by
  induction l with
  | nil => simp
  | cons x r ih =>
    rw [List.flatMap_cons, List.length_append, List.length_cons, Nat.succ_mul]
    have h1 := h x (List.mem_cons_self ..)
    have h2 := ih fun y hy => h y (List.mem_cons_of_mem _ hy)
    omega

theorem clsLs_len {c : Cls} (h : ClsS c) : (clsLs c).length ≤ 9000 ∧ ∀ x ∈ clsLs c, x.length ≤ 10000 := by
  have hm : (c.ms.flatMap mthLs).length ≤ c.ms.length * 203 := flatMap_len _ _ _ fun m hm => (mthLs_len (h.ms m hm)).1
  have hn := h.nms
  have hi := h.nif
  constructor
  · simp [clsLs] at hm ⊢
    omega
  · intro x hx
    have e1 := textF_len c.fl clsP clsP_small (by decide)
    have e2 := (val_ne h.nm).2
    have e3 := (val_ne h.su).2
    have e4 : (Lib.itoa c.ld).length ≤ 21 := Lib.itoa_length_le c.ld (by have := h.ld; omega) (by have := h.ld; omega)
    simp only [clsLs, List.mem_append, List.mem_cons, List.not_mem_nil, or_false, List.mem_map, List.mem_flatMap] at hx
    rcases hx with ((((rfl | rfl) | ⟨p, hp, rfl⟩) | (rfl | rfl)) | ⟨m, hm, hx⟩) | rfl
    · have := line_len wClass [c.nm.data.toList]
      simp only [List.map_cons, List.map_nil, List.sum_cons, List.sum_nil] at this
      have hw : wClass.length = 5 := rfl
      omega
    · have := line_len wSup [c.su.data.toList]
      simp only [List.map_cons, List.map_nil, List.sum_cons, List.sum_nil] at this
      have hw : wSup.length = 5 := rfl
      omega
    · have := line_len wIface [p]
      simp only [List.map_cons, List.map_nil, List.sum_cons, List.sum_nil] at this
      have hw : wIface.length = 5 := rfl
      have := (val_ne (h.ifs p hp)).2
      omega
    · have := line_len wFlags [textF c.fl clsP]
      simp only [List.map_cons, List.map_nil, List.sum_cons, List.sum_nil] at this
      have hw : wFlags.length = 5 := rfl
      omega
    · have := line_len wLoader [Lib.itoa c.ld]
      simp only [List.map_cons, List.map_nil, List.sum_cons, List.sum_nil] at this
      have hw : wLoader.length = 6 := rfl
      omega
    · exact (mthLs_len (h.ms m hm)).2 x hx
    · decide

theorem clsT_len {c : Cls} (h : ClsS c) : (clsT c).length ≤ 100000000 := by
  obtain ⟨h1, h2⟩ := clsLs_len h
  have := flat_len (clsLs c) 10000 h2
  have : (clsLs c).length * (10000 + 1) ≤ 9000 * (10000 + 1) := Nat.mul_le_mul_right _ h1
  unfold clsT
  omega
end Go.Proofs.YtfbhjfpkhofifaaGreatDoor
