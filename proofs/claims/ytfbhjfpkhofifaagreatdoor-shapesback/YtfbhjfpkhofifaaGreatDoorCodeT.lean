/- Plain facts: an instruction to its text and back, by the document's reading and by the reading of package code. -/
import Derived.Test.YtfbhjfpkhofifaaGreatDoorCodeJd
import Derived.Lib.AtoiAll
namespace Go.Proofs.YtfbhjfpkhofifaaGreatDoor
open Go.RowKit

/-- a text, cut at its first blank -/
def notBl (c : UInt8) : Bool := !decide (c = 32)
def blankN (l : List UInt8) : Nat := spanN notBl l
def cutA (l : List UInt8) : List UInt8 := l.take (blankN l)
def cutB (l : List UInt8) : List UInt8 := l.drop (blankN l + 1)

theorem blank_app {a b : List UInt8} (h : (32 : UInt8) ∉ a) : blankN (a ++ 32 :: b) = a.length :=
  span_app notBl a b 32 (fun c hc => by simp only [notBl, Bool.not_eq_true', decide_eq_false_iff_not]; rintro rfl; exact h hc) (by decide)
theorem blank_free {a : List UInt8} (h : (32 : UInt8) ∉ a) : blankN a = a.length := by
  induction a with
  | nil => rfl
  | cons c a ih =>
    have hc : notBl c = true := by simp only [notBl, Bool.not_eq_true', decide_eq_false_iff_not]; rintro rfl; exact h (List.mem_cons_self ..)
    have := ih (fun m => h (List.mem_cons_of_mem _ m))
    simp only [blankN, spanN, List.takeWhile_cons, hc, if_true, List.length_cons] at this ⊢
    omega
theorem cutA_app {a b : List UInt8} (h : (32 : UInt8) ∉ a) : cutA (a ++ 32 :: b) = a := by rw [cutA, blank_app h]; simp
theorem cutB_app {a b : List UInt8} (h : (32 : UInt8) ∉ a) : cutB (a ++ 32 :: b) = b := by
  rw [cutB, blank_app h, show a ++ 32 :: b = (a ++ [32]) ++ b by simp, List.drop_left' (by simp)]
theorem cutA_free {a : List UInt8} (h : (32 : UInt8) ∉ a) : cutA a = a := by rw [cutA, blank_free h]; simp
theorem cutB_free {a : List UInt8} (h : (32 : UInt8) ∉ a) : cutB a = [] := by rw [cutB, blank_free h]; simp

/-- the number that strconv.Atoi reads, or 0 -/
def rdN (l : List UInt8) : Int := match Lib.atoiAll l with
  | .ok v => v
  | _ => 0

theorem fold_ge : ∀ (l : List UInt8) (acc : Nat), acc ≤ l.foldl (fun n c => n * 10 + (c.toNat - 48)) acc
  | [], acc => Nat.le_refl _
  | c :: r, acc => by
    have := fold_ge r (acc * 10 + (c.toNat - 48))
    rw [List.foldl_cons]; omega
theorem uint_digits : ∀ (l : List UInt8) (acc : Nat), l.all isDig = true → l.foldl (fun n c => n * 10 + (c.toNat - 48)) acc < 1000000000000000000 → Lib.parseUint10 acc l = .ok (l.foldl (fun n c => n * 10 + (c.toNat - 48)) acc)
  | [], acc, _, _ => rfl
  | c :: r, acc, h, hl => by
    rw [List.all_cons, Bool.and_eq_true] at h
    have h2 := h.1
    simp only [isDig, Bool.and_eq_true, decide_eq_true_eq] at h2
    rw [List.foldl_cons] at hl ⊢
    have hg := fold_ge r (acc * 10 + (c.toNat - 48))
    rw [Lib.parseUint10, if_pos h2, if_neg (by omega), if_neg (by omega)]
    exact uint_digits r _ h.2 hl
theorem dec_head (u : Nat) : ∃ c r, Lib.decDigits u = c :: r ∧ isDig c = true := by
  cases h : Lib.decDigits u with
  | nil => exact absurd h (dec_ne u)
  | cons c r =>
    have := (dec_digits u).1
    rw [h, List.all_cons, Bool.and_eq_true] at this
    exact ⟨c, r, rfl, this.1⟩
theorem mag_dec (u : Nat) (h : u < 1000000000000000000) : Lib.parseMag (Lib.decDigits u) = .ok u := by
  obtain ⟨a, b⟩ := dec_digits u
  rw [Lib.parseMag, if_neg (dec_ne u)]
  have := uint_digits (Lib.decDigits u) 0 a (by have e : digV (Lib.decDigits u) = u := b; unfold digV at e; rw [e]; exact h)
  rw [this]
  exact congrArg _ b
theorem rdN_itoa (n : Int) (h1 : -2147483648 ≤ n) (h2 : n ≤ 2147483647) : rdN (Lib.itoa n) = n := by
  by_cases hn : n < 0
  · have e : Lib.itoa n = 45 :: Lib.decDigits n.natAbs := by rw [Lib.itoa, if_pos hn]
    have hm := mag_dec n.natAbs (by omega)
    have h45 : (45 : UInt8).toNat = 45 := rfl
    have ha : Lib.atoiAll (45 :: Lib.decDigits n.natAbs) = .ok n := by
      unfold Lib.atoiAll
      simp only [h45, or_true, if_true, hm, not_true, false_and, if_false, true_and]
      rw [if_neg (by omega)]
      congr 1; omega
    rw [rdN, e, ha]
  · have e : Lib.itoa n = Lib.decDigits n.toNat := by rw [Lib.itoa, if_neg hn]
    have hm := mag_dec n.toNat (by omega)
    obtain ⟨c, r, hd, hc⟩ := dec_head n.toNat
    simp only [isDig, Bool.and_eq_true, decide_eq_true_eq] at hc
    have ha : Lib.atoiAll (Lib.decDigits n.toNat) = .ok n := by
      rw [hd] at hm ⊢
      unfold Lib.atoiAll
      have h43 : ¬ c.toNat = 43 := by omega
      have h45 : ¬ c.toNat = 45 := by omega
      simp only [h43, h45, or_self, if_false, hm, not_false_eq_true, true_and, false_and]
      rw [if_neg (by omega)]
      congr 1; omega
    rw [rdN, e, ha]

theorem par_dims {l : List UInt8} (h : parE l = 0) : (parT l).1 ≤ 255 := by
  rw [parT, if_pos h]
  unfold parE at h
  split at h
  · simp at h
  · split at h
    · rename_i t e
      split at h
      · simp at h
      · rw [e]; simp only; omega
    · simp at h
theorem prf_dims {l : List UInt8} (h : prfE l = 0) : (prfT l).1 ≤ 255 := by
  unfold prfE at h
  unfold prfT
  split at h
  · simp at h
  · rename_i h1
    rw [if_neg h1]
    split at h
    · rename_i h2
      rw [if_pos h2]; exact par_dims h
    · rename_i h2
      rw [if_neg h2]
      split <;> simp
theorem rtx_blank {b : Bool} {c n d : List UInt8} (h : rckB c n d = true) : (32 : UInt8) ∉ rtxL b c n d := by
  rw [rtxL, h, if_pos rfl]
  unfold rckB at h
  simp only [Bool.and_eq_true, beq_iff_eq] at h
  obtain ⟨⟨hc, hn⟩, hd⟩ := h
  obtain ⟨r, _, hb⟩ := pd_text hd
  intro m
  rcases List.mem_append.1 m with m | m
  · exact clean_blank (prf_clean hc) m
  · rcases List.mem_cons.1 m with m | m
    · revert m; cases b <;> decide
    · rcases List.mem_append.1 m with m | m
      · exact clean_blank (member_clean hn) m
      · exact hb m
theorem num_case {k : Int} {o : Nat} {p0 : List UInt8} {ps : List (List UInt8)} {j : Ins} {l : List UInt8} (hc : candI k o (p0 :: ps) = some j) (hg : gl (p0 :: ps) = l) (hk : k = 1 ∨ k = 2 ∨ k = 3) (t r : List UInt8) : p0 ++ restL k j.n t r = l := by
  rw [candI, if_neg (by omega), if_pos hk] at hc
  split at hc
  · rename_i hh
    obtain ⟨p1, rfl⟩ : ∃ p1, ps = [p1] := by
      cases ps with
      | nil => simp at hh
      | cons a q => cases q with
        | nil => exact ⟨a, rfl⟩
        | cons b q => simp at hh
    rw [← Option.some.inj hc, restL, if_pos hk]
    have h2 : (numR p1).2 = true := hh.2
    show p0 ++ 32 :: Lib.itoa (numR p1).1 = l
    rw [num_back h2]; exact hg
  · cases hc
theorem typ_case {k : Int} {o : Nat} {p0 : List UInt8} {ps : List (List UInt8)} {j : Ins} {l : List UInt8} (hc : candI k o (p0 :: ps) = some j) (hg : gl (p0 :: ps) = l) (hk : k = 4 ∨ k = 5 ∨ k = 6) (n : Int) (r : List UInt8) : p0 ++ restL k n j.t.data.toList r = l := by
  rw [candI, if_neg (by omega), if_neg (by omega), if_pos hk] at hc
  split at hc
  · rename_i hh
    obtain ⟨p1, rfl⟩ : ∃ p1, ps = [p1] := by
      cases ps with
      | nil => simp at hh
      | cons a q => cases q with
        | nil => exact ⟨a, rfl⟩
        | cons b q => simp at hh
    rw [← Option.some.inj hc, restL, if_neg (by omega), if_pos hk]
    exact hg
  · cases hc
theorem arr_case {o : Nat} {p0 : List UInt8} {ps : List (List UInt8)} {j : Ins} {l : List UInt8} (hc : candI 7 o (p0 :: ps) = some j) (hg : gl (p0 :: ps) = l) (r : List UInt8) : p0 ++ restL 7 j.n j.t.data.toList r = l := by
  rw [candI, if_neg (by omega), if_neg (by omega), if_neg (by omega), if_pos rfl] at hc
  split at hc
  · rename_i hh
    obtain ⟨p1, p2, rfl⟩ : ∃ p1 p2, ps = [p1, p2] := by
      cases ps with
      | nil => simp at hh
      | cons a q => cases q with
        | nil => simp at hh
        | cons b q => cases q with
          | nil => exact ⟨a, b, rfl⟩
          | cons c q => simp at hh
    rw [← Option.some.inj hc]
    have h2 : (numR p1).2 = true := hh.2
    show p0 ++ 32 :: (Lib.itoa (numR p1).1 ++ 32 :: p2) = l
    rw [num_back h2]; exact hg
  · cases hc
theorem ref_case {o : Nat} {p0 : List UInt8} {ps : List (List UInt8)} {j : Ins} {l : List UInt8} (hc : candI 8 o (p0 :: ps) = some j) (hg : gl (p0 :: ps) = l) (n : Int) (t : List UInt8) : p0 ++ restL 8 n t (rtxL j.b j.c.data.toList j.m.data.toList j.d.data.toList) = l := by
  rw [candI, if_neg (by omega), if_neg (by omega), if_neg (by omega), if_neg (by omega)] at hc
  split at hc
  · rename_i hh
    obtain ⟨p1, rfl⟩ : ∃ p1, ps = [p1] := by
      cases ps with
      | nil => simp at hh
      | cons a q => cases q with
        | nil => exact ⟨a, rfl⟩
        | cons b q => simp at hh
    rw [← Option.some.inj hc]
    have h2 : rfOK p1 = true := hh.2
    show p0 ++ 32 :: rtxL (rfB p1) (rfC p1) (rfN p1) (rfD p1) = l
    rw [(ref_write h2).2]; exact hg
  · cases hc

/-- what package code reads: an instruction by its number and the text behind the word -/
def rdI (o : Int) (l : List UInt8) : Ins :=
  if opdI o = 1 ∨ opdI o = 2 ∨ opdI o = 3 then ⟨o, rdN l, ⟨#[]⟩, false, ⟨#[]⟩, ⟨#[]⟩, ⟨#[]⟩⟩
  else if opdI o = 4 ∨ opdI o = 5 ∨ opdI o = 6 then ⟨o, 0, ⟨l.toArray⟩, false, ⟨#[]⟩, ⟨#[]⟩, ⟨#[]⟩⟩
  else if opdI o = 7 then ⟨o, rdN (cutA l), ⟨(cutB l).toArray⟩, false, ⟨#[]⟩, ⟨#[]⟩, ⟨#[]⟩⟩
  else if opdI o = 8 then ⟨o, 0, ⟨#[]⟩, rfOK l && rfB l, if rfOK l then ⟨(rfC l).toArray⟩ else ⟨#[]⟩, if rfOK l then ⟨(rfN l).toArray⟩ else ⟨#[]⟩, if rfOK l then ⟨(rfD l).toArray⟩ else ⟨#[]⟩⟩
  else ⟨o, 0, ⟨#[]⟩, false, ⟨#[]⟩, ⟨#[]⟩, ⟨#[]⟩⟩
def prtI (i : Ins) : List UInt8 := prtL i.op i.n i.t i.b i.c i.m i.d
def ownR (l : List UInt8) : Ins := rdI (opOf (cutA l)) (cutB l)
def ownP (l : List UInt8) : Option Ins := if ickI (ownR l) = 0 ∧ prtI (ownR l) = l then some (ownR l) else none
/-- the document's reading -/
def docP (l : List UInt8) : Option Ins := parI (opdI (opOf ((cutL 32 l).headD []))) (opOf ((cutL 32 l).headD [])) (cutL 32 l)

theorem bytes_none {t : ByteArray} (h : t.toList.isEmpty = true) : t = ⟨#[]⟩ := by
  rw [Lib.toList_data, List.isEmpty_iff] at h
  apply bytes_ext
  rw [h]
theorem noRef_zero {b : Bool} {c m d : ByteArray} (h : noRefB b c m d = true) : b = false ∧ c = ⟨#[]⟩ ∧ m = ⟨#[]⟩ ∧ d = ⟨#[]⟩ := by
  unfold noRefB at h
  simp only [Bool.and_eq_true, Bool.not_eq_true'] at h
  exact ⟨h.1.1.1, bytes_none h.1.1.2, bytes_none h.1.2, bytes_none h.2⟩
theorem ick_ins {i : Ins} (h : ickI i = 0) : insB (opdI i.op) i.n i.t.toList.isEmpty i.t.data.toList (noRefB i.b i.c i.m i.d) (rckB i.c.data.toList i.m.data.toList i.d.data.toList) = true := by
  unfold ickI ickE at h
  split at h
  · assumption
  · exact absurd h (by decide)
theorem back_bytes (t : ByteArray) : (⟨t.data.toList.toArray⟩ : ByteArray) = t := by apply bytes_ext; simp

/-- what a sound instruction is, by its kind -/
theorem sound_shape {i : Ins} (h : ickI i = 0) :
    (opdI i.op = 0 ∧ i = ⟨i.op, 0, ⟨#[]⟩, false, ⟨#[]⟩, ⟨#[]⟩, ⟨#[]⟩⟩) ∨
    ((opdI i.op = 1 ∨ opdI i.op = 2 ∨ opdI i.op = 3) ∧ (-2147483648 ≤ i.n ∧ i.n ≤ 2147483647) ∧ i = ⟨i.op, i.n, ⟨#[]⟩, false, ⟨#[]⟩, ⟨#[]⟩, ⟨#[]⟩⟩) ∨
    ((opdI i.op = 4 ∨ opdI i.op = 5 ∨ opdI i.op = 6) ∧ clean i.t.data.toList ∧ i = ⟨i.op, 0, i.t, false, ⟨#[]⟩, ⟨#[]⟩, ⟨#[]⟩⟩) ∨
    (opdI i.op = 7 ∧ (1 ≤ i.n ∧ i.n ≤ 255) ∧ clean i.t.data.toList ∧ i = ⟨i.op, i.n, i.t, false, ⟨#[]⟩, ⟨#[]⟩, ⟨#[]⟩⟩) ∨
    (opdI i.op = 8 ∧ rckB i.c.data.toList i.m.data.toList i.d.data.toList = true ∧ i = ⟨i.op, 0, ⟨#[]⟩, i.b, i.c, i.m, i.d⟩) := by
  have hi := ick_ins h
  clear h
  obtain ⟨o, n, t, b, c, m, d⟩ := i
  simp only at hi ⊢
  unfold insB at hi
  rcases opd_cases o with e | e | e | e | e | e | e | e | e | e <;> rw [e] at hi ⊢ <;> simp only [Bool.and_eq_true, beq_iff_eq, decide_eq_true_eq, Int.reduceEq, if_true, if_false, Int.reduceNeg] at hi
  · exact absurd hi (by decide)
  · obtain ⟨⟨hz, hn⟩, ht⟩ := hi
    obtain ⟨rfl, rfl, rfl, rfl⟩ := noRef_zero hz
    obtain rfl := bytes_none ht
    subst hn
    exact .inl ⟨rfl, rfl⟩
  · obtain ⟨⟨⟨hz, ht⟩, h1⟩, h2⟩ := hi
    obtain ⟨rfl, rfl, rfl, rfl⟩ := noRef_zero hz
    obtain rfl := bytes_none ht
    exact .inr (.inl ⟨.inl rfl, ⟨h1, h2⟩, rfl⟩)
  · obtain ⟨⟨⟨hz, ht⟩, h1⟩, h2⟩ := hi
    obtain ⟨rfl, rfl, rfl, rfl⟩ := noRef_zero hz
    obtain rfl := bytes_none ht
    exact .inr (.inl ⟨.inr (.inl rfl), ⟨by omega, by omega⟩, rfl⟩)
  · obtain ⟨⟨⟨hz, ht⟩, h1⟩, h2⟩ := hi
    obtain ⟨rfl, rfl, rfl, rfl⟩ := noRef_zero hz
    obtain rfl := bytes_none ht
    exact .inr (.inl ⟨.inr (.inr rfl), ⟨by omega, by omega⟩, rfl⟩)
  · obtain ⟨⟨hz, hn⟩, ht⟩ := hi
    obtain ⟨rfl, rfl, rfl, rfl⟩ := noRef_zero hz
    subst hn
    exact .inr (.inr (.inl ⟨.inl rfl, valid_clean ht, rfl⟩))
  · obtain ⟨⟨hz, hn⟩, ht⟩ := hi
    obtain ⟨rfl, rfl, rfl, rfl⟩ := noRef_zero hz
    subst hn
    exact .inr (.inr (.inl ⟨.inr (.inl rfl), prf_clean ht, rfl⟩))
  · obtain ⟨⟨⟨hz, hn⟩, ht⟩, _⟩ := hi
    obtain ⟨rfl, rfl, rfl, rfl⟩ := noRef_zero hz
    subst hn
    exact .inr (.inr (.inl ⟨.inr (.inr rfl), par_clean ht, rfl⟩))
  · obtain ⟨⟨⟨hz, ht⟩, h1⟩, h2⟩ := hi
    obtain ⟨rfl, rfl, rfl, rfl⟩ := noRef_zero hz
    have h3 := prf_dims ht
    exact .inr (.inr (.inr (.inl ⟨rfl, ⟨h1, by omega⟩, prf_clean ht, rfl⟩)))
  · obtain ⟨⟨hn, ht⟩, hr⟩ := hi
    obtain rfl := bytes_none ht
    subst hn
    exact .inr (.inr (.inr (.inr ⟨rfl, hr, rfl⟩)))

theorem prt_form {i : Ins} (h : ickI i = 0) : prtI i = wordL i.op ++ restL (opdI i.op) i.n i.t.data.toList (rtxL i.b i.c.data.toList i.m.data.toList i.d.data.toList) := by
  unfold prtI prtL; rw [if_pos (show ickE i.op i.n i.t i.b i.c i.m i.d = 0 from h)]
theorem op_nat {i : Ins} (h : ickI i = 0) : ∃ o : Nat, i.op = o ∧ opOf (wordL i.op) = o ∧ (32 : UInt8) ∉ wordL i.op := by
  obtain ⟨h1, h2⟩ := ick_op h
  have := word_op ⟨i.op.toNat, by omega⟩ (by show 1 ≤ i.op.toNat; omega)
  exact ⟨i.op.toNat, by omega, this.1, this.2⟩

theorem own_read {i : Ins} (h : ickI i = 0) : ownR (prtI i) = i := by
  obtain ⟨o, ho, hw, hb⟩ := op_nat h
  rw [prt_form h]
  rcases sound_shape h with ⟨hk, e⟩ | ⟨hk, hn, e⟩ | ⟨hk, hc, e⟩ | ⟨hk, hn, hc, e⟩ | ⟨hk, hr, e⟩
  · have hr0 : ∀ n t r, restL (opdI i.op) n t r = [] := fun n t r => by rw [hk]; rfl
    rw [hr0, List.append_nil, ownR, cutA_free hb, cutB_free hb, hw, ← ho, rdI, hk]
    conv => rhs; rw [e]
    rfl
  · have hr0 : ∀ t r, restL (opdI i.op) i.n t r = 32 :: Lib.itoa i.n := fun t r => by rw [restL, if_pos hk]
    rw [hr0, ownR, cutA_app hb, cutB_app hb, hw, ← ho, rdI, if_pos hk, rdN_itoa i.n hn.1 hn.2]
    exact e.symm
  · have hk' : ¬ (opdI i.op = 1 ∨ opdI i.op = 2 ∨ opdI i.op = 3) := by omega
    have hr0 : ∀ n t r, restL (opdI i.op) n t r = 32 :: t := fun n t r => by rw [restL, if_neg hk', if_pos hk]
    rw [hr0, ownR, cutA_app hb, cutB_app hb, hw, ← ho, rdI, if_neg hk', if_pos hk, back_bytes]
    exact e.symm
  · have hr0 : ∀ n t r, restL (opdI i.op) n t r = 32 :: (Lib.itoa n ++ 32 :: t) := fun n t r => by rw [hk]; rfl
    have hb2 : (32 : UInt8) ∉ Lib.itoa i.n := clean_blank (itoa_clean _)
    rw [hr0, ownR, cutA_app hb, cutB_app hb, hw, ← ho, rdI, if_neg (by omega), if_neg (by omega), if_pos hk, cutA_app hb2, cutB_app hb2, rdN_itoa i.n (by omega) (by omega), back_bytes]
    exact e.symm
  · have hr0 : ∀ n t r, restL (opdI i.op) n t r = 32 :: r := fun n t r => by rw [hk]; rfl
    obtain ⟨h1, h2, h3, h4, h5⟩ := ref_read (b := i.b) hr
    rw [hr0, ownR, cutA_app hb, cutB_app hb, hw, ← ho, rdI, if_neg (by omega), if_neg (by omega), if_neg (by omega), if_pos hk, h1, h2, h3, h4, h5, if_pos rfl, if_pos rfl, if_pos rfl, Bool.true_and, back_bytes, back_bytes, back_bytes]
    exact e.symm

theorem own_back {i : Ins} (h : ickI i = 0) : ownP (prtI i) = some i := by
  rw [ownP, own_read h, if_pos ⟨h, rfl⟩]
theorem own_sound {l : List UInt8} {i : Ins} (h : ownP l = some i) : ickI i = 0 ∧ prtI i = l := by
  unfold ownP at h
  split at h
  · rename_i hh
    obtain rfl := Option.some.inj h
    exact hh
  · cases h

/-- the document reads what is written -/
theorem doc_back {i : Ins} (h : ickI i = 0) : docP (prtI i) = some i := by
  obtain ⟨o, ho, hw, hb⟩ := op_nat h
  have fin : ∀ ps : List (List UInt8), cutL 32 (prtI i) = wordL i.op :: ps → candI (opdI i.op) o (wordL i.op :: ps) = some i → docP (prtI i) = some i := by
    intro ps hps hc
    rw [docP, hps, List.headD_cons, hw, ← ho, parI, ho, ← ho]
    rw [ho] at hc ⊢
    rw [hc]
    simp only
    rw [if_pos h]
  rcases sound_shape h with ⟨hk, e⟩ | ⟨hk, hn, e⟩ | ⟨hk, hc, e⟩ | ⟨hk, hn, hc, e⟩ | ⟨hk, hr, e⟩
  · refine fin [] ?_ ?_
    · rw [prt_form h, hk]; exact (congrArg _ (List.append_nil _)).trans (cutL_free 32 _ hb)
    · rw [candI, if_pos (by omega), if_pos (show [wordL i.op].length = 1 from rfl), ← ho, ← e]
  · refine fin [Lib.itoa i.n] ?_ ?_
    · rw [prt_form h, restL, if_pos hk]; exact cut2 hb (clean_blank (itoa_clean _))
    · have hx : numR (Lib.itoa i.n) = (i.n, true) := num_itoa i.n (by omega) (by omega)
      rw [candI, if_neg (by omega), if_pos hk]
      show (if [wordL i.op, Lib.itoa i.n].length = 2 ∧ (numR (Lib.itoa i.n)).2 = true then some (⟨o, (numR (Lib.itoa i.n)).1, ⟨#[]⟩, false, ⟨#[]⟩, ⟨#[]⟩, ⟨#[]⟩⟩ : Ins) else none) = _
      rw [hx, if_pos ⟨rfl, rfl⟩, ← ho, ← e]
  · refine fin [i.t.data.toList] ?_ ?_
    · rw [prt_form h, restL, if_neg (by omega), if_pos hk]; exact cut2 hb (clean_blank hc)
    · rw [candI, if_neg (by omega), if_neg (by omega), if_pos hk]
      show (if [wordL i.op, i.t.data.toList].length = 2 then some (⟨o, 0, ⟨i.t.data.toList.toArray⟩, false, ⟨#[]⟩, ⟨#[]⟩, ⟨#[]⟩⟩ : Ins) else none) = _
      rw [if_pos (show [wordL i.op, i.t.data.toList].length = 2 from rfl), back_bytes, ← ho, ← e]
  · refine fin [Lib.itoa i.n, i.t.data.toList] ?_ ?_
    · rw [prt_form h, restL, if_neg (by omega), if_neg (by omega), if_pos hk]; exact cut3 hb (clean_blank (itoa_clean _)) (clean_blank hc)
    · have hx : numR (Lib.itoa i.n) = (i.n, true) := num_itoa i.n (by omega) (by omega)
      rw [candI, if_neg (by omega), if_neg (by omega), if_neg (by omega), if_pos hk]
      show (if [wordL i.op, Lib.itoa i.n, i.t.data.toList].length = 3 ∧ (numR (Lib.itoa i.n)).2 = true then some (⟨o, (numR (Lib.itoa i.n)).1, ⟨i.t.data.toList.toArray⟩, false, ⟨#[]⟩, ⟨#[]⟩, ⟨#[]⟩⟩ : Ins) else none) = _
      rw [hx, if_pos ⟨rfl, rfl⟩, back_bytes, ← ho, ← e]
  · obtain ⟨h1, h2, h3, h4, h5⟩ := ref_read (b := i.b) hr
    have hbr : (32 : UInt8) ∉ rtxL i.b i.c.data.toList i.m.data.toList i.d.data.toList := rtx_blank hr
    refine fin [rtxL i.b i.c.data.toList i.m.data.toList i.d.data.toList] ?_ ?_
    · rw [prt_form h, restL, if_neg (by omega), if_neg (by omega), if_neg (by omega), if_pos hk]; exact cut2 hb hbr
    · rw [candI, if_neg (by omega), if_neg (by omega), if_neg (by omega), if_neg (by omega)]
      generalize rtxL i.b i.c.data.toList i.m.data.toList i.d.data.toList = x at *
      show (if [wordL i.op, x].length = 2 ∧ rfOK x = true then some (⟨o, 0, ⟨#[]⟩, rfB x, ⟨(rfC x).toArray⟩, ⟨(rfN x).toArray⟩, ⟨(rfD x).toArray⟩⟩ : Ins) else none) = _
      rw [if_pos ⟨rfl, h1⟩, h2, h3, h4, h5, back_bytes, back_bytes, back_bytes, ← ho, ← e]

/-- what the document reads is written again as it was -/
theorem doc_sound {l : List UInt8} {i : Ins} (h : docP l = some i) : ickI i = 0 ∧ prtI i = l := by
  have hg := gl_cut l
  unfold docP at h
  cases hps : cutL 32 l with
  | nil => exact absurd hps (cutL_ne 32 l)
  | cons p0 ps =>
    rw [hps] at h hg
    rw [List.headD_cons] at h
    unfold parI at h
    cases hc : candI (opdI (opOf p0)) (opOf p0) (p0 :: ps) with
    | none => rw [hc] at h; cases h
    | some j =>
      rw [hc] at h
      simp only at h
      by_cases hj : ickI j = 0
      · rw [if_pos hj] at h
        obtain rfl := Option.some.inj h
        refine ⟨hj, ?_⟩
        rw [prt_form hj]
        have hop : j.op = (opOf p0 : Int) := by
          unfold candI at hc
          split at hc
          · split at hc
            · rw [← Option.some.inj hc]
            · cases hc
          · split at hc
            · split at hc
              · rw [← Option.some.inj hc]
              · cases hc
            · split at hc
              · split at hc
                · rw [← Option.some.inj hc]
                · cases hc
              · split at hc
                · split at hc
                  · rw [← Option.some.inj hc]
                  · cases hc
                · split at hc
                  · rw [← Option.some.inj hc]
                  · cases hc
        have hne : opOf p0 ≠ 0 := by
          have := (ick_op hj).1
          omega
        have hword : wordL j.op = p0 := by
          rw [hop, wordL, Int.toNat_natCast]; exact op_word hne
        rw [hword]
        rw [hop]
        rcases opd_cases (opOf p0) with e | e | e | e | e | e | e | e | e | e
        · have := ick_ins hj
          rw [hop, e] at this
          simp [insB] at this
        · rw [e] at hc ⊢
          have hl : ps = [] := by
            simp only [candI] at hc
            split at hc
            · split at hc
              · rename_i hlen; simpa using hlen
              · cases hc
            · rename_i hq; exact absurd (Or.inr trivial) hq
          subst hl
          rw [← hg]; simp [restL, gl]
        · rw [e] at hc ⊢; exact num_case hc hg (by omega) _ _
        · rw [e] at hc ⊢; exact num_case hc hg (by omega) _ _
        · rw [e] at hc ⊢; exact num_case hc hg (by omega) _ _
        · rw [e] at hc ⊢; exact typ_case hc hg (by omega) _ _
        · rw [e] at hc ⊢; exact typ_case hc hg (by omega) _ _
        · rw [e] at hc ⊢; exact typ_case hc hg (by omega) _ _
        · rw [e] at hc ⊢; exact arr_case hc hg _
        · rw [e] at hc ⊢; exact ref_case hc hg _ _
      · rw [if_neg hj] at h; cases h

theorem own_doc (l : List UInt8) : ownP l = docP l := by
  cases hd : docP l with
  | some i =>
    obtain ⟨h1, h2⟩ := doc_sound hd
    rw [← h2]; exact own_back h1
  | none =>
    cases ho : ownP l with
    | none => rfl
    | some i =>
      obtain ⟨h1, h2⟩ := own_sound ho
      rw [← h2, doc_back h1] at hd
      cases hd
end Go.Proofs.YtfbhjfpkhofifaaGreatDoor
