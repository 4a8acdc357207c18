/- Plain facts: an instruction to its text and back, by the document's reading and by the reading of package code. -/
import Derived.Test.YtfbhjfpkhofifaaGreatDoorCodeM
import Derived.Test.YtfbhjfpkhofifaaGreatDoorOwnRefs
import Derived.Deep.RegionWith
import Derived.Lib.AtoiAll
namespace Go.Proofs.YtfbhjfpkhofifaaGreatDoor
open Go.RowKit

/-- no blank, full stop, colon or opening bracket -/
def clean (l : List UInt8) : Prop := ∀ c ∈ l, c ≠ 32 ∧ c ≠ 46 ∧ c ≠ 58 ∧ c ≠ 40

theorem word_clean {c : UInt8} (h : wordB c = true) : c ≠ 32 ∧ c ≠ 46 ∧ c ≠ 58 ∧ c ≠ 40 := by
  refine ⟨?_, ?_, ?_, ?_⟩ <;> (rintro rfl; revert h; decide)
theorem valid_clean {l : List UInt8} (h : validL l = true) : clean l := fun c hc => by
  rcases valid_bytes h c hc with rfl | e
  · decide
  · exact word_clean e
theorem clean_app {a b : List UInt8} (ha : clean a) (hb : clean b) : clean (a ++ b) := fun c hc => (List.mem_append.1 hc).elim (ha c) (hb c)
theorem clean_cons {x : UInt8} {b : List UInt8} (hx : x ≠ 32 ∧ x ≠ 46 ∧ x ≠ 58 ∧ x ≠ 40) (hb : clean b) : clean (x :: b) := fun c hc => (List.mem_cons.1 hc).elim (fun e => e ▸ hx) (hb c)
theorem clean_nil : clean [] := fun c hc => by cases hc
theorem write_clean {t : Nat × List UInt8} (h : namedT t = true) : clean (writeT t) := by
  unfold writeT
  refine clean_app (fun c hc => ?_) ?_
  · obtain rfl := List.eq_of_mem_replicate hc
    decide
  · split
    · exact clean_cons (by decide) clean_nil
    · rename_i hne
      unfold namedT at h
      simp only [Bool.or_eq_true, beq_iff_eq] at h
      rcases h with h | h
      · exact absurd h hne
      · exact clean_cons (by decide) (clean_app (valid_clean h) (clean_cons (by decide) clean_nil))
theorem par_text {l : List UInt8} (h : parE l = 0) : ∃ t, l = writeT t ∧ namedT t = true := by
  unfold parE at h
  split at h
  · simp at h
  · split at h
    · rename_i t e
      obtain ⟨h1, h2⟩ := write_read e
      exact ⟨t, by simpa using h1, h2⟩
    · simp at h
theorem par_clean {l : List UInt8} (h : parE l = 0) : clean l := by
  obtain ⟨t, rfl, ht⟩ := par_text h
  exact write_clean ht
theorem prf_clean {l : List UInt8} (h : prfE l = 0) : clean l := by
  unfold prfE at h
  split at h
  · simp at h
  · split at h
    · exact par_clean h
    · split at h
      · rename_i hv
        exact valid_clean hv
      · simp at h
theorem member_clean {l : List UInt8} (h : memberL l = true) : clean l := by
  unfold memberL at h
  simp only [Bool.or_eq_true, Bool.and_eq_true, decide_eq_true_eq, beq_iff_eq] at h
  rcases h with rfl | ⟨_, h⟩
  · intro c hc
    simp [initL] at hc
    rcases hc with rfl | rfl | rfl | rfl | rfl | rfl <;> decide
  · exact fun c hc => word_clean (part_all h c hc)
theorem args_clean {ts : List (Nat × List UInt8)} (h : ∀ t ∈ ts, namedT t = true) : clean (writeArgs ts) := by
  intro c hc
  unfold writeArgs at hc
  obtain ⟨l, hl, hcl⟩ := List.mem_flatten.1 hc
  obtain ⟨t, ht, rfl⟩ := List.mem_map.1 hl
  exact write_clean (h t ht) c hcl
theorem pd_text {l : List UInt8} (h : pdE l = 0) : ∃ r, l = 40 :: r ∧ (32 : UInt8) ∉ l := by
  unfold pdE at h
  split at h
  · simp at h
  · split at h
    · simp at h
    · rename_i d e
      obtain ⟨rfl, h1, h2⟩ := writeD_read e
      refine ⟨_, rfl, ?_⟩
      unfold writeD
      intro m
      rcases List.mem_cons.1 m with e | m
      · revert e; decide
      · rcases List.mem_append.1 m with m | m
        · exact (args_clean h1 32 m).1 rfl
        · rcases List.mem_cons.1 m with e | m
          · revert e; decide
          · cases hd : d.2 with
            | none => rw [hd] at m; revert m; decide
            | some t =>
              rw [hd] at m
              exact (write_clean (h2 t hd) 32 m).1 rfl

/-- numbers -/
theorem dec_digits (u : Nat) : (Lib.decDigits u).all isDig = true ∧ digV (Lib.decDigits u) = u := by
  induction u using Nat.strongRecOn with
  | _ u ih =>
    have hd : ∀ r : Fin 10, isDig (UInt8.ofNat (48 + r.val)) = true ∧ (UInt8.ofNat (48 + r.val)).toNat = 48 + r.val := by decide
    by_cases h : u < 10
    · rw [dec_small h]
      obtain ⟨a, b⟩ := hd ⟨u, h⟩
      simp only at a b
      refine ⟨by rw [List.all_cons, a]; rfl, ?_⟩
      simp only [digV, List.foldl_cons, List.foldl_nil, b]
      omega
    · rw [dec_big h]
      obtain ⟨i1, i2⟩ := ih (u / 10) (by omega)
      obtain ⟨a, b⟩ := hd ⟨u % 10, by omega⟩
      simp only at a b
      refine ⟨by rw [List.all_append, i1, List.all_cons, a]; rfl, ?_⟩
      rw [digV_snoc, i2, b]
      omega
theorem dec_len (k u : Nat) (h : u < 10 ^ (k + 1)) : (Lib.decDigits u).length ≤ k + 1 := by
  induction k generalizing u with
  | zero => rw [dec_small (by simpa using h)]; simp
  | succ k ih =>
    by_cases hs : u < 10
    · rw [dec_small hs]; simp
    · rw [dec_big hs]
      have := ih (u / 10) (by rw [Nat.pow_succ] at h; omega)
      simp; omega
theorem dec_ne (u : Nat) : Lib.decDigits u ≠ [] := by
  by_cases h : u < 10
  · rw [dec_small h]; simp
  · rw [dec_big h]; simp
theorem dig_clean {l : List UInt8} (h : l.all isDig = true) : clean l := fun c hc => by
  have := List.all_eq_true.1 h c hc
  refine ⟨?_, ?_, ?_, ?_⟩ <;> (rintro rfl; revert this; decide)
theorem itoa_clean (n : Int) : clean (Lib.itoa n) := by
  unfold Lib.itoa
  split
  · exact clean_cons (by decide) (dig_clean (dec_digits _).1)
  · exact dig_clean (dec_digits _).1
theorem num_itoa (n : Int) (h1 : -9999999999 ≤ n) (h2 : n ≤ 9999999999) : numR (Lib.itoa n) = (n, true) := by
  by_cases hn : n < 0
  · have e : Lib.itoa n = 45 :: Lib.decDigits n.natAbs := by rw [Lib.itoa, if_pos hn]
    obtain ⟨a, b⟩ := dec_digits n.natAbs
    have hl := dec_len 9 n.natAbs (by omega)
    have hne : 0 < (Lib.decDigits n.natAbs).length := List.length_pos_iff.2 (dec_ne _)
    have hm : minB (Lib.itoa n) = 1 := by rw [e]; rfl
    have hN : numN (Lib.itoa n) = n := by
      rw [numN, hm, if_pos rfl, e]
      show -((digV (Lib.decDigits n.natAbs) : Nat) : Int) = n
      rw [b]; omega
    have hB : numB (Lib.itoa n) = true := by
      rw [numB, hm, e]
      simp only [List.length_cons, List.drop_succ_cons, List.drop_zero, a, Bool.and_true, Bool.and_eq_true, decide_eq_true_eq]
      omega
    rw [numR, hB, if_pos rfl, hN]
    simp
  · have e : Lib.itoa n = Lib.decDigits n.toNat := by rw [Lib.itoa, if_neg hn]
    obtain ⟨a, b⟩ := dec_digits n.toNat
    have hl := dec_len 9 n.toNat (by omega)
    have hne : 0 < (Lib.decDigits n.toNat).length := List.length_pos_iff.2 (dec_ne _)
    have hm : minB (Lib.itoa n) = 0 := by
      rw [e, minB]
      cases hd : Lib.decDigits n.toNat with
      | nil => rfl
      | cons c r =>
        rw [hd] at a
        rw [if_neg]
        intro h
        simp only [List.head?_cons, Option.some.injEq] at h
        subst h
        simp at a
        exact absurd a.1 (by decide)
    have hN : numN (Lib.itoa n) = n := by
      rw [numN, hm, if_neg (by decide), e, b]
      omega
    have hB : numB (Lib.itoa n) = true := by
      rw [numB, hm, e]
      simp only [List.drop_zero, a, Bool.and_true, Bool.and_eq_true, decide_eq_true_eq]
      omega
    rw [numR, hB, if_pos rfl, hN]
    simp
theorem num_back {l : List UInt8} (h : (numR l).2 = true) : Lib.itoa (numR l).1 = l := by
  unfold numR at h ⊢
  split at h
  · rename_i hb
    rw [if_pos hb]
    simpa using h
  · simp at h

/-- words -/
theorem word_op : ∀ o : Fin 41, 1 ≤ o.val → opOf (wordsL.getD o.val []) = o.val ∧ (32 : UInt8) ∉ wordsL.getD o.val [] := by decide
theorem opFrom_word (l : List UInt8) : ∀ (ws : List (List UInt8)) (i : Nat), opFrom l i ws ≠ 0 → i ≤ opFrom l i ws ∧ ws[opFrom l i ws - i]? = some l := by
  intro ws
  induction ws with
  | nil => intro i h; simp [opFrom] at h
  | cons x r ih =>
    intro i h
    rw [opFrom] at h ⊢
    split
    · rename_i e
      simp [e]
    · rename_i e
      rw [if_neg e] at h
      obtain ⟨h1, h2⟩ := ih (i + 1) h
      refine ⟨by omega, ?_⟩
      rw [show opFrom l (i + 1) r - i = (opFrom l (i + 1) r - (i + 1)) + 1 by omega]
      simpa using h2
theorem op_word {l : List UInt8} (h : opOf l ≠ 0) : wordsL.getD (opOf l) [] = l := by
  obtain ⟨h1, h2⟩ := opFrom_word l (wordsL.drop 1) 1 h
  rw [List.getElem?_drop, show 1 + (opFrom l 1 (wordsL.drop 1) - 1) = opOf l by unfold opOf; omega] at h2
  rw [List.getD_eq_getElem?_getD, h2]; rfl

/-- a text cut at blanks, and joined -/
def gl : List (List UInt8) → List UInt8
  | [] => []
  | [a] => a
  | a :: b :: r => a ++ 32 :: gl (b :: r)
theorem gl_cut (l : List UInt8) : gl (cutL 32 l) = l := by
  induction l with
  | nil => rfl
  | cons x l ih =>
    unfold cutL
    split
    · rename_i e
      subst e
      cases h : cutL 32 l with
      | nil => exact absurd h (cutL_ne 32 l)
      | cons p r => rw [h] at ih; show [] ++ 32 :: gl (p :: r) = _; rw [ih]; rfl
    · cases h : cutL 32 l with
      | nil => exact absurd h (cutL_ne 32 l)
      | cons p r =>
        rw [h] at ih
        cases r with
        | nil => show x :: p = _; rw [← ih]; rfl
        | cons q r => show (x :: p) ++ 32 :: gl (q :: r) = _; rw [← ih]; rfl
theorem clean_blank {l : List UInt8} (h : clean l) : (32 : UInt8) ∉ l := fun m => (h 32 m).1 rfl
theorem cut2 {a b : List UInt8} (ha : (32 : UInt8) ∉ a) (hb : (32 : UInt8) ∉ b) : cutL 32 (a ++ 32 :: b) = [a, b] := by rw [cutL_cut 32 a b ha, cutL_free 32 b hb]
theorem cut3 {a b c : List UInt8} (ha : (32 : UInt8) ∉ a) (hb : (32 : UInt8) ∉ b) (hc : (32 : UInt8) ∉ c) : cutL 32 (a ++ 32 :: (b ++ 32 :: c)) = [a, b, c] := by rw [cutL_cut 32 a _ ha, cut2 hb hc]

/-- a reference's text is read as it -/
theorem span_app (p : UInt8 → Bool) (a b : List UInt8) (x : UInt8) (h : ∀ c ∈ a, p c = true) (hx : p x = false) : spanN p (a ++ x :: b) = a.length := by
  induction a with
  | nil => simp [spanN, hx]
  | cons c a ih =>
    have hc := h c (List.mem_cons_self ..)
    have := ih (fun d hd => h d (List.mem_cons_of_mem _ hd))
    simp only [spanN, List.cons_append, List.takeWhile_cons, hc, if_true, List.length_cons] at this ⊢
    omega
theorem ref_read {b : Bool} {c n d : List UInt8} (h : rckB c n d = true) : rfOK (rtxL b c n d) = true ∧ rfB (rtxL b c n d) = b ∧ rfC (rtxL b c n d) = c ∧ rfN (rtxL b c n d) = n ∧ rfD (rtxL b c n d) = d := by
  have hh := h
  unfold rckB at hh
  simp only [Bool.and_eq_true, beq_iff_eq] at hh
  obtain ⟨⟨hc, hn⟩, hd⟩ := hh
  obtain ⟨r, rfl, _⟩ := pd_text hd
  have cc := prf_clean hc
  have cn := member_clean hn
  have e : rtxL b c n (40 :: r) = c ++ (if b then 58 else 46) :: (n ++ 40 :: r) := by rw [rtxL, h]; rfl
  obtain ⟨x, hx⟩ : ∃ x : UInt8, x = (if b then 58 else 46) := ⟨_, rfl⟩
  rw [← hx] at e
  have hxm : notMark x = false := by rw [hx]; cases b <;> decide
  have hxo : notOpen x = true := by rw [hx]; cases b <;> decide
  have hm : markN (c ++ x :: (n ++ 40 :: r)) = c.length := span_app notMark c _ x (fun y hy => by
    obtain ⟨_, h2, h3, _⟩ := cc y hy
    simp [notMark, h2, h3]) hxm
  have ho : openN (c ++ x :: (n ++ 40 :: r)) = c.length + 1 + n.length := by
    rw [openN, hm, List.drop_left]
    have := span_app notOpen (x :: n) r 40 (fun y hy => by
      rcases List.mem_cons.1 hy with rfl | hy
      · exact hxo
      · obtain ⟨_, _, _, h4⟩ := cn y hy
        simp [notOpen, h4]) (by decide)
    rw [List.cons_append] at this
    rw [this]
    simp; omega
  have hC : rfC (c ++ x :: (n ++ 40 :: r)) = c := by rw [rfC, hm]; simp
  have hN : rfN (c ++ x :: (n ++ 40 :: r)) = n := by
    rw [rfN, hm, ho]
    have : (c ++ x :: (n ++ 40 :: r)).drop (c.length + 1) = n ++ 40 :: r := by
      rw [show c ++ x :: (n ++ 40 :: r) = (c ++ [x]) ++ (n ++ 40 :: r) by simp, List.drop_left' (by simp)]
    rw [this]
    simp
  have hD : rfD (c ++ x :: (n ++ 40 :: r)) = 40 :: r := by
    rw [rfD, ho, show c ++ x :: (n ++ 40 :: r) = (c ++ x :: n) ++ 40 :: r by simp, List.drop_left' (by simp; omega)]
  have hB : rfB (c ++ x :: (n ++ 40 :: r)) = b := by
    rw [rfB, hm, List.drop_left]
    simp only [List.head?_cons]
    rw [hx]
    cases b <;> decide
  rw [e]
  refine ⟨?_, hB, hC, hN, hD⟩
  rw [rfOK, ho, hC, hN, hD, h]
  simp
  omega
theorem span_stop (p : UInt8 → Bool) (l : List UInt8) (x : UInt8) (t : List UInt8) (h : l.drop (spanN p l) = x :: t) : p x = false := by
  induction l with
  | nil => simp at h
  | cons c l ih =>
    by_cases hc : p c = true
    · rw [show spanN p (c :: l) = spanN p l + 1 by simp [spanN, hc]] at h
      exact ih (by simpa using h)
    · rw [show spanN p (c :: l) = 0 by simp [spanN, hc]] at h
      simp at h
      rw [← h.1]; simpa using hc
theorem ref_write {l : List UInt8} (h : rfOK l = true) : rckB (rfC l) (rfN l) (rfD l) = true ∧ rtxL (rfB l) (rfC l) (rfN l) (rfD l) = l := by
  unfold rfOK at h
  simp only [Bool.and_eq_true, decide_eq_true_eq] at h
  obtain ⟨h1, h2⟩ := h
  refine ⟨h2, ?_⟩
  rw [rtxL, h2, if_pos rfl]
  have hml : markN l < l.length := by
    have : markN l ≤ openN l := by unfold openN; omega
    omega
  obtain ⟨x, t, ht⟩ : ∃ x t, l.drop (markN l) = x :: t := by
    cases e : l.drop (markN l) with
    | nil => have := List.drop_eq_nil_iff.1 e; omega
    | cons x t => exact ⟨x, t, rfl⟩
  have hx : notMark x = false := span_stop notMark l x t ht
  have hx2 : x = if rfB l then 58 else 46 := by
    have hb : rfB l = decide (x = 58) := by
      rw [rfB, ht]
      rw [Bool.eq_iff_iff]; simp
    have h3 : x = 46 ∨ x = 58 := by
      simp only [notMark, Bool.and_eq_false_iff, Bool.not_eq_false', decide_eq_true_eq] at hx
      exact hx
    rcases h3 with rfl | rfl
    · rw [hb]; decide
    · rw [hb]; decide
  have ho : openN l = markN l + 1 + spanN notOpen t := by
    rw [openN, ht]
    have hxo : notOpen x = true := by
      rw [hx2]; cases rfB l <;> decide
    simp only [spanN, List.takeWhile_cons, hxo, if_true, List.length_cons]
    omega
  have ht2 : l.drop (markN l + 1) = t := by
    have := congrArg (List.drop 1) ht
    rw [List.drop_drop] at this
    simpa using this
  rw [← hx2]
  have e1 : rfN l ++ rfD l = t := by
    rw [rfN, rfD, ht2, ho, show markN l + 1 + spanN notOpen t - (markN l + 1) = spanN notOpen t by omega]
    have : l.drop (markN l + 1 + spanN notOpen t) = t.drop (spanN notOpen t) := by rw [← ht2, List.drop_drop]
    rw [this, List.take_append_drop]
  rw [e1, rfC, ← ht, List.take_append_drop]


/-- the word of an instruction -/
def wordL (op : Int) : List UInt8 := wordsL.getD op.toNat []
/-- what stands behind the word -/
def restL (k n : Int) (t : List UInt8) (r : List UInt8) : List UInt8 :=
  if k = 1 ∨ k = 2 ∨ k = 3 then 32 :: Lib.itoa n else if k = 4 ∨ k = 5 ∨ k = 6 then 32 :: t else if k = 7 then 32 :: (Lib.itoa n ++ 32 :: t) else if k = 8 then 32 :: r else []
/-- an instruction's text -/
def prtL (op n : Int) (t : ByteArray) (b : Bool) (c m d : ByteArray) : List UInt8 :=
  if ickE op n t b c m d = 0 then wordL op ++ restL (opdI op) n t.data.toList (rtxL b c.data.toList m.data.toList d.data.toList) else []

theorem word_len (op : Int) : (wordL op).length ≤ 20 := by
  have h : ∀ x ∈ wordsL, x.length ≤ 20 := by decide
  unfold wordL
  rw [List.getD_eq_getElem?_getD]
  cases e : wordsL[op.toNat]? with
  | none => simp
  | some x => exact h x (List.mem_of_getElem? e)

theorem ick_type {op n : Int} {t : ByteArray} {b : Bool} {c m d : ByteArray} (h : ickE op n t b c m d = 0) : t.size ≤ 2000 := by
  have hlen : t.data.toList.length = t.size := by simp
  have he : t.toList.isEmpty = true → t.size ≤ 2000 := fun h => by
    rw [Lib.toList_data] at h
    rw [← hlen, List.isEmpty_iff.1 h]; simp
  have hv : validL t.data.toList = true → t.size ≤ 2000 := fun h => by
    unfold validL at h
    rw [Bool.and_eq_true, decide_eq_true_eq] at h
    omega
  have hp : prfE t.data.toList = 0 → t.size ≤ 2000 := fun h => by have := prf_len h; omega
  have hq : parE t.data.toList = 0 → t.size ≤ 2000 := fun h => by
    by_cases h1 : 2000 < t.data.toList.length
    · rw [parE, if_pos h1] at h; exact absurd h (by decide)
    · omega
  have h2 : insB (opdI op) n t.toList.isEmpty t.data.toList (noRefB b c m d) (rckB c.data.toList m.data.toList d.data.toList) = true := by
    unfold ickE at h
    split at h
    · assumption
    · exact absurd h (by decide)
  unfold insB at h2
  rcases opd_cases op with e | e | e | e | e | e | e | e | e | e <;> rw [e] at h2 <;> simp at h2
  · exact he (by simpa using h2.2)
  · exact he (by simpa using h2.1.1.2)
  · exact he (by simpa using h2.1.1.2)
  · exact he (by simpa using h2.1.1.2)
  · exact hv h2.2
  · exact hp h2.2
  · exact hq h2.1.2
  · exact hp h2.1.1.2
  · exact he (by simpa using h2.1.2)

theorem ick_op {op n : Int} {t : ByteArray} {b : Bool} {c m d : ByteArray} (h : ickE op n t b c m d = 0) : 1 ≤ op ∧ op ≤ 40 := by
  by_cases ho : op < 1 ∨ 40 < op
  · have : opdI op = -1 := by rw [opdI, if_pos ho]
    rw [ickE, this] at h
    simp [insB] at h
  · omega

theorem itoa_size (n : Int) (h1 : -9223372036854775808 ≤ n) (h2 : n ≤ 9223372036854775807) : (⟨(Lib.itoa n).toArray⟩ : ByteArray).size ≤ 21 := by
  rw [mk_size]
  exact Lib.itoa_length_le n h1 h2
theorem rtx_size (b : Bool) (c n d : List UInt8) : (⟨(rtxL b c n d).toArray⟩ : ByteArray).size ≤ 5000 := by
  rw [mk_size, rtxL]
  split
  · rename_i h
    obtain ⟨h1, h2, h3⟩ := rck_len h
    simp; omega
  · simp



/-- a text, cut at its first blank -/
def notBl (c : UInt8) : Bool := !decide (c = 32)
def blankN (l : List UInt8) : Nat := spanN notBl l
def cutA (l : List UInt8) : List UInt8 := l.take (blankN l)
def cutB (l : List UInt8) : List UInt8 := l.drop (blankN l + 1)

theorem blank_app {a b : List UInt8} (h : (32 : UInt8) ∉ a) : blankN (a ++ 32 :: b) = a.length :=
  span_app notBl a b 32 (fun c hc => by simp only [notBl, Bool.not_eq_true', decide_eq_false_iff_not]; rintro rfl; exact h hc) (by decide)
theorem blank_free {a : List UInt8} (h : (32 : UInt8) ∉ a) : blankN a = a.length := by
  induction a with
  | nil => rfl
  | cons c a ih =>
    have hc : notBl c = true := by simp only [notBl, Bool.not_eq_true', decide_eq_false_iff_not]; rintro rfl; exact h (List.mem_cons_self ..)
    have := ih (fun m => h (List.mem_cons_of_mem _ m))
    simp only [blankN, spanN, List.takeWhile_cons, hc, if_true, List.length_cons] at this ⊢
    omega
theorem cutA_app {a b : List UInt8} (h : (32 : UInt8) ∉ a) : cutA (a ++ 32 :: b) = a := by rw [cutA, blank_app h]; simp
theorem cutB_app {a b : List UInt8} (h : (32 : UInt8) ∉ a) : cutB (a ++ 32 :: b) = b := by
  rw [cutB, blank_app h, show a ++ 32 :: b = (a ++ [32]) ++ b by simp, List.drop_left' (by simp)]
theorem cutA_free {a : List UInt8} (h : (32 : UInt8) ∉ a) : cutA a = a := by rw [cutA, blank_free h]; simp
theorem cutB_free {a : List UInt8} (h : (32 : UInt8) ∉ a) : cutB a = [] := by rw [cutB, blank_free h]; simp

/-- the number that strconv.Atoi reads, or 0 -/
def rdN (l : List UInt8) : Int := match Lib.atoiAll l with
  | .ok v => v
  | _ => 0

theorem fold_ge : ∀ (l : List UInt8) (acc : Nat), acc ≤ l.foldl (fun n c => n * 10 + (c.toNat - 48)) acc
  | [], acc => Nat.le_refl _
  | c :: r, acc => by
    have := fold_ge r (acc * 10 + (c.toNat - 48))
    rw [List.foldl_cons]; omega
theorem uint_digits : ∀ (l : List UInt8) (acc : Nat), l.all isDig = true → l.foldl (fun n c => n * 10 + (c.toNat - 48)) acc < 1000000000000000000 → Lib.parseUint10 acc l = .ok (l.foldl (fun n c => n * 10 + (c.toNat - 48)) acc)
  | [], acc, _, _ => rfl
  | c :: r, acc, h, hl => by
    rw [List.all_cons, Bool.and_eq_true] at h
    have h2 := h.1
    simp only [isDig, Bool.and_eq_true, decide_eq_true_eq] at h2
    rw [List.foldl_cons] at hl ⊢
    have hg := fold_ge r (acc * 10 + (c.toNat - 48))
    rw [Lib.parseUint10, if_pos h2, if_neg (by omega), if_neg (by omega)]
    exact uint_digits r _ h.2 hl
theorem dec_head (u : Nat) : ∃ c r, Lib.decDigits u = c :: r ∧ isDig c = true := by
  cases h : Lib.decDigits u with
  | nil => exact absurd h (dec_ne u)
  | cons c r =>
    have := (dec_digits u).1
    rw [h, List.all_cons, Bool.and_eq_true] at this
    exact ⟨c, r, rfl, this.1⟩
theorem mag_dec (u : Nat) (h : u < 1000000000000000000) : Lib.parseMag (Lib.decDigits u) = .ok u := by
  obtain ⟨a, b⟩ := dec_digits u
  rw [Lib.parseMag, if_neg (dec_ne u)]
  have := uint_digits (Lib.decDigits u) 0 a (by have e : digV (Lib.decDigits u) = u := b; unfold digV at e; rw [e]; exact h)
  rw [this]
  exact congrArg _ b
theorem rdN_itoa (n : Int) (h1 : -2147483648 ≤ n) (h2 : n ≤ 2147483647) : rdN (Lib.itoa n) = n := by
  by_cases hn : n < 0
  · have e : Lib.itoa n = 45 :: Lib.decDigits n.natAbs := by rw [Lib.itoa, if_pos hn]
    have hm := mag_dec n.natAbs (by omega)
    have h45 : (45 : UInt8).toNat = 45 := rfl
    have ha : Lib.atoiAll (45 :: Lib.decDigits n.natAbs) = .ok n := by
      unfold Lib.atoiAll
      simp only [h45, or_true, if_true, hm, not_true, false_and, if_false, true_and]
      rw [if_neg (by omega)]
      congr 1; omega
    rw [rdN, e, ha]
  · have e : Lib.itoa n = Lib.decDigits n.toNat := by rw [Lib.itoa, if_neg hn]
    have hm := mag_dec n.toNat (by omega)
    obtain ⟨c, r, hd, hc⟩ := dec_head n.toNat
    simp only [isDig, Bool.and_eq_true, decide_eq_true_eq] at hc
    have ha : Lib.atoiAll (Lib.decDigits n.toNat) = .ok n := by
      rw [hd] at hm ⊢
      unfold Lib.atoiAll
      have h43 : ¬ c.toNat = 43 := by omega
      have h45 : ¬ c.toNat = 45 := by omega
      simp only [h43, h45, or_self, if_false, hm, not_false_eq_true, true_and, false_and]
      rw [if_neg (by omega)]
      congr 1; omega
    rw [rdN, e, ha]

theorem par_dims {l : List UInt8} (h : parE l = 0) : (parT l).1 ≤ 255 := by
  rw [parT, if_pos h]
  unfold parE at h
  split at h
  · simp at h
  · split at h
    · rename_i t e
      split at h
      · simp at h
      · rw [e]; simp only; omega
    · simp at h
theorem prf_dims {l : List UInt8} (h : prfE l = 0) : (prfT l).1 ≤ 255 := by
  unfold prfE at h
  unfold prfT
  split at h
  · simp at h
  · rename_i h1
    rw [if_neg h1]
    split at h
    · rename_i h2
      rw [if_pos h2]; exact par_dims h
    · rename_i h2
      rw [if_neg h2]
      split <;> simp
theorem rtx_blank {b : Bool} {c n d : List UInt8} (h : rckB c n d = true) : (32 : UInt8) ∉ rtxL b c n d := by
  rw [rtxL, h, if_pos rfl]
  unfold rckB at h
  simp only [Bool.and_eq_true, beq_iff_eq] at h
  obtain ⟨⟨hc, hn⟩, hd⟩ := h
  obtain ⟨r, _, hb⟩ := pd_text hd
  intro m
  rcases List.mem_append.1 m with m | m
  · exact clean_blank (prf_clean hc) m
  · rcases List.mem_cons.1 m with m | m
    · revert m; cases b <;> decide
    · rcases List.mem_append.1 m with m | m
      · exact clean_blank (member_clean hn) m
      · exact hb m
theorem num_case {k : Int} {o : Nat} {p0 : List UInt8} {ps : List (List UInt8)} {j : Ins} {l : List UInt8} (hc : candI k o (p0 :: ps) = some j) (hg : gl (p0 :: ps) = l) (hk : k = 1 ∨ k = 2 ∨ k = 3) (t r : List UInt8) : p0 ++ restL k j.n t r = l := by
  rw [candI, if_neg (by omega), if_pos hk] at hc
  split at hc
  · rename_i hh
    obtain ⟨p1, rfl⟩ : ∃ p1, ps = [p1] := by
      cases ps with
      | nil => simp at hh
      | cons a q => cases q with
        | nil => exact ⟨a, rfl⟩
        | cons b q => simp at hh
    rw [← Option.some.inj hc, restL, if_pos hk]
    have h2 : (numR p1).2 = true := hh.2
    show p0 ++ 32 :: Lib.itoa (numR p1).1 = l
    rw [num_back h2]; exact hg
  · cases hc
theorem typ_case {k : Int} {o : Nat} {p0 : List UInt8} {ps : List (List UInt8)} {j : Ins} {l : List UInt8} (hc : candI k o (p0 :: ps) = some j) (hg : gl (p0 :: ps) = l) (hk : k = 4 ∨ k = 5 ∨ k = 6) (n : Int) (r : List UInt8) : p0 ++ restL k n j.t.data.toList r = l := by
  rw [candI, if_neg (by omega), if_neg (by omega), if_pos hk] at hc
  split at hc
  · rename_i hh
    obtain ⟨p1, rfl⟩ : ∃ p1, ps = [p1] := by
      cases ps with
      | nil => simp at hh
      | cons a q => cases q with
        | nil => exact ⟨a, rfl⟩
        | cons b q => simp at hh
    rw [← Option.some.inj hc, restL, if_neg (by omega), if_pos hk]
    exact hg
  · cases hc
theorem arr_case {o : Nat} {p0 : List UInt8} {ps : List (List UInt8)} {j : Ins} {l : List UInt8} (hc : candI 7 o (p0 :: ps) = some j) (hg : gl (p0 :: ps) = l) (r : List UInt8) : p0 ++ restL 7 j.n j.t.data.toList r = l := by
  rw [candI, if_neg (by omega), if_neg (by omega), if_neg (by omega), if_pos rfl] at hc
  split at hc
  · rename_i hh
    obtain ⟨p1, p2, rfl⟩ : ∃ p1 p2, ps = [p1, p2] := by
      cases ps with
      | nil => simp at hh
      | cons a q => cases q with
        | nil => simp at hh
        | cons b q => cases q with
          | nil => exact ⟨a, b, rfl⟩
          | cons c q => simp at hh
    rw [← Option.some.inj hc]
    have h2 : (numR p1).2 = true := hh.2
    show p0 ++ 32 :: (Lib.itoa (numR p1).1 ++ 32 :: p2) = l
    rw [num_back h2]; exact hg
  · cases hc
theorem ref_case {o : Nat} {p0 : List UInt8} {ps : List (List UInt8)} {j : Ins} {l : List UInt8} (hc : candI 8 o (p0 :: ps) = some j) (hg : gl (p0 :: ps) = l) (n : Int) (t : List UInt8) : p0 ++ restL 8 n t (rtxL j.b j.c.data.toList j.m.data.toList j.d.data.toList) = l := by
  rw [candI, if_neg (by omega), if_neg (by omega), if_neg (by omega), if_neg (by omega)] at hc
  split at hc
  · rename_i hh
    obtain ⟨p1, rfl⟩ : ∃ p1, ps = [p1] := by
      cases ps with
      | nil => simp at hh
      | cons a q => cases q with
        | nil => exact ⟨a, rfl⟩
        | cons b q => simp at hh
    rw [← Option.some.inj hc]
    have h2 : rfOK p1 = true := hh.2
    show p0 ++ 32 :: rtxL (rfB p1) (rfC p1) (rfN p1) (rfD p1) = l
    rw [(ref_write h2).2]; exact hg
  · cases hc

/-- what package code reads: an instruction by its number and the text behind the word -/
def rdI (o : Int) (l : List UInt8) : Ins :=
  if opdI o = 1 ∨ opdI o = 2 ∨ opdI o = 3 then ⟨o, rdN l, ⟨#[]⟩, false, ⟨#[]⟩, ⟨#[]⟩, ⟨#[]⟩⟩
  else if opdI o = 4 ∨ opdI o = 5 ∨ opdI o = 6 then ⟨o, 0, ⟨l.toArray⟩, false, ⟨#[]⟩, ⟨#[]⟩, ⟨#[]⟩⟩
  else if opdI o = 7 then ⟨o, rdN (cutA l), ⟨(cutB l).toArray⟩, false, ⟨#[]⟩, ⟨#[]⟩, ⟨#[]⟩⟩
  else if opdI o = 8 then ⟨o, 0, ⟨#[]⟩, rfOK l && rfB l, if rfOK l then ⟨(rfC l).toArray⟩ else ⟨#[]⟩, if rfOK l then ⟨(rfN l).toArray⟩ else ⟨#[]⟩, if rfOK l then ⟨(rfD l).toArray⟩ else ⟨#[]⟩⟩
  else ⟨o, 0, ⟨#[]⟩, false, ⟨#[]⟩, ⟨#[]⟩, ⟨#[]⟩⟩
def prtI (i : Ins) : List UInt8 := prtL i.op i.n i.t i.b i.c i.m i.d
def ownR (l : List UInt8) : Ins := rdI (opOf (cutA l)) (cutB l)
def ownP (l : List UInt8) : Option Ins := if ickI (ownR l) = 0 ∧ prtI (ownR l) = l then some (ownR l) else none
/-- the document's reading -/
def docP (l : List UInt8) : Option Ins := parI (opdI (opOf ((cutL 32 l).headD []))) (opOf ((cutL 32 l).headD [])) (cutL 32 l)

theorem bytes_none {t : ByteArray} (h : t.toList.isEmpty = true) : t = ⟨#[]⟩ := by
  rw [Lib.toList_data, List.isEmpty_iff] at h
  apply bytes_ext
  rw [h]
theorem noRef_zero {b : Bool} {c m d : ByteArray} (h : noRefB b c m d = true) : b = false ∧ c = ⟨#[]⟩ ∧ m = ⟨#[]⟩ ∧ d = ⟨#[]⟩ := by
  unfold noRefB at h
  simp only [Bool.and_eq_true, Bool.not_eq_true'] at h
  exact ⟨h.1.1.1, bytes_none h.1.1.2, bytes_none h.1.2, bytes_none h.2⟩
theorem ick_ins {i : Ins} (h : ickI i = 0) : insB (opdI i.op) i.n i.t.toList.isEmpty i.t.data.toList (noRefB i.b i.c i.m i.d) (rckB i.c.data.toList i.m.data.toList i.d.data.toList) = true := by
  unfold ickI ickE at h
  split at h
  · assumption
  · exact absurd h (by decide)
theorem back_bytes (t : ByteArray) : (⟨t.data.toList.toArray⟩ : ByteArray) = t := by apply bytes_ext; simp

/-- what a sound instruction is, by its kind -/
theorem sound_shape {i : Ins} (h : ickI i = 0) :
    (opdI i.op = 0 ∧ i = ⟨i.op, 0, ⟨#[]⟩, false, ⟨#[]⟩, ⟨#[]⟩, ⟨#[]⟩⟩) ∨
    ((opdI i.op = 1 ∨ opdI i.op = 2 ∨ opdI i.op = 3) ∧ (-2147483648 ≤ i.n ∧ i.n ≤ 2147483647) ∧ i = ⟨i.op, i.n, ⟨#[]⟩, false, ⟨#[]⟩, ⟨#[]⟩, ⟨#[]⟩⟩) ∨
    ((opdI i.op = 4 ∨ opdI i.op = 5 ∨ opdI i.op = 6) ∧ clean i.t.data.toList ∧ i = ⟨i.op, 0, i.t, false, ⟨#[]⟩, ⟨#[]⟩, ⟨#[]⟩⟩) ∨
    (opdI i.op = 7 ∧ (1 ≤ i.n ∧ i.n ≤ 255) ∧ clean i.t.data.toList ∧ i = ⟨i.op, i.n, i.t, false, ⟨#[]⟩, ⟨#[]⟩, ⟨#[]⟩⟩) ∨
    (opdI i.op = 8 ∧ rckB i.c.data.toList i.m.data.toList i.d.data.toList = true ∧ i = ⟨i.op, 0, ⟨#[]⟩, i.b, i.c, i.m, i.d⟩) := by
  have hi := ick_ins h
  clear h
  obtain ⟨o, n, t, b, c, m, d⟩ := i
  simp only at hi ⊢
  unfold insB at hi
  rcases opd_cases o with e | e | e | e | e | e | e | e | e | e <;> rw [e] at hi ⊢ <;> simp only [Bool.and_eq_true, beq_iff_eq, decide_eq_true_eq, Int.reduceEq, if_true, if_false, Int.reduceNeg] at hi
  · exact absurd hi (by decide)
  · obtain ⟨⟨hz, hn⟩, ht⟩ := hi
    obtain ⟨rfl, rfl, rfl, rfl⟩ := noRef_zero hz
    obtain rfl := bytes_none ht
    subst hn
    exact .inl ⟨rfl, rfl⟩
  · obtain ⟨⟨⟨hz, ht⟩, h1⟩, h2⟩ := hi
    obtain ⟨rfl, rfl, rfl, rfl⟩ := noRef_zero hz
    obtain rfl := bytes_none ht
    exact .inr (.inl ⟨.inl rfl, ⟨h1, h2⟩, rfl⟩)
  · obtain ⟨⟨⟨hz, ht⟩, h1⟩, h2⟩ := hi
    obtain ⟨rfl, rfl, rfl, rfl⟩ := noRef_zero hz
    obtain rfl := bytes_none ht
    exact .inr (.inl ⟨.inr (.inl rfl), ⟨by omega, by omega⟩, rfl⟩)
  · obtain ⟨⟨⟨hz, ht⟩, h1⟩, h2⟩ := hi
    obtain ⟨rfl, rfl, rfl, rfl⟩ := noRef_zero hz
    obtain rfl := bytes_none ht
    exact .inr (.inl ⟨.inr (.inr rfl), ⟨by omega, by omega⟩, rfl⟩)
  · obtain ⟨⟨hz, hn⟩, ht⟩ := hi
    obtain ⟨rfl, rfl, rfl, rfl⟩ := noRef_zero hz
    subst hn
    exact .inr (.inr (.inl ⟨.inl rfl, valid_clean ht, rfl⟩))
  · obtain ⟨⟨hz, hn⟩, ht⟩ := hi
    obtain ⟨rfl, rfl, rfl, rfl⟩ := noRef_zero hz
    subst hn
    exact .inr (.inr (.inl ⟨.inr (.inl rfl), prf_clean ht, rfl⟩))
  · obtain ⟨⟨⟨hz, hn⟩, ht⟩, _⟩ := hi
    obtain ⟨rfl, rfl, rfl, rfl⟩ := noRef_zero hz
    subst hn
    exact .inr (.inr (.inl ⟨.inr (.inr rfl), par_clean ht, rfl⟩))
  · obtain ⟨⟨⟨hz, ht⟩, h1⟩, h2⟩ := hi
    obtain ⟨rfl, rfl, rfl, rfl⟩ := noRef_zero hz
    have h3 := prf_dims ht
    exact .inr (.inr (.inr (.inl ⟨rfl, ⟨h1, by omega⟩, prf_clean ht, rfl⟩)))
  · obtain ⟨⟨hn, ht⟩, hr⟩ := hi
    obtain rfl := bytes_none ht
    subst hn
    exact .inr (.inr (.inr (.inr ⟨rfl, hr, rfl⟩)))

theorem prt_form {i : Ins} (h : ickI i = 0) : prtI i = wordL i.op ++ restL (opdI i.op) i.n i.t.data.toList (rtxL i.b i.c.data.toList i.m.data.toList i.d.data.toList) := by
  unfold prtI prtL; rw [if_pos (show ickE i.op i.n i.t i.b i.c i.m i.d = 0 from h)]
theorem op_nat {i : Ins} (h : ickI i = 0) : ∃ o : Nat, i.op = o ∧ opOf (wordL i.op) = o ∧ (32 : UInt8) ∉ wordL i.op := by
  obtain ⟨h1, h2⟩ := ick_op h
  have := word_op ⟨i.op.toNat, by omega⟩ (by show 1 ≤ i.op.toNat; omega)
  exact ⟨i.op.toNat, by omega, this.1, this.2⟩

theorem own_read {i : Ins} (h : ickI i = 0) : ownR (prtI i) = i := by
  obtain ⟨o, ho, hw, hb⟩ := op_nat h
  rw [prt_form h]
  rcases sound_shape h with ⟨hk, e⟩ | ⟨hk, hn, e⟩ | ⟨hk, hc, e⟩ | ⟨hk, hn, hc, e⟩ | ⟨hk, hr, e⟩
  · have hr0 : ∀ n t r, restL (opdI i.op) n t r = [] := fun n t r => by rw [hk]; rfl
    rw [hr0, List.append_nil, ownR, cutA_free hb, cutB_free hb, hw, ← ho, rdI, hk]
    conv => rhs; rw [e]
    rfl
  · have hr0 : ∀ t r, restL (opdI i.op) i.n t r = 32 :: Lib.itoa i.n := fun t r => by rw [restL, if_pos hk]
    rw [hr0, ownR, cutA_app hb, cutB_app hb, hw, ← ho, rdI, if_pos hk, rdN_itoa i.n hn.1 hn.2]
    exact e.symm
  · have hk' : ¬ (opdI i.op = 1 ∨ opdI i.op = 2 ∨ opdI i.op = 3) := by omega
    have hr0 : ∀ n t r, restL (opdI i.op) n t r = 32 :: t := fun n t r => by rw [restL, if_neg hk', if_pos hk]
    rw [hr0, ownR, cutA_app hb, cutB_app hb, hw, ← ho, rdI, if_neg hk', if_pos hk, back_bytes]
    exact e.symm
  · have hr0 : ∀ n t r, restL (opdI i.op) n t r = 32 :: (Lib.itoa n ++ 32 :: t) := fun n t r => by rw [hk]; rfl
    have hb2 : (32 : UInt8) ∉ Lib.itoa i.n := clean_blank (itoa_clean _)
    rw [hr0, ownR, cutA_app hb, cutB_app hb, hw, ← ho, rdI, if_neg (by omega), if_neg (by omega), if_pos hk, cutA_app hb2, cutB_app hb2, rdN_itoa i.n (by omega) (by omega), back_bytes]
    exact e.symm
  · have hr0 : ∀ n t r, restL (opdI i.op) n t r = 32 :: r := fun n t r => by rw [hk]; rfl
    obtain ⟨h1, h2, h3, h4, h5⟩ := ref_read (b := i.b) hr
    rw [hr0, ownR, cutA_app hb, cutB_app hb, hw, ← ho, rdI, if_neg (by omega), if_neg (by omega), if_neg (by omega), if_pos hk, h1, h2, h3, h4, h5, if_pos rfl, if_pos rfl, if_pos rfl, Bool.true_and, back_bytes, back_bytes, back_bytes]
    exact e.symm

theorem own_back {i : Ins} (h : ickI i = 0) : ownP (prtI i) = some i := by
  rw [ownP, own_read h, if_pos ⟨h, rfl⟩]
theorem own_sound {l : List UInt8} {i : Ins} (h : ownP l = some i) : ickI i = 0 ∧ prtI i = l := by
  unfold ownP at h
  split at h
  · rename_i hh
    obtain rfl := Option.some.inj h
    exact hh
  · cases h

/-- the document reads what is written -/
theorem doc_back {i : Ins} (h : ickI i = 0) : docP (prtI i) = some i := by
  obtain ⟨o, ho, hw, hb⟩ := op_nat h
  have fin : ∀ ps : List (List UInt8), cutL 32 (prtI i) = wordL i.op :: ps → candI (opdI i.op) o (wordL i.op :: ps) = some i → docP (prtI i) = some i := by
    intro ps hps hc
    rw [docP, hps, List.headD_cons, hw, ← ho, parI, ho, ← ho]
    rw [ho] at hc ⊢
    rw [hc]
    simp only
    rw [if_pos h]
  rcases sound_shape h with ⟨hk, e⟩ | ⟨hk, hn, e⟩ | ⟨hk, hc, e⟩ | ⟨hk, hn, hc, e⟩ | ⟨hk, hr, e⟩
  · refine fin [] ?_ ?_
    · rw [prt_form h, hk]; exact (congrArg _ (List.append_nil _)).trans (cutL_free 32 _ hb)
    · rw [candI, if_pos (by omega), if_pos (show [wordL i.op].length = 1 from rfl), ← ho, ← e]
  · refine fin [Lib.itoa i.n] ?_ ?_
    · rw [prt_form h, restL, if_pos hk]; exact cut2 hb (clean_blank (itoa_clean _))
    · have hx : numR (Lib.itoa i.n) = (i.n, true) := num_itoa i.n (by omega) (by omega)
      rw [candI, if_neg (by omega), if_pos hk]
      show (if [wordL i.op, Lib.itoa i.n].length = 2 ∧ (numR (Lib.itoa i.n)).2 = true then some (⟨o, (numR (Lib.itoa i.n)).1, ⟨#[]⟩, false, ⟨#[]⟩, ⟨#[]⟩, ⟨#[]⟩⟩ : Ins) else none) = _
      rw [hx, if_pos ⟨rfl, rfl⟩, ← ho, ← e]
  · refine fin [i.t.data.toList] ?_ ?_
    · rw [prt_form h, restL, if_neg (by omega), if_pos hk]; exact cut2 hb (clean_blank hc)
    · rw [candI, if_neg (by omega), if_neg (by omega), if_pos hk]
      show (if [wordL i.op, i.t.data.toList].length = 2 then some (⟨o, 0, ⟨i.t.data.toList.toArray⟩, false, ⟨#[]⟩, ⟨#[]⟩, ⟨#[]⟩⟩ : Ins) else none) = _
      rw [if_pos (show [wordL i.op, i.t.data.toList].length = 2 from rfl), back_bytes, ← ho, ← e]
  · refine fin [Lib.itoa i.n, i.t.data.toList] ?_ ?_
    · rw [prt_form h, restL, if_neg (by omega), if_neg (by omega), if_pos hk]; exact cut3 hb (clean_blank (itoa_clean _)) (clean_blank hc)
    · have hx : numR (Lib.itoa i.n) = (i.n, true) := num_itoa i.n (by omega) (by omega)
      rw [candI, if_neg (by omega), if_neg (by omega), if_neg (by omega), if_pos hk]
      show (if [wordL i.op, Lib.itoa i.n, i.t.data.toList].length = 3 ∧ (numR (Lib.itoa i.n)).2 = true then some (⟨o, (numR (Lib.itoa i.n)).1, ⟨i.t.data.toList.toArray⟩, false, ⟨#[]⟩, ⟨#[]⟩, ⟨#[]⟩⟩ : Ins) else none) = _
      rw [hx, if_pos ⟨rfl, rfl⟩, back_bytes, ← ho, ← e]
  · obtain ⟨h1, h2, h3, h4, h5⟩ := ref_read (b := i.b) hr
    have hbr : (32 : UInt8) ∉ rtxL i.b i.c.data.toList i.m.data.toList i.d.data.toList := rtx_blank hr
    refine fin [rtxL i.b i.c.data.toList i.m.data.toList i.d.data.toList] ?_ ?_
    · rw [prt_form h, restL, if_neg (by omega), if_neg (by omega), if_neg (by omega), if_pos hk]; exact cut2 hb hbr
    · rw [candI, if_neg (by omega), if_neg (by omega), if_neg (by omega), if_neg (by omega)]
      generalize rtxL i.b i.c.data.toList i.m.data.toList i.d.data.toList = x at *
      show (if [wordL i.op, x].length = 2 ∧ rfOK x = true then some (⟨o, 0, ⟨#[]⟩, rfB x, ⟨(rfC x).toArray⟩, ⟨(rfN x).toArray⟩, ⟨(rfD x).toArray⟩⟩ : Ins) else none) = _
      rw [if_pos ⟨rfl, h1⟩, h2, h3, h4, h5, back_bytes, back_bytes, back_bytes, ← ho, ← e]

/-- what the document reads is written again as it was -/
theorem doc_sound {l : List UInt8} {i : Ins} (h : docP l = some i) : ickI i = 0 ∧ prtI i = l := by
  have hg := gl_cut l
  unfold docP at h
  cases hps : cutL 32 l with
  | nil => exact absurd hps (cutL_ne 32 l)
  | cons p0 ps =>
    rw [hps] at h hg
    rw [List.headD_cons] at h
    unfold parI at h
    cases hc : candI (opdI (opOf p0)) (opOf p0) (p0 :: ps) with
    | none => rw [hc] at h; cases h
    | some j =>
      rw [hc] at h
      simp only at h
      by_cases hj : ickI j = 0
      · rw [if_pos hj] at h
        obtain rfl := Option.some.inj h
        refine ⟨hj, ?_⟩
        rw [prt_form hj]
        have hop : j.op = (opOf p0 : Int) := by
          unfold candI at hc
          split at hc
          · split at hc
            · rw [← Option.some.inj hc]
            · cases hc
          · split at hc
            · split at hc
              · rw [← Option.some.inj hc]
              · cases hc
            · split at hc
              · split at hc
                · rw [← Option.some.inj hc]
                · cases hc
              · split at hc
                · split at hc
                  · rw [← Option.some.inj hc]
                  · cases hc
                · split at hc
                  · rw [← Option.some.inj hc]
                  · cases hc
        have hne : opOf p0 ≠ 0 := by
          have := (ick_op hj).1
          omega
        have hword : wordL j.op = p0 := by
          rw [hop, wordL, Int.toNat_natCast]; exact op_word hne
        rw [hword]
        rw [hop]
        rcases opd_cases (opOf p0) with e | e | e | e | e | e | e | e | e | e
        · have := ick_ins hj
          rw [hop, e] at this
          simp [insB] at this
        · rw [e] at hc ⊢
          have hl : ps = [] := by
            simp only [candI] at hc
            split at hc
            · split at hc
              · rename_i hlen; simpa using hlen
              · cases hc
            · rename_i hq; exact absurd (Or.inr trivial) hq
          subst hl
          rw [← hg]; simp [restL, gl]
        · rw [e] at hc ⊢; exact num_case hc hg (by omega) _ _
        · rw [e] at hc ⊢; exact num_case hc hg (by omega) _ _
        · rw [e] at hc ⊢; exact num_case hc hg (by omega) _ _
        · rw [e] at hc ⊢; exact typ_case hc hg (by omega) _ _
        · rw [e] at hc ⊢; exact typ_case hc hg (by omega) _ _
        · rw [e] at hc ⊢; exact typ_case hc hg (by omega) _ _
        · rw [e] at hc ⊢; exact arr_case hc hg _
        · rw [e] at hc ⊢; exact ref_case hc hg _ _
      · rw [if_neg hj] at h; cases h

theorem own_doc (l : List UInt8) : ownP l = docP l := by
  cases hd : docP l with
  | some i =>
    obtain ⟨h1, h2⟩ := doc_sound hd
    rw [← h2]; exact own_back h1
  | none =>
    cases ho : ownP l with
    | none => rfl
    | some i =>
      obtain ⟨h1, h2⟩ := own_sound ho
      rw [← h2, doc_back h1] at hd
      cases hd
end Go.Proofs.YtfbhjfpkhofifaaGreatDoor
