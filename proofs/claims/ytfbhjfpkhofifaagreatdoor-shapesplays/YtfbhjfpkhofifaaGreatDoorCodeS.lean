/- Plain facts on instructions' texts: which bytes the texts of names, types, references and numbers have; numbers there and back; words there and back; a text cut and joined. -/
import Derived.Test.YtfbhjfpkhofifaaGreatDoorCodeM
namespace Go.Proofs.YtfbhjfpkhofifaaGreatDoor
open Go.RowKit

/-- no blank, full stop, colon or opening bracket -/
def clean (l : List UInt8) : Prop := ∀ c ∈ l, c ≠ 32 ∧ c ≠ 46 ∧ c ≠ 58 ∧ c ≠ 40

theorem word_clean {c : UInt8} (h : wordB c = true) : c ≠ 32 ∧ c ≠ 46 ∧ c ≠ 58 ∧ c ≠ 40 := by
  refine ⟨?_, ?_, ?_, ?_⟩ <;> (rintro rfl; revert h; decide)
theorem valid_clean {l : List UInt8} (h : validL l = true) : clean l := fun c hc => by
  rcases valid_bytes h c hc with rfl | e
  · decide
  · exact word_clean e
theorem clean_app {a b : List UInt8} (ha : clean a) (hb : clean b) : clean (a ++ b) := fun c hc => (List.mem_append.1 hc).elim (ha c) (hb c)
theorem clean_cons {x : UInt8} {b : List UInt8} (hx : x ≠ 32 ∧ x ≠ 46 ∧ x ≠ 58 ∧ x ≠ 40) (hb : clean b) : clean (x :: b) := fun c hc => (List.mem_cons.1 hc).elim (fun e => e ▸ hx) (hb c)
theorem clean_nil : clean [] := fun c hc => by cases hc
theorem write_clean {t : Nat × List UInt8} (h : namedT t = true) : clean (writeT t) := by
  unfold writeT
  refine clean_app (fun c hc => ?_) ?_
  · obtain rfl := List.eq_of_mem_replicate hc
    decide
  · split
    · exact clean_cons (by decide) clean_nil
    · rename_i hne
      unfold namedT at h
      simp only [Bool.or_eq_true, beq_iff_eq] at h
      rcases h with h | h
      · exact absurd h hne
      · exact clean_cons (by decide) (clean_app (valid_clean h) (clean_cons (by decide) clean_nil))
theorem par_text {l : List UInt8} (h : parE l = 0) : ∃ t, l = writeT t ∧ namedT t = true := by
  unfold parE at h
  split at h
  · simp at h
  · split at h
    · rename_i t e
      obtain ⟨h1, h2⟩ := write_read e
      exact ⟨t, by simpa using h1, h2⟩
    · simp at h
theorem par_clean {l : List UInt8} (h : parE l = 0) : clean l := by
  obtain ⟨t, rfl, ht⟩ := par_text h
  exact write_clean ht
theorem prf_clean {l : List UInt8} (h : prfE l = 0) : clean l := by
  unfold prfE at h
  split at h
  · simp at h
  · split at h
    · exact par_clean h
    · split at h
      · rename_i hv
        exact valid_clean hv
      · simp at h
theorem member_clean {l : List UInt8} (h : memberL l = true) : clean l := by
  unfold memberL at h
  simp only [Bool.or_eq_true, Bool.and_eq_true, decide_eq_true_eq, beq_iff_eq] at h
  rcases h with rfl | ⟨_, h⟩
  · intro c hc
    simp [initL] at hc
    rcases hc with rfl | rfl | rfl | rfl | rfl | rfl <;> decide
  · exact fun c hc => word_clean (part_all h c hc)
theorem args_clean {ts : List (Nat × List UInt8)} (h : ∀ t ∈ ts, namedT t = true) : clean (writeArgs ts) := by
  intro c hc
  unfold writeArgs at hc
  obtain ⟨l, hl, hcl⟩ := List.mem_flatten.1 hc
  obtain ⟨t, ht, rfl⟩ := List.mem_map.1 hl
  exact write_clean (h t ht) c hcl
theorem pd_text {l : List UInt8} (h : pdE l = 0) : ∃ r, l = 40 :: r ∧ (32 : UInt8) ∉ l := by
  unfold pdE at h
  split at h
  · simp at h
  · split at h
    · simp at h
    · rename_i d e
      obtain ⟨rfl, h1, h2⟩ := writeD_read e
      refine ⟨_, rfl, ?_⟩
      unfold writeD
      intro m
      rcases List.mem_cons.1 m with e | m
      · revert e; decide
      · rcases List.mem_append.1 m with m | m
        · exact (args_clean h1 32 m).1 rfl
        · rcases List.mem_cons.1 m with e | m
          · revert e; decide
          · cases hd : d.2 with
            | none => rw [hd] at m; revert m; decide
            | some t =>
              rw [hd] at m
              exact (write_clean (h2 t hd) 32 m).1 rfl

/-- numbers -/
theorem dec_digits (u : Nat) : (Lib.decDigits u).all isDig = true ∧ digV (Lib.decDigits u) = u := by
  induction u using Nat.strongRecOn with
  | _ u ih =>
    have hd : ∀ r : Fin 10, isDig (UInt8.ofNat (48 + r.val)) = true ∧ (UInt8.ofNat (48 + r.val)).toNat = 48 + r.val := by decide
    by_cases h : u < 10
    · rw [dec_small h]
      obtain ⟨a, b⟩ := hd ⟨u, h⟩
      simp only at a b
      refine ⟨by rw [List.all_cons, a]; rfl, ?_⟩
      simp only [digV, List.foldl_cons, List.foldl_nil, b]
      omega
    · rw [dec_big h]
      obtain ⟨i1, i2⟩ := ih (u / 10) (by omega)
      obtain ⟨a, b⟩ := hd ⟨u % 10, by omega⟩
      simp only at a b
      refine ⟨by rw [List.all_append, i1, List.all_cons, a]; rfl, ?_⟩
      rw [digV_snoc, i2, b]
      omega
theorem dec_len (k u : Nat) (h : u < 10 ^ (k + 1)) : (Lib.decDigits u).length ≤ k + 1 := by
  induction k generalizing u with
  | zero => rw [dec_small (by simpa using h)]; simp
  | succ k ih =>
    by_cases hs : u < 10
    · rw [dec_small hs]; simp
    · rw [dec_big hs]
      have := ih (u / 10) (by rw [Nat.pow_succ] at h; omega)
      simp; omega
theorem dec_ne (u : Nat) : Lib.decDigits u ≠ [] := by
  by_cases h : u < 10
  · rw [dec_small h]; simp
  · rw [dec_big h]; simp
theorem dig_clean {l : List UInt8} (h : l.all isDig = true) : clean l := fun c hc => by
  have := List.all_eq_true.1 h c hc
  refine ⟨?_, ?_, ?_, ?_⟩ <;> (rintro rfl; revert this; decide)
theorem itoa_clean (n : Int) : clean (Lib.itoa n) := by
  unfold Lib.itoa
  split
  · exact clean_cons (by decide) (dig_clean (dec_digits _).1)
  · exact dig_clean (dec_digits _).1
theorem num_itoa (n : Int) (h1 : -9999999999 ≤ n) (h2 : n ≤ 9999999999) : numR (Lib.itoa n) = (n, true) := by
  by_cases hn : n < 0
  · have e : Lib.itoa n = 45 :: Lib.decDigits n.natAbs := by rw [Lib.itoa, if_pos hn]
    obtain ⟨a, b⟩ := dec_digits n.natAbs
    have hl := dec_len 9 n.natAbs (by omega)
    have hne : 0 < (Lib.decDigits n.natAbs).length := List.length_pos_iff.2 (dec_ne _)
    have hm : minB (Lib.itoa n) = 1 := by rw [e]; rfl
    have hN : numN (Lib.itoa n) = n := by
      rw [numN, hm, if_pos rfl, e]
      show -((digV (Lib.decDigits n.natAbs) : Nat) : Int) = n
      rw [b]; omega
    have hB : numB (Lib.itoa n) = true := by
      rw [numB, hm, e]
      simp only [List.length_cons, List.drop_succ_cons, List.drop_zero, a, Bool.and_true, Bool.and_eq_true, decide_eq_true_eq]
      omega
    rw [numR, hB, if_pos rfl, hN]
    simp
  · have e : Lib.itoa n = Lib.decDigits n.toNat := by rw [Lib.itoa, if_neg hn]
    obtain ⟨a, b⟩ := dec_digits n.toNat
    have hl := dec_len 9 n.toNat (by omega)
    have hne : 0 < (Lib.decDigits n.toNat).length := List.length_pos_iff.2 (dec_ne _)
    have hm : minB (Lib.itoa n) = 0 := by
      rw [e, minB]
      cases hd : Lib.decDigits n.toNat with
      | nil => rfl
      | cons c r =>
        rw [hd] at a
        rw [if_neg]
        intro h
        simp only [List.head?_cons, Option.some.injEq] at h
        subst h
        simp at a
        exact absurd a.1 (by decide)
    have hN : numN (Lib.itoa n) = n := by
      rw [numN, hm, if_neg (by decide), e, b]
      omega
    have hB : numB (Lib.itoa n) = true := by
      rw [numB, hm, e]
      simp only [List.drop_zero, a, Bool.and_true, Bool.and_eq_true, decide_eq_true_eq]
      omega
    rw [numR, hB, if_pos rfl, hN]
    simp
theorem num_back {l : List UInt8} (h : (numR l).2 = true) : Lib.itoa (numR l).1 = l := by
  unfold numR at h ⊢
  split at h
  · rename_i hb
    rw [if_pos hb]
    simpa using h
  · simp at h

/-- words -/
theorem word_op : ∀ o : Fin 41, 1 ≤ o.val → opOf (wordsL.getD o.val []) = o.val ∧ (32 : UInt8) ∉ wordsL.getD o.val [] := by decide
theorem opFrom_word (l : List UInt8) : ∀ (ws : List (List UInt8)) (i : Nat), opFrom l i ws ≠ 0 → i ≤ opFrom l i ws ∧ ws[opFrom l i ws - i]? = some l := by
  intro ws
  induction ws with
  | nil => intro i h; simp [opFrom] at h
  | cons x r ih =>
    intro i h
    rw [opFrom] at h ⊢
    split
    · rename_i e
      simp [e]
    · rename_i e
      rw [if_neg e] at h
      obtain ⟨h1, h2⟩ := ih (i + 1) h
      refine ⟨by omega, ?_⟩
      rw [show opFrom l (i + 1) r - i = (opFrom l (i + 1) r - (i + 1)) + 1 by omega]
      simpa using h2
theorem op_word {l : List UInt8} (h : opOf l ≠ 0) : wordsL.getD (opOf l) [] = l := by
  obtain ⟨h1, h2⟩ := opFrom_word l (wordsL.drop 1) 1 h
  rw [List.getElem?_drop, show 1 + (opFrom l 1 (wordsL.drop 1) - 1) = opOf l by unfold opOf; omega] at h2
  rw [List.getD_eq_getElem?_getD, h2]; rfl

/-- a text cut at blanks, and joined -/
def gl : List (List UInt8) → List UInt8
  | [] => []
  | [a] => a
  | a :: b :: r => a ++ 32 :: gl (b :: r)
theorem gl_cut (l : List UInt8) : gl (cutL 32 l) = l := by
  induction l with
  | nil => rfl
  | cons x l ih =>
    unfold cutL
    split
    · rename_i e
      subst e
      cases h : cutL 32 l with
      | nil => exact absurd h (cutL_ne 32 l)
      | cons p r => rw [h] at ih; show [] ++ 32 :: gl (p :: r) = _; rw [ih]; rfl
    · cases h : cutL 32 l with
      | nil => exact absurd h (cutL_ne 32 l)
      | cons p r =>
        rw [h] at ih
        cases r with
        | nil => show x :: p = _; rw [← ih]; rfl
        | cons q r => show (x :: p) ++ 32 :: gl (q :: r) = _; rw [← ih]; rfl
theorem clean_blank {l : List UInt8} (h : clean l) : (32 : UInt8) ∉ l := fun m => (h 32 m).1 rfl
theorem cut2 {a b : List UInt8} (ha : (32 : UInt8) ∉ a) (hb : (32 : UInt8) ∉ b) : cutL 32 (a ++ 32 :: b) = [a, b] := by rw [cutL_cut 32 a b ha, cutL_free 32 b hb]
theorem cut3 {a b c : List UInt8} (ha : (32 : UInt8) ∉ a) (hb : (32 : UInt8) ∉ b) (hc : (32 : UInt8) ∉ c) : cutL 32 (a ++ 32 :: (b ++ 32 :: c)) = [a, b, c] := by rw [cutL_cut 32 a _ ha, cut2 hb hc]

/-- a reference's text is read as it -/
theorem span_app (p : UInt8 → Bool) (a b : List UInt8) (x : UInt8) (h : ∀ c ∈ a, p c = true) (hx : p x = false) : spanN p (a ++ x :: b) = a.length := by
  induction a with
  | nil => simp [spanN, hx]
  | cons c a ih =>
    have hc := h c (List.mem_cons_self ..)
    have := ih (fun d hd => h d (List.mem_cons_of_mem _ hd))
    simp only [spanN, List.cons_append, List.takeWhile_cons, hc, if_true, List.length_cons] at this ⊢
    omega
theorem ref_read {b : Bool} {c n d : List UInt8} (h : rckB c n d = true) : rfOK (rtxL b c n d) = true ∧ rfB (rtxL b c n d) = b ∧ rfC (rtxL b c n d) = c ∧ rfN (rtxL b c n d) = n ∧ rfD (rtxL b c n d) = d := by
  have hh := h
  unfold rckB at hh
  simp only [Bool.and_eq_true, beq_iff_eq] at hh
  obtain ⟨⟨hc, hn⟩, hd⟩ := hh
  obtain ⟨r, rfl, _⟩ := pd_text hd
  have cc := prf_clean hc
  have cn := member_clean hn
  have e : rtxL b c n (40 :: r) = c ++ (if b then 58 else 46) :: (n ++ 40 :: r) := by rw [rtxL, h]; rfl
  obtain ⟨x, hx⟩ : ∃ x : UInt8, x = (if b then 58 else 46) := ⟨_, rfl⟩
  rw [← hx] at e
  have hxm : notMark x = false := by rw [hx]; cases b <;> decide
  have hxo : notOpen x = true := by rw [hx]; cases b <;> decide
  have hm : markN (c ++ x :: (n ++ 40 :: r)) = c.length := span_app notMark c _ x (fun y hy => by
    obtain ⟨_, h2, h3, _⟩ := cc y hy
    simp [notMark, h2, h3]) hxm
  have ho : openN (c ++ x :: (n ++ 40 :: r)) = c.length + 1 + n.length := by
    rw [openN, hm, List.drop_left]
    have := span_app notOpen (x :: n) r 40 (fun y hy => by
      rcases List.mem_cons.1 hy with rfl | hy
      · exact hxo
      · obtain ⟨_, _, _, h4⟩ := cn y hy
        simp [notOpen, h4]) (by decide)
    rw [List.cons_append] at this
    rw [this]
    simp; omega
  have hC : rfC (c ++ x :: (n ++ 40 :: r)) = c := by rw [rfC, hm]; simp
  have hN : rfN (c ++ x :: (n ++ 40 :: r)) = n := by
    rw [rfN, hm, ho]
    have : (c ++ x :: (n ++ 40 :: r)).drop (c.length + 1) = n ++ 40 :: r := by
      rw [show c ++ x :: (n ++ 40 :: r) = (c ++ [x]) ++ (n ++ 40 :: r) by simp, List.drop_left' (by simp)]
    rw [this]
    simp
  have hD : rfD (c ++ x :: (n ++ 40 :: r)) = 40 :: r := by
    rw [rfD, ho, show c ++ x :: (n ++ 40 :: r) = (c ++ x :: n) ++ 40 :: r by simp, List.drop_left' (by simp; omega)]
  have hB : rfB (c ++ x :: (n ++ 40 :: r)) = b := by
    rw [rfB, hm, List.drop_left]
    simp only [List.head?_cons]
    rw [hx]
    cases b <;> decide
  rw [e]
  refine ⟨?_, hB, hC, hN, hD⟩
  rw [rfOK, ho, hC, hN, hD, h]
  simp
  omega
theorem span_stop (p : UInt8 → Bool) (l : List UInt8) (x : UInt8) (t : List UInt8) (h : l.drop (spanN p l) = x :: t) : p x = false := by
  induction l with
  | nil => simp at h
  | cons c l ih =>
    by_cases hc : p c = true
    · rw [show spanN p (c :: l) = spanN p l + 1 by simp [spanN, hc]] at h
      exact ih (by simpa using h)
    · rw [show spanN p (c :: l) = 0 by simp [spanN, hc]] at h
      simp at h
      rw [← h.1]; simpa using hc
theorem ref_write {l : List UInt8} (h : rfOK l = true) : rckB (rfC l) (rfN l) (rfD l) = true ∧ rtxL (rfB l) (rfC l) (rfN l) (rfD l) = l := by
  unfold rfOK at h
  simp only [Bool.and_eq_true, decide_eq_true_eq] at h
  obtain ⟨h1, h2⟩ := h
  refine ⟨h2, ?_⟩
  rw [rtxL, h2, if_pos rfl]
  have hml : markN l < l.length := by
    have : markN l ≤ openN l := by unfold openN; omega
    omega
  obtain ⟨x, t, ht⟩ : ∃ x t, l.drop (markN l) = x :: t := by
    cases e : l.drop (markN l) with
    | nil => have := List.drop_eq_nil_iff.1 e; omega
    | cons x t => exact ⟨x, t, rfl⟩
  have hx : notMark x = false := span_stop notMark l x t ht
  have hx2 : x = if rfB l then 58 else 46 := by
    have hb : rfB l = decide (x = 58) := by
      rw [rfB, ht]
      rw [Bool.eq_iff_iff]; simp
    have h3 : x = 46 ∨ x = 58 := by
      simp only [notMark, Bool.and_eq_false_iff, Bool.not_eq_false', decide_eq_true_eq] at hx
      exact hx
    rcases h3 with rfl | rfl
    · rw [hb]; decide
    · rw [hb]; decide
  have ho : openN l = markN l + 1 + spanN notOpen t := by
    rw [openN, ht]
    have hxo : notOpen x = true := by
      rw [hx2]; cases rfB l <;> decide
    simp only [spanN, List.takeWhile_cons, hxo, if_true, List.length_cons]
    omega
  have ht2 : l.drop (markN l + 1) = t := by
    have := congrArg (List.drop 1) ht
    rw [List.drop_drop] at this
    simpa using this
  rw [← hx2]
  have e1 : rfN l ++ rfD l = t := by
    rw [rfN, rfD, ht2, ho, show markN l + 1 + spanN notOpen t - (markN l + 1) = spanN notOpen t by omega]
    have : l.drop (markN l + 1 + spanN notOpen t) = t.drop (spanN notOpen t) := by rw [← ht2, List.drop_drop]
    rw [this, List.take_append_drop]
  rw [e1, rfC, ← ht, List.take_append_drop]
end Go.Proofs.YtfbhjfpkhofifaaGreatDoor
