/- The law of package code's answers on an instruction (CodePlays): what the law's own functions do; the walk. -/
import Derived.Test.YtijlipllahfakaaDoorOwnP
import Derived.Test.YtijlipllahfakaaDoorCodeJ
namespace Go.Proofs.YtijlipllahfakaaDoor
open Go.RowKit

set_option maxRecDepth 100000 in
set_option maxHeartbeats 1000000 in
theorem rWord_any (op : Int) (w : World) : Calls Tryd.prog 10 #[.int .i64 op] w fun e w' => e = .returned (.tuple #[.string ⟨(wrdL op).toArray⟩, .int .i64 (wrdE op)]) ∧ Below w.heap.size w w' := by
  cases h : opB op with
  | false =>
    have e1 : wrdL op = [] := by rw [wrdL, h]; rfl
    have e2 : wrdE op = 2 := by rw [wrdE, h]; rfl
    rw [e1, e2]
    have hh : op < 1 ∨ 40 < op := by
      by_cases hx : 1 ≤ op ∧ op ≤ 40
      · rw [(opB_at op).2 hx] at h; cases h
      · omega
    clear h e1 e2
    rcases hh with h1 | h1
    · go_enter Tryd.func10, Tryd.ntmps10
      go_wp2
      exact bodyPost_ret (v := .tuple #[.string ⟨#[]⟩, .int .i64 2]) (by simp [results, Tryd.results10, go_sem, *]) rfl ⟨rfl, Below.refl _ _⟩
    · have h2 : ¬ op < 1 := by omega
      go_enter Tryd.func10, Tryd.ntmps10
      go_wp2
      exact bodyPost_ret (v := .tuple #[.string ⟨#[]⟩, .int .i64 2]) (by simp [results, Tryd.results10, go_sem, *]) rfl ⟨rfl, Below.refl _ _⟩
  | true =>
    obtain ⟨h1, h2⟩ := (opB_at op).1 h
    obtain ⟨k, rfl⟩ : ∃ k : Nat, op = k := ⟨op.toNat, by omega⟩
    have hk : k < 41 := by omega
    obtain ⟨x, hx⟩ : ∃ x, wordsL[k]? = some x := ⟨_, List.getElem?_eq_getElem (by rw [words_size]; exact hk)⟩
    have e1 : wrdL k = x := by rw [wrdL, h, if_pos rfl, wordL, List.getD_eq_getElem?_getD, Int.toNat_natCast, hx]; rfl
    have e2 : wrdE k = 0 := by rw [wrdE, h]; rfl
    rw [e1, e2]
    have HX : Hid (wordsL[k]? = some x) := hx
    have HW : Hid (∀ w, _) := rWords_row
    have h3 : ¬ (k : Int) < 1 := by omega
    have h4 : ¬ (40 : Int) < (k : Int) := by omega
    clear h e1 e2 hx h1 h2
    go_enter Tryd.func10, Tryd.ntmps10
    go_wp2_with (go_at_call 29; refine (HW.out _).mono ?_; rintro e w1 ⟨rfl, hb1, hcw⟩; have c0 := hcw k x HX.out; clear hcw)
    exact bodyPost_ret (v := .tuple #[.string ⟨x.toArray⟩, .int .i64 0]) (by simp [results, Tryd.results10, go_sem, *]) rfl ⟨rfl, hb1⟩

theorem five_text : prtL 1 (-5) ⟨#[]⟩ false ⟨#[]⟩ ⟨#[]⟩ ⟨#[]⟩ = [105, 99, 111, 110, 115, 116, 32, 45, 53] ∧ ickE 1 (-5) ⟨#[]⟩ false ⟨#[]⟩ ⟨#[]⟩ ⟨#[]⟩ = 0 := by
  have h0 : (⟨#[]⟩ : ByteArray).toList = [] := by rw [Lib.toList_data]
  have h1 : ickE 1 (-5) ⟨#[]⟩ false ⟨#[]⟩ ⟨#[]⟩ ⟨#[]⟩ = 0 := by
    rw [ickE, show opdI 1 = 1 from rfl, noRefB, h0]; rfl
  refine ⟨?_, h1⟩
  rw [prtL, if_pos h1, show opdI 1 = 1 from rfl, restL, if_pos (.inl rfl), Lib.itoa, if_pos (by decide), dec_small (by decide)]
  rfl

set_option maxRecDepth 100000 in
set_option maxHeartbeats 1000000 in
theorem awake_any (w : World) (hG : GIn w) : Calls Tryd.prog 8 #[] w fun e w' => e = .returned (.bool true) ∧ Below w.heap.size w w' := by
  have HP : Hid (∀ w, GIn w → Calls Tryd.prog 15 #[.agg #[.int .i64 1, .int .i64 (-5), .string ⟨#[]⟩, .bool false, .string ⟨#[]⟩, .string ⟨#[]⟩, .string ⟨#[]⟩]] w fun e w' => e = .returned (.tuple #[.string ⟨#[105, 99, 111, 110, 115, 116, 32, 45, 53]⟩, .int .i64 0]) ∧ Below w.heap.size w w') := fun w h => by
    have hz : (⟨#[]⟩ : ByteArray).size ≤ maxLen := by decide
    have := oprint_any 1 (-5) (by decide) (by decide) ⟨#[]⟩ false ⟨#[]⟩ ⟨#[]⟩ ⟨#[]⟩ hz hz hz hz w h
    rw [five_text.1, five_text.2] at this
    exact this
  have HG : Hid (GIn w) := hG
  clear hG
  go_enter Tryd.func8, Tryd.ntmps8
  go_wp2_with (go_at_call 15; refine (HP.out _ HG.out).mono ?_; rintro e w1 ⟨rfl, hb1⟩)
  go_ret
  exact ⟨rfl, hb1⟩

/-- the seven cells of an instruction that lies in a block of its own -/
def Boxed (w : World) (k : Nat) (op n : Int) (t : ByteArray) (b : Bool) (c m d : ByteArray) : Prop :=
  w.cell? ⟨k, 0, none⟩ = some (.int .i64 op) ∧ w.cell? ⟨k, 1, none⟩ = some (.int .i64 n) ∧ w.cell? ⟨k, 2, none⟩ = some (.string t) ∧ w.cell? ⟨k, 3, none⟩ = some (.bool b) ∧ w.cell? ⟨k, 4, none⟩ = some (.string c) ∧ w.cell? ⟨k, 5, none⟩ = some (.string m) ∧ w.cell? ⟨k, 6, none⟩ = some (.string d)
theorem Boxed.keep {w w' : World} {N k : Nat} {op n : Int} {t : ByteArray} {b : Bool} {c m d : ByteArray} (h : Boxed w k op n t b c m d) (hb : Below N w w') (hk : k < N) : Boxed w' k op n t b c m d :=
  ⟨(hb.cell hk).trans h.1, (hb.cell hk).trans h.2.1, (hb.cell hk).trans h.2.2.1, (hb.cell hk).trans h.2.2.2.1, (hb.cell hk).trans h.2.2.2.2.1, (hb.cell hk).trans h.2.2.2.2.2.1, (hb.cell hk).trans h.2.2.2.2.2.2⟩
theorem Boxed.new (w : World) (op n : Int) (t : ByteArray) (b : Bool) (c m d : ByteArray) : Boxed (w.alloc (.cells #[.int .i64 op, .int .i64 n, .string t, .bool b, .string c, .string m, .string d] 25)) w.heap.size op n t b c m d := by
  refine ⟨?_, ?_, ?_, ?_, ?_, ?_, ?_⟩ <;> simp [go_sem]

/-- the worlds behind a law's entry: what was there is as it was, the boxed argument too -/
def LawW (w BX w' : World) : Prop := Below (w.heap.size + 1) BX w'

set_option maxRecDepth 100000 in
set_option maxHeartbeats 4000000 in
theorem CodePlays_any (op n : Int) (hn1 : -9223372036854775808 ≤ n) (hn2 : n ≤ 9223372036854775807) (t : ByteArray) (b : Bool) (c m d : ByteArray) (ht : t.size ≤ maxLen) (hc : c.size ≤ maxLen) (hm : m.size ≤ maxLen) (hd : d.size ≤ maxLen) (w : World) (hG : GIn w) : Calls Tryd.prog 3 #[.agg #[.int .i64 op, .int .i64 n, .string t, .bool b, .string c, .string m, .string d]] w fun e w' => e = .returned (.bool true) ∧ Below w.heap.size w w' := by
  obtain ⟨BX, hBX⟩ : ∃ BX, BX = w.alloc (.cells #[.int .i64 op, .int .i64 n, .string t, .bool b, .string c, .string m, .string d] 25) := ⟨_, rfl⟩
  have hBs : BX.heap.size = w.heap.size + 1 := by rw [hBX]; simp
  have HGB : Hid (GIn BX) := by rw [hBX]; exact hG.keep ((Below.refl _ _).alloc (Nat.le_refl _) _)
  have HXB : Hid (Boxed BX w.heap.size op n t b c m d) := by rw [hBX]; exact Boxed.new _ _ _ _ _ _ _ _
  have HT : Hid (∀ w' w'', LawW w BX w' → Below w'.heap.size w' w'' → LawW w BX w'') := fun w' w'' h hb => Below.trans h (hb.mono (by have := Below.size h; omega))
  have HTG : Hid (∀ w', LawW w BX w' → GIn w') := fun w' h => HGB.out.keep (by rw [hBs]; exact h)
  have HTX : Hid (∀ w', LawW w BX w' → Boxed w' w.heap.size op n t b c m d) := fun w' h => HXB.out.keep h (by omega)
  have HTB : Hid (∀ w', LawW w BX w' → Below w.heap.size w w') := fun w' h => ((show Below w.heap.size w BX by rw [hBX]; exact (Below.refl _ _).alloc (Nat.le_refl _) _)).trans (Below.mono h (by omega))
  have HT0 : Hid (LawW w BX BX) := Below.refl _ _
  have HA : Hid (∀ w', Hid (LawW w BX w') → Calls Tryd.prog 8 #[] w' fun e w'' => e = .returned (.bool true) ∧ Hid (LawW w BX w'')) := fun w' h => (awake_any w' (HTG.out w' h)).mono fun e w'' ⟨he, hb⟩ => ⟨he, HT.out _ _ h hb⟩
  have H9 : Hid (∀ w', Hid (LawW w BX w') → Calls Tryd.prog 9 #[.int .i64 op] w' fun e w'' => e = .returned (.tuple #[.string ⟨(wrdL op).toArray⟩, .int .i64 (wrdE op)]) ∧ Hid (LawW w BX w'')) := fun w' h => (word_any op w' (HTG.out w' h).1).mono fun e w'' ⟨he, hb⟩ => ⟨he, by rw [hb]; exact h⟩
  have H10 : Hid (∀ w', Hid (LawW w BX w') → Calls Tryd.prog 10 #[.int .i64 op] w' fun e w'' => e = .returned (.tuple #[.string ⟨(wrdL op).toArray⟩, .int .i64 (wrdE op)]) ∧ Hid (LawW w BX w'')) := fun w' h => (rWord_any op w').mono fun e w'' ⟨he, hb⟩ => ⟨he, HT.out _ _ h hb⟩
  have H11 : Hid (∀ w', Hid (LawW w BX w') → Calls Tryd.prog 11 #[.int .i64 op] w' fun e w'' => e = .returned (.int .i64 (opdI op)) ∧ Hid (LawW w BX w'')) := fun w' h => (operand_any op w').mono fun e w'' ⟨he, hb⟩ => ⟨he, by rw [hb]; exact h⟩
  have H12 : Hid (∀ w', Hid (LawW w BX w') → Calls Tryd.prog 12 #[.int .i64 op] w' fun e w'' => e = .returned (.int .i64 (opdI op)) ∧ Hid (LawW w BX w'')) := fun w' h => (rOperand_any op w').mono fun e w'' ⟨he, hb⟩ => ⟨he, by rw [hb]; exact h⟩
  have H13 : Hid (∀ w', Hid (LawW w BX w') → Calls Tryd.prog 13 #[.agg #[.int .i64 op, .int .i64 n, .string t, .bool b, .string c, .string m, .string d]] w' fun e w'' => e = .returned (.int .i64 (ickE op n t b c m d)) ∧ Hid (LawW w BX w'')) := fun w' h => (check_any op n t b c m d ht hc hm hd w').mono fun e w'' ⟨he, hb⟩ => ⟨he, HT.out _ _ h hb⟩
  have H14 : Hid (∀ w', Hid (LawW w BX w') → Calls Tryd.prog 14 #[.agg #[.int .i64 op, .int .i64 n, .string t, .bool b, .string c, .string m, .string d]] w' fun e w'' => e = .returned (.int .i64 (ickE op n t b c m d)) ∧ Hid (LawW w BX w'')) := fun w' h => (rCheck_any op n t b c m d ht hc hm hd w').mono fun e w'' ⟨he, hb⟩ => ⟨he, HT.out _ _ h hb⟩
  have H15 : Hid (∀ w', Hid (LawW w BX w') → Calls Tryd.prog 15 #[.agg #[.int .i64 op, .int .i64 n, .string t, .bool b, .string c, .string m, .string d]] w' fun e w'' => e = .returned (.tuple #[.string ⟨(prtL op n t b c m d).toArray⟩, .int .i64 (ickE op n t b c m d)]) ∧ Hid (LawW w BX w'')) := fun w' h => (oprint_any op n hn1 hn2 t b c m d ht hc hm hd w' (HTG.out w' h)).mono fun e w'' ⟨he, hb⟩ => ⟨he, HT.out _ _ h hb⟩
  have H16 : Hid (∀ w', Hid (LawW w BX w') → Calls Tryd.prog 16 #[.agg #[.int .i64 op, .int .i64 n, .string t, .bool b, .string c, .string m, .string d]] w' fun e w'' => e = .returned (.tuple #[.string ⟨(prtL op n t b c m d).toArray⟩, .int .i64 (ickE op n t b c m d)]) ∧ Hid (LawW w BX w'')) := fun w' h => (rPrint_any op n hn1 hn2 t b c m d ht hc hm hd w').mono fun e w'' ⟨he, hb⟩ => ⟨he, HT.out _ _ h hb⟩
  obtain ⟨σ, V, V1, V2⟩ : ∃ (σ : Type) (V : σ → World), Hid (∀ s, Hid (LawW w BX (V s))) ∧ Hid (∀ w', Hid (LawW w BX w') → ∃ s, w' = V s) :=
    ⟨{w' // Hid (LawW w BX w')}, Subtype.val, fun s => s.2, fun w q => ⟨⟨w, q⟩, rfl⟩⟩
  have hne : Nonempty σ := (V2.out _ HT0).elim fun s _ => ⟨s⟩
  have q0 : ∀ s, (V s).cell? ⟨w.heap.size, 0, none⟩ = some (.int .i64 op) := fun s => (HTX.out _ (V1.out s)).1
  have q1 : ∀ s, (V s).cell? ⟨w.heap.size, 1, none⟩ = some (.int .i64 n) := fun s => (HTX.out _ (V1.out s)).2.1
  have q2 : ∀ s, (V s).cell? ⟨w.heap.size, 2, none⟩ = some (.string t) := fun s => (HTX.out _ (V1.out s)).2.2.1
  have q3 : ∀ s, (V s).cell? ⟨w.heap.size, 3, none⟩ = some (.bool b) := fun s => (HTX.out _ (V1.out s)).2.2.2.1
  have q4 : ∀ s, (V s).cell? ⟨w.heap.size, 4, none⟩ = some (.string c) := fun s => (HTX.out _ (V1.out s)).2.2.2.2.1
  have q5 : ∀ s, (V s).cell? ⟨w.heap.size, 5, none⟩ = some (.string m) := fun s => (HTX.out _ (V1.out s)).2.2.2.2.2.1
  have q6 : ∀ s, (V s).cell? ⟨w.heap.size, 6, none⟩ = some (.string d) := fun s => (HTX.out _ (V1.out s)).2.2.2.2.2.2
  clear hG ht hc hm hd hBs HGB HXB hn1 hn2
  generalize wrdL op = wl at *
  generalize wrdE op = we at *
  generalize opdI op = ok at *
  generalize ickE op n t b c m d = ik at *
  generalize prtL op n t b c m d = pl at *
  subst hBX
  go_enter Tryd.func3, Tryd.ntmps3
  go_wp2_with (first
    | (go_at_call 8; refine (HA.out _ HT0).mono ?_; rintro e w1 ⟨rfl, hT1⟩; obtain ⟨k0, k1, k2, k3, k4, k5, k6⟩ := HTX.out _ hT1; clear HA)
    | (go_at_call 9; refine (H9.out _ hT1).mono ?_; rintro e w2 ⟨rfl, hT2⟩; obtain ⟨k0, k1, k2, k3, k4, k5, k6⟩ := HTX.out _ hT2; clear H9)
    | (go_at_call 10; refine (H10.out _ hT2).mono ?_; rintro e w3 ⟨rfl, hT3⟩; obtain ⟨k0, k1, k2, k3, k4, k5, k6⟩ := HTX.out _ hT3; clear H10))
  refine wp_region_class (C := fun w' => ∃ s, w' = V s) (by kernel_rfl) (by kernel_rfl) (V2.out _ (show Hid (LawW w _ w3.drew) from Below.drew hT3.out)) ?_
  repeat (go_big_quiet_step (first
    | (go_at_call 11; exact (H11.out _ (V1.out _)).mono fun e w'' z => ⟨z.1, V2.out _ z.2⟩)
    | (go_at_call 12; exact (H12.out _ (V1.out _)).mono fun e w'' z => ⟨z.1, V2.out _ z.2⟩)
    | (go_at_call 13; exact (H13.out _ (V1.out _)).mono fun e w'' z => ⟨z.1, V2.out _ z.2⟩)
    | (go_at_call 14; exact (H14.out _ (V1.out _)).mono fun e w'' z => ⟨z.1, V2.out _ z.2⟩)))
  refine wpQuiet_nil ?_
  intro w9 hw9
  obtain ⟨s9, rfl⟩ := hw9
  go_wp2_with (first
    | (go_at_call 15; refine (H15.out _ (V1.out s9)).mono ?_; rintro e w4 ⟨rfl, hT4⟩; obtain ⟨k0, k1, k2, k3, k4, k5, k6⟩ := HTX.out _ hT4; clear H15)
    | (go_at_call 16; refine (H16.out _ hT4).mono ?_; rintro e w5 ⟨rfl, hT5⟩; clear H16))
  go_ret
  exact ⟨rfl, HTB.out _ hT5⟩

end Go.Proofs.YtijlipllahfakaaDoor
