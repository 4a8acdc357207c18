/- Package cache's sets: empty; newSets. -/
import Derived.Test.YtdjmjdlolhfejaaKaK
import Derived.Laws.MakeOwn
namespace Go.Proofs.Ytdjmjdlolhfejaa
open Go.RowKit Go.Maps

/-- the first so many sets are empty -/
def esL (i : Nat) (ss : List (List (Int × Int))) : List (List (Int × Int)) := List.replicate i [] ++ ss.drop i
theorem esL_len {i : Nat} {ss : List (List (Int × Int))} (h : i ≤ ss.length) : (esL i ss).length = ss.length := by simp [esL]; omega
theorem esL_at {i : Nat} {ss : List (List (Int × Int))} (_h : i < ss.length) : (esL i ss)[i]? = ss[i]? := by
  rw [esL, List.getElem?_append_right (by simp)]; simp
theorem esL_set {i : Nat} {ss : List (List (Int × Int))} (h : i < ss.length) : (esL i ss).set i [] = esL (i + 1) ss := by
  have e : ss.drop i = ss[i] :: ss.drop (i + 1) := List.drop_eq_getElem_cons h
  rw [esL, e, List.set_append_right _ _ (by simp), List.length_replicate, Nat.sub_self, List.set_cons_zero, esL, List.replicate_succ', List.append_assoc]
  rfl
theorem esL_end (ss : List (List (Int × Int))) : esL ss.length ss = List.replicate ss.length [] := by simp [esL]
set_option maxRecDepth 100000 in
set_option maxHeartbeats 4000000 in
theorem ssempty_c {W : World} {N q a cap : Nat} {vs : List Value} {ss : List (List (Int × Int))} (h : SetsAt W N q a cap 0 vs ss) :
    Calls Try.prog 95 #[.pointer (some ⟨q, 0, none⟩)] W fun e w' => e = .returned (.tuple #[]) ∧ (∃ vs', SetsAt w' N q a cap 0 vs' (List.replicate ss.length [])) ∧ TK N W w' := by
  obtain ⟨q0, _, qf⟩ := h.qc
  have f0 := qf 0
  have h1 := h.lock 1
  have T1 : Hid (TK N W (W.setCell ⟨q, 0, none⟩ (.int .i32 1))) := h.tkq 0 _
  have q2 : (W.setCell ⟨q, 0, none⟩ (.int .i32 1)).cell? ⟨q, 2, none⟩ = some (.slice (some ⟨a, 0, none⟩) ss.length ss.length) := h1.qc.2.1
  have hn32 : ss.length ≤ 32 := by rw [h.ls]; have := h.c64; omega
  obtain ⟨n, hn⟩ : ∃ n, ss.length = n := ⟨_, rfl⟩
  rw [hn] at q2 hn32
  have HN : Hid (ss.length = n) := hn
  clear h qf hn
  go_enter_defers Try.func95, Try.ntmps95
  go_wp2_with (go_at_call 46; refine (Go.MuLone.lock_free Try.muLib ⟨q, 0, none⟩ _ q0 f0).mono ?_; rintro e w1 ⟨rfl, hw1⟩; rw [← hw1] at h1 T1 q2; clear hw1; have S1 : Hid (SetsAt w1 N q a cap 1 vs ss) := h1; clear h1)
  go_loopw [15] (fun iv wr => ∃ (i : Nat), iv = .int .i64 i ∧ i ≤ n ∧ Hid (∃ vs', SetsAt wr N q a cap 1 vs' (esL i ss)) ∧ Hid (TK N W wr)) (fun iv _ => n - (intOf iv).toNat)
  case atStart => exact ⟨0, rfl, Nat.zero_le _, ⟨_, by simpa [esL] using S1.out⟩, T1.out⟩
  case round =>
    obtain ⟨i, rfl, hi, hs, ht⟩ := hrel
    obtain ⟨vs', S2⟩ := hs.out
    by_cases hlt : i < n
    · have hel : (esL i ss).length = n := by rw [esL_len (by rw [HN.out]; exact hi), HN.out]
      have q3 := S2.qc.2.1
      rw [hel] at q3
      obtain ⟨l, hl⟩ : ∃ l, (esL i ss)[i]? = some l := ⟨_, List.getElem?_eq_getElem (by omega)⟩
      obtain ⟨v, hv⟩ : ∃ v, vs'[i]? = some v := ⟨_, List.getElem?_eq_getElem (by have := S2.lv; omega)⟩
      have A2 := S2.at hv hl
      obtain ⟨c0, c1, cf⟩ := A2.cells
      have hst : Stp wr (wr.setCell ⟨a, i * 2 + 1, none⟩ (.slice none 0 0)) a (i * 2) v (.slice none 0 0) := ⟨(Tch.refl _ _).set (.inl (.inl rfl)) _, fun C hC => Go.Joins.block_setCell hC _, fun g hg => by simp [Value.ownBlock] at hg⟩
      have S3 := S2.step hv hl hst (l' := []) (World.ownsRow_nil _ _ _ _) (by intro a n c e; cases e) (by simp)
      rw [esL_set (by rw [HN.out]; exact hlt)] at S3
      have S3' : Hid (SetsAt (wr.setCell ⟨a, i * 2 + 1, none⟩ (.slice none 0 0)) N q a cap 1 (vs'.set i (.slice none 0 0)) (esL (i + 1) ss)) := S3
      have T3 : Hid (TK N W (wr.setCell ⟨a, i * 2 + 1, none⟩ (.slice none 0 0))) := ht.out.trans (hst.tk A2)
      have fa := cf (i * 2 + 1)
      clear S3 hst A2 hs S2 hl hv hel c0 cf
      go_wp2
      go_roundw
      case rel => exact ⟨i + 1, by go_num, by omega, ⟨_, S3'.out⟩, T3⟩
      case measure => simp [intOf]; omega
    · obtain rfl : i = n := by omega
      have e : esL i ss = List.replicate ss.length [] := by rw [← HN.out, esL_end]
      rw [e] at S2
      have S3 : Hid (SetsAt wr N q a cap 1 vs' (List.replicate ss.length [])) := S2
      clear S2 hs e
      go_wp2
      refine leaves_cons (f := 51) (args := #[.pointer (some ⟨q, 0, none⟩)]) (by simp) (by simp [go_sem]) ?_
      refine (Go.MuLone.unlock_deferred Try.muLib ⟨q, 0, none⟩ .returning _ S3.out.qc.1 (S3.out.qc.2.2 0)).mono ?_
      rintro e u' w'' ⟨rfl, rfl, rfl⟩
      exact ⟨_, results_none rfl _ _ _, rfl, ⟨_, S3.out.lock 0⟩, ht.out.trans (S3.out.tkq 0 _)⟩
/-- the cells of the sets while their rooms are laid: the first i have theirs -/
def rmC (cap i n : Nat) : Array Value := ((List.range (n * 2)).map fun j => if j % 2 = 0 then Value.int .i64 (if j / 2 < i then (rmN cap (j / 2) : Int) else 0) else .slice none 0 0).toArray
theorem rmC_size (cap i n : Nat) : (rmC cap i n).size = n * 2 := by simp [rmC]
theorem rmC_at (cap i n j : Nat) (h : j < n * 2) : (rmC cap i n)[j]? = some (if j % 2 = 0 then Value.int .i64 (if j / 2 < i then (rmN cap (j / 2) : Int) else 0) else .slice none 0 0) := by
  simp [rmC, h]
theorem rmC_set (cap i n : Nat) (_h : i < n) : (rmC cap i n).setIfInBounds (i * 2) (.int .i64 (rmN cap i)) = rmC cap (i + 1) n := by
  apply Array.ext_getElem?
  intro j
  by_cases hj : j < n * 2
  · rw [rmC_at _ _ _ _ hj]
    by_cases e : j = i * 2
    · subst e
      rw [Array.getElem?_setIfInBounds_self_of_lt (by rw [rmC_size]; exact hj), if_pos (by omega), if_pos (by omega)]
      congr 3; rw [show i * 2 / 2 = i by omega]
    · rw [Array.getElem?_setIfInBounds_ne (fun x => e x.symm), rmC_at _ _ _ _ hj]
      by_cases hp : j % 2 = 0
      · rw [if_pos hp, if_pos hp]
        congr 2
        by_cases hi : j / 2 < i
        · rw [if_pos hi, if_pos (by omega)]
        · rw [if_neg hi, if_neg (by omega)]
      · rw [if_neg hp, if_neg hp]
  · rw [Array.getElem?_eq_none (by simp [rmC_size]; omega), Array.getElem?_eq_none (by simp [rmC_size]; omega)]
theorem Try.hinfoSt : (Try.prog.info? 108).map (fun i => (i.zero, i.size, i.bytes)) = some (some (.agg #[.int .i64 0, .slice none 0 0]), 2, 32) := by kernel_rfl
set_option maxRecDepth 100000 in
set_option maxHeartbeats 4000000 in
theorem nsets_c (cap : Nat) (h2 : 2 ≤ cap) (h64 : cap ≤ 64) (W : World) :
    Calls Try.prog 31 #[.int .i64 (cap : Int)] W fun e w' => e = .returned (.pointer (some ⟨W.heap.size + 1, 0, none⟩)) ∧ SetsAt w' W.heap.size (W.heap.size + 1) W.heap.size cap 0 (List.replicate ((cap + 1) / 2) (.slice none 0 0)) (List.replicate ((cap + 1) / 2) []) ∧ Tch (fun _ => False) W w' := by
  obtain ⟨n, hn⟩ : ∃ n, (cap + 1) / 2 = n := ⟨_, rfl⟩
  have hn1 : 1 ≤ n := by omega
  have hn32 : n ≤ 32 := by omega
  have hmk : ∀ w : World, (Instr.makeSlice 105 (.int .i64 (n : Int)) (.int .i64 (n : Int))).run Try.prog w = .ok (.slice (some ⟨w.heap.size, 0, none⟩) n n) (w.alloc (.cells (rmC cap 0 n) 108)) := fun w => by
    obtain ⟨i0, hi, hz0, hz1, hz2⟩ := info_parts Try.hinfoSt
    have := run_make w (P := Try.prog) 105 108 i0 _ Try.underlying105 hi hz0 .i64 .i64 (n : Int) (n : Int) (by omega) (Int.le_refl _) (by rw [hz2]; omega) (by omega)
    rw [hz1, Int.toNat_natCast] at this
    rw [this]
    have e : madeCells (Value.agg #[.int .i64 0, .slice none 0 0]).cells (n * 2) = rmC cap 0 n := by
      apply Array.ext_getElem?
      intro j
      by_cases hj : j < n * 2
      · rw [rmC_at _ _ _ _ hj, if_neg (show ¬ j / 2 < 0 by omega)]
        have hc : (Value.agg #[.int .i64 0, .slice none 0 0]).cells = #[.int .i64 0, .slice none 0 0] := by simp [Value.cells]
        rw [hc]
        rcases Nat.mod_two_eq_zero_or_one j with h | h <;> simp [madeCells, hj, h]
      · rw [Array.getElem?_eq_none (by rw [size_madeCells]; omega), Array.getElem?_eq_none (by rw [rmC_size]; omega)]
    rw [e]
  have hq1 : Int.tdiv ((cap : Int) + 1) 2 = (n : Int) := by rw [Int.tdiv_eq_ediv_of_nonneg (by omega)]; omega
  have hw1 : wrap64 ((cap : Int) + 1) = (cap : Int) + 1 := by unfold wrap64; omega
  go_enter Try.func31, Try.ntmps31
  go_wp2
  go_loopw [11] (fun iv wr => ∃ (i : Nat), iv = .int .i64 i ∧ i ≤ n ∧ Hid (wr.heap[W.heap.size]? = some (.cells (rmC cap i n) 108 (0, 0))) ∧ Hid (Tch (fun _ => False) W wr) ∧ Hid (wr.heap.size = W.heap.size + 1)) (fun iv _ => n - (intOf iv).toNat)
  case atStart => exact ⟨0, rfl, Nat.zero_le _, halloc1 _ _, (Tch.refl _ W).alloc _, by simp [Hid]⟩
  case round =>
    obtain ⟨i, rfl, hi, hb, ht, hz⟩ := hrel
    by_cases hlt : i < n
    · have c0 : wr.cell? ⟨W.heap.size, i * 2, none⟩ = some (.int .i64 0) := by
        rw [cell_of_row wr _ (i * 2) _ _ _ hb.out, rmC_at _ _ _ _ (by omega), if_pos (by omega), if_neg (by omega)]
      have f0 := frozen_of_row wr W.heap.size (i * 2) _ _ hb.out
      have hm : (if (cap : Int) - 2 * (i : Int) < 2 then (cap : Int) - 2 * (i : Int) else (2 : Int)) = (rmN cap i : Int) := by unfold rmN; split <;> omega
      have B3 : Hid ((wr.setCell ⟨W.heap.size, i * 2, none⟩ (.int .i64 (rmN cap i))).heap[W.heap.size]? = some (.cells (rmC cap (i + 1) n) 108 (0, 0))) := by rw [Hid, Go.Joins.block_setCell hb.out, rmC_set _ _ _ hlt]
      have T3 : Hid (Tch (fun _ => False) W (wr.setCell ⟨W.heap.size, i * 2, none⟩ (.int .i64 (rmN cap i)))) := ht.out.set (.inr (Nat.le_refl _)) _
      have Z3 : Hid ((wr.setCell ⟨W.heap.size, i * 2, none⟩ (.int .i64 (rmN cap i))).heap.size = W.heap.size + 1) := by rw [Hid]; simpa using hz.out
      have HM : Hid ((if (cap : Int) - 2 * (i : Int) < 2 then (cap : Int) - 2 * (i : Int) else (2 : Int)) = (rmN cap i : Int)) := hm
      clear hb hm
      go_wp2
      rw [HM.out]
      refine ⟨⟨i + 1, by go_num, by omega, B3, T3, Z3⟩, ?_⟩
      simp [intOf]; omega
    · obtain rfl : i = n := by omega
      have HNN : Hid ((cap + 1) / 2 = i) := hn
      go_wp2
      go_ret
      rw [HNN.out]
      refine ⟨by rw [hz.out]; rfl, ⟨by omega, Nat.le_refl _, h2, h64, by simp [HNN.out], by simp, ?_, ⟨rmC cap i i, ?_, ?_⟩, ?_, ?_⟩, ht.out.alloc _⟩
      · rw [List.length_replicate]; exact halloc2 _ _ hz.out
      · exact hkeep hb.out
      · intro j v hv
        have hj : j < i := by have := (List.getElem?_eq_some_iff.1 hv).1; simpa using this
        rw [List.getElem?_replicate, if_pos hj] at hv
        cases hv
        exact ⟨by rw [rmC_at _ _ _ _ (by omega), if_pos (by omega), if_pos (by omega), show j * 2 / 2 = j by omega], by rw [rmC_at _ _ _ _ (by omega), if_neg (by omega)]⟩
      · intro j v l hv hl
        have hj : j < i := by have := (List.getElem?_eq_some_iff.1 hv).1; simpa using this
        rw [List.getElem?_replicate, if_pos hj] at hv hl
        cases hv; cases hl
        exact ⟨World.ownsRow_nil _ _ _ _, (by intro a n c e; cases e), (by simp)⟩
      · intro k j u v g hne hu hv hg
        have hk : k < i := by have := (List.getElem?_eq_some_iff.1 hu).1; simpa using this
        rw [List.getElem?_replicate, if_pos hk] at hu
        cases hu
        simp [Value.ownBlock] at hg
end Go.Proofs.Ytdjmjdlolhfejaa
