/- Walks of package types' Parse: the type that a text writes, or the error; what was there before stays. -/
import Derived.Test.YtfbhjfpkhofifaaGreatDoorCurE
import Derived.Test.YtfbhjfpkhofifaaGreatDoorOwn
import Derived.Test.YtfbhjfpkhofifaaGreatDoorTypesParse
namespace Go.Proofs.YtfbhjfpkhofifaaGreatDoor
open Go.RowKit

/-- while a text is parsed: the answer's block, the cursor, what was there before -/
structure Pst (w : World) (s : ByteArray) (q : Nat) (w2 : World) : Prop where
  r : w2.heap[w.heap.size]? = some (.cells #[.int .i64 0, .string ⟨#[]⟩] 58 (0, 0))
  cur : Cur w2 (w.heap.size + 1) s q
  bel : Below w.heap.size w w2

theorem Pst.keep {w w2 w3 : World} {s : ByteArray} {q : Nat} (h : Pst w s q w2) (hb : Below w2.heap.size w2 w3) : Pst w s q w3 :=
  ⟨by rw [hb.block _ (Array.getElem?_eq_some_iff.1 h.r).1]; exact h.r, h.cur.keep hb, Below.step h.bel hb⟩

theorem Pst.cells {w wr : World} {s : ByteArray} {q : Nat} (h : Pst w s q wr) :
    wr.cell? ⟨w.heap.size, 0, none⟩ = some (.int .i64 0) ∧ wr.cell? ⟨w.heap.size, 1, none⟩ = some (.string ⟨#[]⟩) ∧ wr.frozen? ⟨w.heap.size, 0, none⟩ = false ∧ wr.frozen? ⟨w.heap.size, 1, none⟩ = false ∧ w.heap.size + 1 < wr.heap.size ∧ w.heap.size < wr.heap.size := by
  refine ⟨?_, ?_, ?_, ?_, h.cur.cells.2.2.2, Nat.lt_of_succ_lt h.cur.cells.2.2.2⟩
  · rw [cell_of_row _ w.heap.size 0 _ 58 (0, 0) h.r]; rfl
  · rw [cell_of_row _ w.heap.size 1 _ 58 (0, 0) h.r]; rfl
  all_goals simp [World.frozen?, h.r]

theorem Pst.done {w w2 : World} {s : ByteArray} {q : Nat} (h : Pst w s q w2) (u v : Value) : Below w.heap.size w ((w2.setCell ⟨w.heap.size, 0, none⟩ u).setCell ⟨w.heap.size, 1, none⟩ v) :=
  (h.bel.setCell (Nat.le_refl _) _).setCell (Nat.le_refl _) _

theorem Pst.first (w : World) (s : ByteArray) : Pst w s 0 ((w.alloc (.cells #[.int .i64 0, .string ⟨#[]⟩] 58)).alloc (.cells #[.string s, .int .i64 0] 151)) := by
  refine ⟨?_, ?_, ((Below.refl _ _).alloc (Nat.le_refl _) _).alloc (by simp) _⟩
  · rw [Below.heap_alloc _ _ _ (by simp)]; exact heap_alloc_new w _
  · have := heap_alloc_new (w.alloc (.cells #[.int .i64 0, .string ⟨#[]⟩] 58)) (.cells #[.string s, .int .i64 0] 151)
    unfold Cur
    simpa using this

theorem Pst.grown {w w2 w3 : World} {s : ByteArray} {q q' : Nat} (h : Pst w s q w2) (hg : w2.grownBy w3 (some (w.heap.size + 1))) (hc : Cur w3 (w.heap.size + 1) s q') : Pst w s q' w3 :=
  ⟨by rw [hg.block _ (Array.getElem?_eq_some_iff.1 h.r).1 (by simp)]; exact h.r, hc, h.bel.grown hg h.bel.size (fun k e => by simp at e; omega)⟩

set_option maxRecDepth 100000 in
set_option maxHeartbeats 1000000 in
theorem parse_any (s : ByteArray) (hs : s.size ≤ maxLen) (w : World) :
    Calls Tryz.prog 173 #[.string s] w fun e w' => e = .returned (.tuple #[.agg #[.int .i64 (parT s.data.toList).1, .string ⟨(parT s.data.toList).2.toArray⟩], .int .i64 (parE s.data.toList)]) ∧ Below w.heap.size w w' := by
  have hlen : s.data.toList.length = s.size := by simp
  unfold maxLen at hs
  by_cases hbig : 2000 < s.size
  · have HE : Hid (parE s.data.toList = 5) := by rw [Hid, parE, if_pos (by rw [hlen]; exact hbig)]
    have HT : Hid (parT s.data.toList = (0, [])) := by rw [Hid, parT, HE.out]; rfl
    clear hlen
    generalize parE s.data.toList = x at *
    generalize parT s.data.toList = t at *
    go_enter Tryz.func173, Tryz.ntmps173
    go_wp2
    refine bodyPost_ret (v := .tuple #[.agg #[.int .i64 0, .string ⟨#[]⟩], .int .i64 5]) (by simp [results, Tryz.results173, go_sem, *]) rfl ⟨?_, ?_⟩
    · rw [HT.out, HE.out]; rfl
    · exact (Below.refl _ _).alloc (Nat.le_refl _) _
  · have HR := readType_any (w.heap.size + 1) s 0 (Nat.zero_le _) (by omega) _ (Pst.first w s).cur
    have hE : parE s.data.toList = match readT s.data.toList with
      | some (t, []) => if 255 < t.1 then 5 else 0
      | _ => 4 := by rw [parE, if_neg (by rw [hlen]; exact hbig)]; rfl
    have HN : Hid (∀ w, _) := newCursor_any s
    have HA : Hid (∀ (q : Nat) (w2 w3 : World), Hid (Pst w s q w2) → Below w2.heap.size w2 w3 → Calls Tryz.prog 68 #[.pointer (some ⟨w.heap.size + 1, 0, none⟩)] w3 fun e w' => e = .returned (.bool (decide (q = s.size))) ∧ Below w3.heap.size w3 w') :=
      fun q w2 w3 h hb => atEnd_any (w.heap.size + 1) s q w3 (h.out.keep hb).cur
    unfold TypePost at HR
    rw [List.drop_zero] at HR
    cases hr : readT s.data.toList with
    | none =>
      rw [hr] at hE HR
      have HE : Hid (parE s.data.toList = 4) := hE
      have HT : Hid (parT s.data.toList = (0, [])) := by rw [Hid, parT, HE.out]; rfl
      have HQ : Hid (Calls Tryz.prog 110 #[.pointer (some ⟨w.heap.size + 1, 0, none⟩)] ((w.alloc (.cells #[.int .i64 0, .string ⟨#[]⟩] 58)).alloc (.cells #[.string s, .int .i64 0] 151)) fun e w' => e = .returned (.tuple #[.agg #[.int .i64 0, .string ⟨#[]⟩], .bool false]) ∧ ∃ q, Hid (Pst w s q w')) :=
        HR.mono fun e w' ⟨⟨he, q, _, hc⟩, hg⟩ => ⟨he, q, (Pst.first w s).grown hg hc⟩
      clear hE HR hr hlen
      generalize parE s.data.toList = x at *
      generalize parT s.data.toList = t at *
      go_enter Tryz.func173, Tryz.ntmps173
      go_wp2_with (first
        | (go_at_call 66; refine ((HN.out) _).mono ?_; rintro e w1 ⟨rfl, rfl⟩)
        | (go_at_call 110; refine (HQ.out).mono ?_; rintro e w2 ⟨rfl, q, hP⟩; obtain ⟨c0, c1, f0, f1, hz, hz'⟩ := hP.out.cells))
      refine bodyPost_ret (v := .tuple #[.agg #[.int .i64 0, .string ⟨#[]⟩], .int .i64 4]) (by simp [results, Tryz.results173, go_sem, *]) rfl ⟨?_, ?_⟩
      · rw [HT.out, HE.out]; rfl
      · exact (hP.out.done _ _).alloc (by simp; omega) _
    | some p =>
      obtain ⟨⟨k, nm⟩, r⟩ := p
      rw [hr] at hE HR
      have hrl := readT_less hr
      rw [hlen] at hrl
      have HQ : Hid (Calls Tryz.prog 110 #[.pointer (some ⟨w.heap.size + 1, 0, none⟩)] ((w.alloc (.cells #[.int .i64 0, .string ⟨#[]⟩] 58)).alloc (.cells #[.string s, .int .i64 0] 151)) fun e w' => e = .returned (.tuple #[.agg #[.int .i64 k, .string ⟨nm.toArray⟩], .bool true]) ∧ Hid (Pst w s (s.size - r.length) w')) :=
        HR.mono fun e w' ⟨⟨he, hc⟩, hg⟩ => ⟨he, (Pst.first w s).grown hg hc⟩
      cases r with
      | cons c q =>
        have HE : Hid (parE s.data.toList = 4) := hE
        have HT : Hid (parT s.data.toList = (0, [])) := by rw [Hid, parT, HE.out]; rfl
        obtain ⟨m, hm⟩ : ∃ m : Nat, s.size - (c :: q).length = m := ⟨_, rfl⟩
        rw [hm] at HQ
        have hne : decide (m = s.size) = false := by simp at hm hrl ⊢; omega
        have HA' : Hid (∀ (w2 w3 : World), Hid (Pst w s m w2) → Below w2.heap.size w2 w3 → Calls Tryz.prog 68 #[.pointer (some ⟨w.heap.size + 1, 0, none⟩)] w3 fun e w' => e = .returned (.bool false) ∧ Below w3.heap.size w3 w') := fun w2 w3 h hb => by have := HA.out m w2 w3 h hb; rw [hne] at this; exact this
        clear hE HR hr hlen hm hrl hne HA
        generalize parE s.data.toList = x at *
        generalize parT s.data.toList = t at *
        go_enter Tryz.func173, Tryz.ntmps173
        go_wp2_with (first
          | (go_at_call 66; refine ((HN.out) _).mono ?_; rintro e w1 ⟨rfl, rfl⟩)
          | (go_at_call 110; refine (HQ.out).mono ?_; rintro e w2 ⟨rfl, hP⟩; obtain ⟨c0, c1, f0, f1, hz, hz'⟩ := hP.out.cells)
          | (go_at_call 68; refine (HA'.out _ _ hP ((Below.refl _ _).alloc (Nat.le_refl _) _)).mono ?_; rintro e w3 ⟨rfl, hb3⟩; have hP3 : Hid (Pst w s m w3) := (hP.out.keep ((Below.refl _ _).alloc (Nat.le_refl _) _)).keep hb3; have t0 : w3.cell? ⟨w2.heap.size, 0, none⟩ = some (.int .i64 k) := (by rw [hb3.cell (p := ⟨w2.heap.size, 0, none⟩) (by simp), cell_of_row _ w2.heap.size 0 _ 58 (0, 0) (heap_alloc_new w2 _)]; rfl); have t1 : w3.cell? ⟨w2.heap.size, 1, none⟩ = some (.string ⟨nm.toArray⟩) := (by rw [hb3.cell (p := ⟨w2.heap.size, 1, none⟩) (by simp), cell_of_row _ w2.heap.size 1 _ 58 (0, 0) (heap_alloc_new w2 _)]; rfl); have hs3 : w2.heap.size < w3.heap.size := (by have := hb3.size; simp at this; omega); clear hb3; obtain ⟨d0, d1, g0, g1, hy, hy'⟩ := hP3.out.cells))
        refine bodyPost_ret (v := .tuple #[.agg #[.int .i64 0, .string ⟨#[]⟩], .int .i64 4]) (by simp [results, Tryz.results173, go_sem, *]) rfl ⟨?_, ?_⟩
        · rw [HT.out, HE.out]; rfl
        · exact hP3.out.done _ _
      | nil =>
        have HA' : Hid (∀ (w2 w3 : World), Hid (Pst w s s.size w2) → Below w2.heap.size w2 w3 → Calls Tryz.prog 68 #[.pointer (some ⟨w.heap.size + 1, 0, none⟩)] w3 fun e w' => e = .returned (.bool true) ∧ Below w3.heap.size w3 w') := fun w2 w3 h hb => by have := HA.out s.size w2 w3 h hb; simp only [decide_true] at this; exact this
        have HD : Hid (∀ w, _) := isDeep_any k ⟨nm.toArray⟩
        have h0 : s.size - ([] : List UInt8).length = s.size := rfl
        rw [h0] at HQ
        by_cases hk : 255 < k
        · have HE : Hid (parE s.data.toList = 5) := by rw [Hid, hE]; simp [hk]
          have HT : Hid (parT s.data.toList = (0, [])) := by rw [Hid, parT, HE.out]; rfl
          have hdk : decide ((255 : Int) < (k : Int)) = true := by simp; omega
          rw [hdk] at HD
          clear hE HR hr hlen hrl h0 HA hdk
          generalize parE s.data.toList = x at *
          generalize parT s.data.toList = t at *
          go_enter Tryz.func173, Tryz.ntmps173
          go_wp2_with (first
            | (go_at_call 66; refine ((HN.out) _).mono ?_; rintro e w1 ⟨rfl, rfl⟩)
            | (go_at_call 110; refine (HQ.out).mono ?_; rintro e w2 ⟨rfl, hP⟩; obtain ⟨c0, c1, f0, f1, hz, hz'⟩ := hP.out.cells)
            | (go_at_call 68; refine (HA'.out _ _ hP ((Below.refl _ _).alloc (Nat.le_refl _) _)).mono ?_; rintro e w3 ⟨rfl, hb3⟩; have hP3 : Hid (Pst w s s.size w3) := (hP.out.keep ((Below.refl _ _).alloc (Nat.le_refl _) _)).keep hb3; have t0 : w3.cell? ⟨w2.heap.size, 0, none⟩ = some (.int .i64 k) := (by rw [hb3.cell (p := ⟨w2.heap.size, 0, none⟩) (by simp), cell_of_row _ w2.heap.size 0 _ 58 (0, 0) (heap_alloc_new w2 _)]; rfl); have t1 : w3.cell? ⟨w2.heap.size, 1, none⟩ = some (.string ⟨nm.toArray⟩) := (by rw [hb3.cell (p := ⟨w2.heap.size, 1, none⟩) (by simp), cell_of_row _ w2.heap.size 1 _ 58 (0, 0) (heap_alloc_new w2 _)]; rfl); have hs3 : w2.heap.size < w3.heap.size := (by have := hb3.size; simp at this; omega); clear hb3; obtain ⟨d0, d1, g0, g1, hy, hy'⟩ := hP3.out.cells)
            | (go_at_call 69; refine ((HD.out) _).mono ?_; rintro e w4 ⟨rfl, hb4⟩; have hP4 : Hid (Pst w s s.size w4) := hP3.out.keep hb4; have t2 : w4.cell? ⟨w2.heap.size, 0, none⟩ = some (.int .i64 k) := (hb4.cell (p := ⟨w2.heap.size, 0, none⟩) hs3).trans t0; have t3 : w4.cell? ⟨w2.heap.size, 1, none⟩ = some (.string ⟨nm.toArray⟩) := (hb4.cell (p := ⟨w2.heap.size, 1, none⟩) hs3).trans t1; clear hb4; obtain ⟨b0, b1, b2, b3, b4, b5⟩ := hP4.out.cells))
          refine bodyPost_ret (v := .tuple #[.agg #[.int .i64 0, .string ⟨#[]⟩], .int .i64 5]) (by simp [results, Tryz.results173, go_sem, *]) rfl ⟨?_, ?_⟩
          · rw [HT.out, HE.out]; rfl
          · exact hP4.out.done _ _
        · have HE : Hid (parE s.data.toList = 0) := by rw [Hid, hE]; simp [hk]
          have HT : Hid (parT s.data.toList = (k, nm)) := by rw [Hid, parT, HE.out, hr]; rfl
          have hdk : decide ((255 : Int) < (k : Int)) = false := by simp; omega
          rw [hdk] at HD
          clear hE HR hr hlen hrl h0 HA hdk
          generalize parE s.data.toList = x at *
          generalize parT s.data.toList = t at *
          go_enter Tryz.func173, Tryz.ntmps173
          go_wp2_with (first
            | (go_at_call 66; refine ((HN.out) _).mono ?_; rintro e w1 ⟨rfl, rfl⟩)
            | (go_at_call 110; refine (HQ.out).mono ?_; rintro e w2 ⟨rfl, hP⟩; obtain ⟨c0, c1, f0, f1, hz, hz'⟩ := hP.out.cells)
            | (go_at_call 68; refine (HA'.out _ _ hP ((Below.refl _ _).alloc (Nat.le_refl _) _)).mono ?_; rintro e w3 ⟨rfl, hb3⟩; have hP3 : Hid (Pst w s s.size w3) := (hP.out.keep ((Below.refl _ _).alloc (Nat.le_refl _) _)).keep hb3; have t0 : w3.cell? ⟨w2.heap.size, 0, none⟩ = some (.int .i64 k) := (by rw [hb3.cell (p := ⟨w2.heap.size, 0, none⟩) (by simp), cell_of_row _ w2.heap.size 0 _ 58 (0, 0) (heap_alloc_new w2 _)]; rfl); have t1 : w3.cell? ⟨w2.heap.size, 1, none⟩ = some (.string ⟨nm.toArray⟩) := (by rw [hb3.cell (p := ⟨w2.heap.size, 1, none⟩) (by simp), cell_of_row _ w2.heap.size 1 _ 58 (0, 0) (heap_alloc_new w2 _)]; rfl); have hs3 : w2.heap.size < w3.heap.size := (by have := hb3.size; simp at this; omega); clear hb3; obtain ⟨d0, d1, g0, g1, hy, hy'⟩ := hP3.out.cells)
            | (go_at_call 69; refine ((HD.out) _).mono ?_; rintro e w4 ⟨rfl, hb4⟩; have hP4 : Hid (Pst w s s.size w4) := hP3.out.keep hb4; have t2 : w4.cell? ⟨w2.heap.size, 0, none⟩ = some (.int .i64 k) := (hb4.cell (p := ⟨w2.heap.size, 0, none⟩) hs3).trans t0; have t3 : w4.cell? ⟨w2.heap.size, 1, none⟩ = some (.string ⟨nm.toArray⟩) := (hb4.cell (p := ⟨w2.heap.size, 1, none⟩) hs3).trans t1; clear hb4; obtain ⟨b0, b1, b2, b3, b4, b5⟩ := hP4.out.cells))
          refine bodyPost_ret (v := .tuple #[.agg #[.int .i64 k, .string ⟨nm.toArray⟩], .int .i64 0]) (by simp [results, Tryz.results173, go_sem, *]) rfl ⟨?_, ?_⟩
          · rw [HT.out, HE.out]
          · exact hP4.out.done _ _

end Go.Proofs.YtfbhjfpkhofifaaGreatDoor
