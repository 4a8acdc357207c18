/- The walk of arbiterref02's read: the type whose text stands at a place, and the place behind it; what was there before stays. -/
import Derived.Test.YtijlipllahfakaaGreatDoorTypesRef2
namespace Go.Proofs.YtijlipllahfakaaGreatDoor
open Go.RowKit

theorem semi_none (l : List UInt8) (h : (59 : UInt8) ∉ l) : semi l = none := by
  induction l with
  | nil => rfl
  | cons c l ih =>
    have hc : c ≠ 59 := fun e => h (by simp [e])
    simp [semi, hc, ih (fun m => h (List.mem_cons_of_mem _ m))]

theorem drop_cons (s : ByteArray) (i : Nat) (h : i < s.size) : s.data.toList.drop i = s[i] :: s.data.toList.drop (i + 1) := by
  rw [List.drop_eq_getElem_cons (by simpa using h)]
  congr 1
theorem drop_end (s : ByteArray) (i : Nat) (h : s.size ≤ i) : s.data.toList.drop i = [] := List.drop_of_length_le (by simpa using h)

theorem byte_eq (s : ByteArray) (i : Nat) (h : i < s.size) (c : UInt8) : (((s[i]).toNat : Int) == (c.toNat : Int)) = decide (s[i] = c) := by
  rw [Bool.eq_iff_iff]
  simp only [beq_iff_eq, decide_eq_true_eq, Int.ofNat_inj]
  exact UInt8.toNat_inj

/-- while a type is read: its own block (dimensions, name), the answer's block, what was there before -/
structure Rd (w : World) (x : Int) (nm : ByteArray) (wr : World) : Prop where
  t : wr.heap[w.heap.size + 1]? = some (.cells #[.int .i64 x, .string nm] 56 (0, 0))
  r : wr.heap[w.heap.size]? = some (.cells #[.int .i64 0, .string ⟨#[]⟩] 56 (0, 0))
  bel : Below w.heap.size w wr

theorem Rd.cells {w wr : World} {x : Int} {nm : ByteArray} (h : Rd w x nm wr) :
    wr.cell? ⟨w.heap.size + 1, 0, none⟩ = some (.int .i64 x) ∧ wr.cell? ⟨w.heap.size + 1, 1, none⟩ = some (.string nm) ∧ wr.cell? ⟨w.heap.size, 0, none⟩ = some (.int .i64 0) ∧ wr.cell? ⟨w.heap.size, 1, none⟩ = some (.string ⟨#[]⟩) ∧
    wr.frozen? ⟨w.heap.size + 1, 0, none⟩ = false ∧ wr.frozen? ⟨w.heap.size + 1, 1, none⟩ = false ∧ wr.frozen? ⟨w.heap.size, 0, none⟩ = false ∧ wr.frozen? ⟨w.heap.size, 1, none⟩ = false := by
  refine ⟨?_, ?_, ?_, ?_, ?_, ?_, ?_, ?_⟩
  · rw [cell_of_row _ (w.heap.size + 1) 0 _ 56 (0, 0) h.t]; rfl
  · rw [cell_of_row _ (w.heap.size + 1) 1 _ 56 (0, 0) h.t]; rfl
  · rw [cell_of_row _ w.heap.size 0 _ 56 (0, 0) h.r]; rfl
  · rw [cell_of_row _ w.heap.size 1 _ 56 (0, 0) h.r]; rfl
  all_goals simp [World.frozen?, h.t, h.r]

theorem Rd.dims {w wr : World} {x : Int} {nm : ByteArray} (h : Rd w x nm wr) (y : Int) : Rd w y nm (wr.setCell ⟨w.heap.size + 1, 0, none⟩ (.int .i64 y)) :=
  ⟨by rw [heap_setCell_same wr (w.heap.size + 1) 0 _ 56 _ h.t]; rfl, by rw [heap_setCell_other wr ⟨w.heap.size + 1, 0, none⟩ _ _ (by simp)]; exact h.r, h.bel.setCell (by show w.heap.size ≤ w.heap.size + 1; omega) _⟩
theorem Rd.name {w wr : World} {x : Int} {nm : ByteArray} (h : Rd w x nm wr) (s : ByteArray) : Rd w x s (wr.setCell ⟨w.heap.size + 1, 1, none⟩ (.string s)) :=
  ⟨by rw [heap_setCell_same wr (w.heap.size + 1) 1 _ 56 _ h.t]; rfl, by rw [heap_setCell_other wr ⟨w.heap.size + 1, 1, none⟩ _ _ (by simp)]; exact h.r, h.bel.setCell (by show w.heap.size ≤ w.heap.size + 1; omega) _⟩
theorem Rd.keep {w wr w1 : World} {x : Int} {nm : ByteArray} (h : Rd w x nm wr) (hb : Below wr.heap.size wr w1) : Rd w x nm w1 :=
  ⟨by rw [hb.block _ (Array.getElem?_eq_some_iff.1 h.t).1]; exact h.t, by rw [hb.block _ (Array.getElem?_eq_some_iff.1 h.r).1]; exact h.r, h.bel.trans (hb.mono h.bel.size)⟩

/-- what read answers -/
def ReadPost (s : ByteArray) (a : Nat) (e : Ending) : Prop := match readT (s.data.toList.drop a) with
  | some (t, r) => e = .returned (.tuple #[.agg #[.int .i64 t.1, .string ⟨t.2.toArray⟩], .int .i64 ((s.size : Int) - r.length)])
  | none => ∃ x y, e = .returned (.tuple #[.agg #[.int .i64 x, .string y], .int .i64 (-1)])

theorem post_none {s : ByteArray} {a : Nat} {x : Int} {y : ByteArray} (h : readT (s.data.toList.drop a) = none) : ReadPost s a (.returned (.tuple #[.agg #[.int .i64 x, .string y], .int .i64 (-1)])) := by
  unfold ReadPost; rw [h]; exact ⟨x, y, rfl⟩
theorem post_some {s : ByteArray} {a : Nat} {k : Nat} {nm r : List UInt8} {p : Int} (h : readT (s.data.toList.drop a) = some ((k, nm), r)) (hp : p = (s.size : Int) - r.length) :
    ReadPost s a (.returned (.tuple #[.agg #[.int .i64 k, .string ⟨nm.toArray⟩], .int .i64 p])) := by
  unfold ReadPost; rw [h, hp]

theorem read_nil {l : List UInt8} {j : Nat} (hb : bracks l = (j, [])) : readT l = none := by unfold readT; rw [hb]
theorem read_int {l r : List UInt8} {j : Nat} (hb : bracks l = (j, 73 :: r)) : readT l = some ((j, []), r) := by unfold readT; rw [hb]; rfl
theorem read_cls {l r x y : List UInt8} {j : Nat} (hb : bracks l = (j, 76 :: r)) (hs : semi r = some (x, y)) (hv : validL x = true) : readT l = some ((j, x), y) := by
  unfold readT; rw [hb]; simp [hs, hv]
theorem read_bad {l r x y : List UInt8} {j : Nat} (hb : bracks l = (j, 76 :: r)) (hs : semi r = some (x, y)) (hv : validL x = false) : readT l = none := by
  unfold readT; rw [hb]; simp [hs, hv]
theorem read_open {l r : List UInt8} {j : Nat} (hb : bracks l = (j, 76 :: r)) (hs : semi r = none) : readT l = none := by
  unfold readT; rw [hb]; simp [hs]
theorem read_other {l r : List UInt8} {c : UInt8} {j : Nat} (hb : bracks l = (j, c :: r)) (h1 : c ≠ 73) (h2 : c ≠ 76) : readT l = none := by
  unfold readT; rw [hb]; simp [h1, h2]

theorem bracks_step (s : ByteArray) (i : Nat) (h : i < s.size) (e : s[i] = 91) : bracks (s.data.toList.drop i) = ((bracks (s.data.toList.drop (i + 1))).1 + 1, (bracks (s.data.toList.drop (i + 1))).2) := by
  rw [drop_cons s i h, bracks, if_pos e]
theorem bracks_stop (s : ByteArray) (i : Nat) (h : i < s.size) (e : s[i] ≠ 91) : bracks (s.data.toList.drop i) = (0, s.data.toList.drop i) := by
  rw [drop_cons s i h, bracks, if_neg e]

/-- the end of a way: the answer is laid -/
theorem read_below {w wr : World} {x : Int} {nm : ByteArray} (h : Rd w x nm wr) (u v : Value) : Below w.heap.size w ((wr.setCell ⟨w.heap.size, 0, none⟩ u).setCell ⟨w.heap.size, 1, none⟩ v) :=
  (h.bel.setCell (Nat.le_refl _) _).setCell (Nat.le_refl _) _

set_option maxRecDepth 100000 in
set_option maxHeartbeats 4000000 in
theorem read_any (s : ByteArray) (hs : s.size ≤ 1000000) (a : Nat) (ha : a ≤ s.size) (w : World) :
    Calls Tryz.prog 54 #[.string s, .int .i64 a] w fun e w' => ReadPost s a e ∧ Below w.heap.size w w' := by
  have H0 : Hid (Rd w 0 ⟨#[]⟩ ((w.alloc (.cells #[.int .i64 0, .string ⟨#[]⟩] 56)).alloc (.cells #[.int .i64 0, .string ⟨#[]⟩] 56))) := by
    refine ⟨?_, ?_, ((Below.refl _ _).alloc (Nat.le_refl _) _).alloc (by simp) _⟩
    · have := heap_alloc_new (w.alloc (.cells #[.int .i64 0, .string ⟨#[]⟩] 56)) (.cells #[.int .i64 0, .string ⟨#[]⟩] 56)
      simpa using this
    · rw [Below.heap_alloc _ _ _ (by simp)]; exact heap_alloc_new w _
  have hsz : s.data.toList.length = s.size := by simp
  have HSZ : Hid _ := hsz
  clear hsz
  go_enter Tryz.func54, Tryz.ntmps54
  go_wp2
  go_loopw [1] (fun p wr => ∃ j : Nat, p = .int .i64 ((a + j : Nat) : Int) ∧ a + j ≤ s.size ∧ Hid (Rd w j ⟨#[]⟩ wr) ∧
      Hid (bracks (s.data.toList.drop a) = ((bracks (s.data.toList.drop (a + j))).1 + j, (bracks (s.data.toList.drop (a + j))).2))) (fun p _ => s.size - (intOf p).toNat)
  case atStart => exact ⟨0, rfl, ha, H0, rfl⟩
  case round =>
    clear H0
    obtain ⟨j, rfl, hj, hR, hbr⟩ := hrel
    obtain ⟨c0, c1, c2, c3, f0, f1, f2, f3⟩ := hR.out.cells
    by_cases hlt : a + j < s.size
    · by_cases h91 : s[a + j] = 91
      · have hq : (((s[a + j]).toNat : Int) == 91) = true := by have := byte_eq s (a + j) hlt 91; rw [h91] at this ⊢; rfl
        have HB : Hid (bracks (s.data.toList.drop a) = ((bracks (s.data.toList.drop (a + (j + 1)))).1 + (j + 1), (bracks (s.data.toList.drop (a + (j + 1)))).2)) := by
          rw [Hid, hbr.out, bracks_step s (a + j) hlt h91]
          simp only [Prod.mk.injEq]
          exact ⟨by rw [show a + j + 1 = a + (j + 1) by omega]; omega, by rw [show a + j + 1 = a + (j + 1) by omega]⟩
        have R : Hid (Rd w ((j : Int) + 1) ⟨#[]⟩ (wr.setCell ⟨w.heap.size + 1, 0, none⟩ (.int .i64 ((j : Int) + 1)))) := hR.out.dims _
        clear hR hbr h91
        go_wp2
        go_roundw
        case rel => exact ⟨j + 1, by go_num, by omega, by simpa using R, HB⟩
        case measure => simp [intOf]; omega
      · have hb0 : bracks (s.data.toList.drop a) = (j, s.data.toList.drop (a + j)) := by rw [hbr.out, bracks_stop s (a + j) hlt h91, Nat.zero_add]
        rw [drop_cons s (a + j) hlt] at hb0
        have q91 : (((s[a + j]).toNat : Int) == 91) = false := by have := byte_eq s (a + j) hlt 91; simp only [h91, decide_false] at this; exact this
        by_cases h73 : s[a + j] = 73
        · have q73 : (((s[a + j]).toNat : Int) == 73) = true := by have := byte_eq s (a + j) hlt 73; simp only [h73, decide_true] at this; rw [h73]; rfl
          have HP : Hid _ := post_some (p := ((a + j : Nat) : Int) + 1) (read_int (by rw [h73] at hb0; exact hb0)) (by rw [List.length_drop, HSZ.out]; omega)
          have HB : Hid _ := read_below hR.out (.int .i64 j) (.string ⟨#[]⟩)
          clear hR hbr h91 hb0 h73
          go_wp2
          refine bodyPost_ret (v := .tuple #[.agg #[.int .i64 j, .string ⟨#[]⟩], .int .i64 (((a + j : Nat) : Int) + 1)]) (by simp [results, Tryz.results54, go_sem, *]) rfl ⟨HP.out, HB.out⟩
        · have q73 : (((s[a + j]).toNat : Int) == 73) = false := by have := byte_eq s (a + j) hlt 73; simp only [h73, decide_false] at this; exact this
          by_cases h76 : s[a + j] = 76
          · have q76 : (((s[a + j]).toNat : Int) == 76) = true := by have := byte_eq s (a + j) hlt 76; simp only [h76, decide_true] at this; rw [h76]; rfl
            have n76 : (((s[a + j]).toNat : Int) != 76) = false := by rw [bne, q76]; rfl
            rw [h76] at hb0
            have HB0 : Hid _ := hb0
            clear hbr h91 h73 h76 hb0
            go_wp2
            go_loop [7] (fun iv => ∃ i : Nat, iv = .int .i64 i ∧ a + j + 1 ≤ i ∧ i ≤ s.size ∧ Hid ((59 : UInt8) ∉ (s.data.toList.drop (a + j + 1)).take (i - (a + j + 1)))) (fun iv => s.size - (intOf iv).toNat)
            case atStart => exact ⟨a + j + 1, by go_num, Nat.le_refl _, by omega, by simp [Hid]⟩
            case round =>
              obtain ⟨i, rfl, hi1, hi2, hfr⟩ := hrel
              by_cases hil : i < s.size
              · by_cases h59 : s[i] = 59
                · have q59 : (((s[i]).toNat : Int) == 59) = true := by have := byte_eq s i hil 59; simp only [h59, decide_true] at this; rw [h59]; rfl
                  have hsm : semi (s.data.toList.drop (a + j + 1)) = some ((s.extract (a + j + 1) i).data.toList, s.data.toList.drop (i + 1)) := by
                    have e1 : s.data.toList.drop (a + j + 1) = (s.data.toList.drop (a + j + 1)).take (i - (a + j + 1)) ++ 59 :: s.data.toList.drop (i + 1) := by
                      have e2 : (s.data.toList.drop (a + j + 1)).drop (i - (a + j + 1)) = s.data.toList.drop i := by rw [List.drop_drop]; congr 1; omega
                      have e3 := drop_cons s i hil
                      rw [h59] at e3
                      rw [← e3, ← e2, List.take_append_drop]
                    rw [Lib.extract_data]
                    conv => lhs; rw [e1]
                    exact semi_app _ _ hfr.out
                  have hex : (s.extract (a + j + 1) i).size ≤ maxLen := by simp; unfold maxLen; omega
                  have HV : Hid (∀ w, _) := rValid_any (s.extract (a + j + 1) i) hex
                  have HN : Hid (Rd w j (s.extract (a + j + 1) i) (wr.setCell ⟨w.heap.size + 1, 1, none⟩ (.string (s.extract (a + j + 1) i)))) := hR.out.name _
                  cases hv : validL (s.extract (a + j + 1) i).data.toList with
                  | true =>
                    have HP : Hid _ := post_some (p := (i : Int) + 1) (read_cls HB0.out hsm hv) (by rw [List.length_drop, HSZ.out]; omega)
                    rw [hv] at HV
                    clear hv hsm h59 hfr hR HB0 hex
                    go_wp2_with (go_at_call 33; refine ((HV.out) _).mono ?_; rintro e w2 ⟨rfl, hb2⟩; have R2 : Hid (Rd w j (s.extract (a + j + 1) i) w2) := HN.out.keep hb2; obtain ⟨d0, d1, d2, d3, e0, e1, e2, e3⟩ := R2.out.cells; clear hb2)
                    refine bodyPost_ret (v := .tuple #[.agg #[.int .i64 j, .string (s.extract (a + j + 1) i)], .int .i64 ((i : Int) + 1)]) (by simp [results, Tryz.results54, go_sem, *]) rfl ⟨HP.out, read_below R2.out _ _⟩
                  | false =>
                    have HP : Hid _ := post_none (x := (j : Int)) (y := s.extract (a + j + 1) i) (read_bad HB0.out hsm hv)
                    rw [hv] at HV
                    clear hv hsm h59 hfr hR HB0 hex
                    go_wp2_with (go_at_call 33; refine ((HV.out) _).mono ?_; rintro e w2 ⟨rfl, hb2⟩; have R2 : Hid (Rd w j (s.extract (a + j + 1) i) w2) := HN.out.keep hb2; obtain ⟨d0, d1, d2, d3, e0, e1, e2, e3⟩ := R2.out.cells; clear hb2)
                    refine bodyPost_ret (v := .tuple #[.agg #[.int .i64 j, .string (s.extract (a + j + 1) i)], .int .i64 (-1)]) (by simp [results, Tryz.results54, go_sem, *]) rfl ⟨HP.out, read_below R2.out _ _⟩
                · have q59 : (((s[i]).toNat : Int) == 59) = false := by have := byte_eq s i hil 59; simp only [h59, decide_false] at this; exact this
                  have HF : Hid ((59 : UInt8) ∉ (s.data.toList.drop (a + j + 1)).take (i + 1 - (a + j + 1))) := by
                    have hl : i - (a + j + 1) < (s.data.toList.drop (a + j + 1)).length := by rw [List.length_drop, HSZ.out]; omega
                    rw [Hid, show i + 1 - (a + j + 1) = (i - (a + j + 1)) + 1 by omega, List.take_succ_eq_append_getElem hl]
                    intro m
                    rcases List.mem_append.1 m with m | m
                    · exact hfr.out m
                    · have m2 := List.mem_singleton.1 m
                      rw [List.getElem_drop] at m2
                      have e3 : s.data.toList[a + j + 1 + (i - (a + j + 1))]? = some s[i] := by rw [show a + j + 1 + (i - (a + j + 1)) = i by omega]; exact Lib.Pa.at_eq s i hil
                      rw [List.getElem?_eq_getElem (by simp; omega)] at e3
                      exact h59 (by rw [m2]; exact (Option.some.inj e3).symm)
                  clear h59 hfr hR HB0
                  go_wp2
                  go_round
                  case rel => exact ⟨i + 1, by go_num, by omega, by omega, HF⟩
                  case measure => simp [intOf]; omega
              · have HP : Hid _ := post_none (x := (j : Int)) (y := ⟨#[]⟩) (read_open HB0.out (semi_none _ (by
                  have := hfr.out
                  rw [List.take_of_length_le (by rw [List.length_drop, HSZ.out]; omega)] at this
                  exact this)))
                have HB : Hid _ := read_below hR.out (.int .i64 j) (.string ⟨#[]⟩)
                clear hR hfr HB0
                go_wp2
                refine bodyPost_ret (v := .tuple #[.agg #[.int .i64 j, .string ⟨#[]⟩], .int .i64 (-1)]) (by simp [results, Tryz.results54, go_sem, *]) rfl ⟨HP.out, HB.out⟩
          · have q76 : (((s[a + j]).toNat : Int) == 76) = false := by have := byte_eq s (a + j) hlt 76; simp only [h76, decide_false] at this; exact this
            have n76 : (((s[a + j]).toNat : Int) != 76) = true := by rw [bne, q76]; rfl
            have HP : Hid _ := post_none (x := (j : Int)) (y := ⟨#[]⟩) (read_other hb0 h73 h76)
            have HB : Hid _ := read_below hR.out (.int .i64 j) (.string ⟨#[]⟩)
            clear hR hbr h91 hb0 h73 h76
            go_wp2
            refine bodyPost_ret (v := .tuple #[.agg #[.int .i64 j, .string ⟨#[]⟩], .int .i64 (-1)]) (by simp [results, Tryz.results54, go_sem, *]) rfl ⟨HP.out, HB.out⟩
    · have hend : a + j = s.size := by omega
      have HP : Hid _ := post_none (s := s) (a := a) (x := (j : Int)) (y := ⟨#[]⟩) (read_nil (j := j) (by rw [hbr.out, drop_end s (a + j) (by omega)]; simp [bracks]))
      have HB : Hid _ := read_below hR.out (.int .i64 j) (.string ⟨#[]⟩)
      clear hR hbr hend
      go_wp2
      refine bodyPost_ret (v := .tuple #[.agg #[.int .i64 j, .string ⟨#[]⟩], .int .i64 (-1)]) (by simp [results, Tryz.results54, go_sem, *]) rfl ⟨HP.out, HB.out⟩

end Go.Proofs.YtijlipllahfakaaGreatDoor
