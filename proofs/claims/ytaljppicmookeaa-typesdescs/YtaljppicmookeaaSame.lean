/- Walks of Args (both), and of the document's SameTypes and SameDesc at lists and descriptors that are the same; what was there before stays. -/
import Derived.Test.YtaljppicmookeaaRefDesc
namespace Go.Proofs.Ytaljppicmookeaa
open Go.RowKit

set_option maxHeartbeats 400000 in
theorem args_any (s : ByteArray) (hs : s.size ≤ maxLen) (w : World) :
    Calls Try.prog 17 #[.string s] w fun e w' => e = .returned (.tuple #[.int .i64 (pdD s.data.toList).1.length, .int .i64 (pdE s.data.toList)]) ∧ Below w.heap.size w w' := by
  have HP : Hid (∀ w, _) := parseDesc_any s hs
  unfold DOut at HP
  generalize pdE s.data.toList = x at *
  generalize pdD s.data.toList = d at *
  generalize retT d.2 = t at *
  generalize voidB d.2 = vb at *
  go_enter Try.func17, Try.ntmps17
  go_wp2_with (go_at_call 14; refine (HP.out _).mono ?_; rintro e w1 ⟨v, rfl, ho, hb1⟩; obtain ⟨ao, cap, rfl⟩ := own_slice ho)
  go_ret2
  exact ⟨rfl, hb1.alloc hb1.size _⟩

set_option maxHeartbeats 400000 in
theorem rArgs_any (s : ByteArray) (hs : s.size ≤ maxLen) (w : World) :
    Calls Try.prog 18 #[.string s] w fun e w' => e = .returned (.tuple #[.int .i64 (pdD s.data.toList).1.length, .int .i64 (pdE s.data.toList)]) ∧ Below w.heap.size w w' := by
  have HP : Hid (∀ w, _) := rParseDesc_any s hs
  unfold DOut at HP
  generalize pdE s.data.toList = x at *
  generalize pdD s.data.toList = d at *
  generalize retT d.2 = t at *
  generalize voidB d.2 = vb at *
  go_enter Try.func18, Try.ntmps18
  go_wp2_with (go_at_call 15; refine (HP.out _).mono ?_; rintro e w1 ⟨v, rfl, ho, hb1⟩; obtain ⟨ao, cap, rfl⟩ := own_slice ho)
  go_ret2
  exact ⟨rfl, hb1.alloc hb1.size _⟩

theorem same_true (x : Int) (y : ByteArray) (w : World) : Calls Try.prog 11 #[.agg #[.int .i64 x, .string y], .agg #[.int .i64 x, .string y]] w fun e w' => e = .returned (.bool true) ∧ Below w.heap.size w w' := by
  have h := rSame_any x x y y w
  simp only [decide_true, Bool.and_true] at h
  exact h

set_option maxHeartbeats 1000000 in
theorem sameTypes_any (v1 v2 : Value) (ts : List (Int × ByteArray)) (W : World) (h1 : IsTys W v1 ts) (h2 : IsTys W v2 ts) :
    Calls Try.prog 33 #[v1, v2] W fun e w' => e = .returned (.bool true) ∧ Below W.heap.size W w' := by
  obtain ⟨a1, cap1, rfl, hl1, hm1, hc1⟩ := h1
  obtain ⟨a2, cap2, rfl, hl2, hm2, hc2⟩ := h2
  unfold maxLen at hm1 hm2
  have HC1 : Hid _ := hc1
  have HC2 : Hid _ := hc2
  clear hc1 hc2
  go_enter Try.func33, Try.ntmps33
  go_wp2
  go_loopw [5] (fun iv wr => ∃ i : Nat, iv = .int .i64 i ∧ i ≤ ts.length ∧ Hid (Below W.heap.size W wr)) (fun iv _ => ts.length - (intOf iv).toNat)
  case atStart => exact ⟨0, rfl, Nat.zero_le _, Below.refl _ _⟩
  case round =>
    obtain ⟨i, rfl, hi, hb⟩ := hrel
    by_cases hlt : i < ts.length
    · have hne : ts ≠ [] := by intro e; rw [e] at hlt; simp at hlt
      obtain ⟨b1, o1, rfl, hb1, c1⟩ := HC1.out hne
      obtain ⟨b2, o2, rfl, hb2, c2⟩ := HC2.out hne
      obtain ⟨⟨d, n⟩, ht⟩ : ∃ t, ts[i]? = some t := ⟨_, List.getElem?_eq_getElem hlt⟩
      obtain ⟨x0, x1⟩ := c1 i _ ht
      obtain ⟨y0, y1⟩ := c2 i _ ht
      have T0 : Hid (Below W.heap.size W wr.drew) := hb.out.drew
      obtain ⟨σ, V, V1, V2⟩ : ∃ (σ : Type) (V : σ → World), Hid (∀ s, Hid (Below W.heap.size W (V s))) ∧ Hid (∀ x, Hid (Below W.heap.size W x) → ∃ s, x = V s) :=
        ⟨{x // Hid (Below W.heap.size W x)}, Subtype.val, fun s => s.2, fun x q => ⟨⟨x, q⟩, rfl⟩⟩
      have hns : Nonempty σ := (V2.out _ T0).elim fun s _ => ⟨s⟩
      have q0 : ∀ s', (V s').cell? ⟨b1, o1 + i * 2, none⟩ = some (.int .i64 d) := fun s' => ((V1.out s').out.cell (p := ⟨b1, o1 + i * 2, none⟩) hb1).trans x0
      have q1 : ∀ s', (V s').cell? ⟨b1, o1 + i * 2 + 1, none⟩ = some (.string n) := fun s' => ((V1.out s').out.cell (p := ⟨b1, o1 + i * 2 + 1, none⟩) hb1).trans x1
      have q2 : ∀ s', (V s').cell? ⟨b2, o2 + i * 2, none⟩ = some (.int .i64 d) := fun s' => ((V1.out s').out.cell (p := ⟨b2, o2 + i * 2, none⟩) hb2).trans y0
      have q3 : ∀ s', (V s').cell? ⟨b2, o2 + i * 2 + 1, none⟩ = some (.string n) := fun s' => ((V1.out s').out.cell (p := ⟨b2, o2 + i * 2 + 1, none⟩) hb2).trans y1
      have HSV : Hid (∀ s', Calls Try.prog 11 #[.agg #[.int .i64 d, .string n], .agg #[.int .i64 d, .string n]] (V s') fun e w' => e = .returned (.bool true) ∧ ∃ s, w' = V s) := fun s' => (same_true d n (V s')).mono fun e w' ⟨he, hb⟩ => ⟨he, V2.out _ (Below.trans (V1.out s').out (hb.mono (V1.out s').out.size))⟩
      clear c1 c2 x0 x1 y0 y1 ht HC1 HC2 hne
      go_wp2
      refine wp_region_class (C := fun w' => ∃ s, w' = V s) (by kernel_rfl) (by kernel_rfl) (V2.out _ T0) ?_
      repeat (go_big_quiet_step ((go_at_call 11; exact HSV.out _)))
      refine wpQuiet_nil ?_
      intro w9 hw9
      obtain ⟨s9, rfl⟩ := hw9
      go_wp2
      go_roundw
      case rel => exact ⟨i + 1, by go_num, by omega, V1.out s9⟩
      case measure => simp [intOf]; omega
    · clear HC1 HC2
      go_wp2
      go_ret
      exact ⟨rfl, hb.out⟩

theorem tys_slice {w : World} {v : Value} {ts : List (Int × ByteArray)} (h : IsTys w v ts) : ∃ ao cap, v = .slice ao ts.length cap := by
  obtain ⟨ao, cap, rfl, _⟩ := h
  exact ⟨ao, cap, rfl⟩

set_option maxHeartbeats 1000000 in
theorem sameDesc_any (v1 v2 : Value) (ts : List (Int × ByteArray)) (vb : Bool) (rd : Int) (rn : ByteArray) (W : World) (h1 : IsTys W v1 ts) (h2 : IsTys W v2 ts) :
    Calls Try.prog 16 #[.agg #[v1, .bool vb, .int .i64 rd, .string rn], .agg #[v2, .bool vb, .int .i64 rd, .string rn]] W fun e w' => e = .returned (.bool true) ∧ Below W.heap.size W w' := by
  have HT : Hid (∀ w, Below W.heap.size W w → Calls Try.prog 33 #[v1, v2] w fun e w' => e = .returned (.bool true) ∧ Below w.heap.size w w') := fun w hb => sameTypes_any v1 v2 ts w (h1.keep hb) (h2.keep hb)
  have HS : Hid (∀ w, _) := same_true rd rn
  obtain ⟨a1, cap1, rfl⟩ := tys_slice h1
  obtain ⟨a2, cap2, rfl⟩ := tys_slice h2
  clear h1 h2
  have hvb : (vb == vb) = true := by simp
  go_enter Try.func16, Try.ntmps16
  go_wp2_with (first
    | (go_at_call 11; refine (HS.out _).mono ?_; rintro e w1 ⟨rfl, hb1⟩; have hB : Hid (Below W.heap.size W w1) := Below.step (((Below.refl _ _).alloc (Nat.le_refl _) _).alloc (by simp) _) hb1; have c0 := hb1.cell (p := ⟨W.heap.size, 0, none⟩) (by simp; omega); have c1 := hb1.cell (p := ⟨W.heap.size + 1, 0, none⟩) (by simp); clear hb1)
    | (go_at_call 33; refine (HT.out _ hB.out).mono ?_; rintro e w2 ⟨rfl, hb2⟩))
  go_ret
  exact ⟨rfl, Below.step hB.out hb2⟩

end Go.Proofs.Ytaljppicmookeaa
