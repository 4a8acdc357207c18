/- What a world is asked first: how many classes, and a name's number; the laws' own first look (awake); a nil world. -/
import Derived.Test.YtfkdemkdkepmdaaGreatHrG
import Derived.Maps.OwnOps
namespace Go.Proofs.YtfkdemkdkepmdaaGreat
open Go.RowKit Go.Maps

theorem zero3 (w : World) : (zeroValue 3).run Tryz.prog w = .ok (.int .i64 0) w := by kernel_rfl

theorem len_any (N b mb : Nat) (ps : List Plc) (vp : Value) (pv : List PV) (W : World) (h : HW W N b mb ps vp pv) : Calls Tryz.prog 11 #[.pointer (some ⟨b, 0, none⟩)] W fun e w' => e = .returned (.int .i64 (ps.length : Int)) ∧ w' = W := by
  obtain ⟨a, c, rfl⟩ := ownv h.row
  have b0 := cell_of_row W b 0 _ _ _ h.hb
  simp only [List.getElem?_toArray, List.getElem?_cons_zero] at b0
  rw [h.len] at b0
  clear h
  go_enter Tryz.func11, Tryz.ntmps11
  go_wp2
  exact bodyPost_ret (results_tmp rfl _ _ _) rfl ⟨rfl, rfl⟩
theorem len_nil (W : World) : Calls Tryz.prog 11 #[.pointer none] W fun e w' => e = .returned (.int .i64 0) ∧ w' = W := by
  go_enter Tryz.func11, Tryz.ntmps11
  go_wp2
  exact bodyPost_ret (results_tmp rfl _ _ _) rfl ⟨rfl, rfl⟩

set_option maxRecDepth 100000 in
theorem byName_any (N b mb : Nat) (ps : List Plc) (vp : Value) (pv : List PV) (nm : ByteArray) (hnz : nm.size ≤ maxLen) (W : World) (h : HW W N b mb ps vp pv) : Calls Tryz.prog 15 #[.pointer (some ⟨b, 0, none⟩), .string nm] W fun e w' => (∃ c : Int, (numsD ps).atKey (.string nm.data.toList) (.lit (.int .i64 0)) = .lit (.int .i64 c) ∧ e = .returned (if Maps.has (numsD ps) (.string nm.data.toList) then .tuple #[.int .i64 c, .int .i64 0] else .tuple #[.int .i64 0, .int .i64 6])) ∧ Below W.heap.size W w' := by
  have b1 := cell_of_row W b 1 _ _ _ h.hb
  simp only [List.getElem?_toArray, List.getElem?_cons_zero, List.getElem?_cons_succ] at b1
  obtain ⟨D, hD⟩ : ∃ D, numsD ps = D := ⟨_, rfl⟩
  have hown := h.map
  rw [hD] at hown ⊢
  have HOWN : Hid _ := hown
  have hkey := Go.WideMaps.keyOf_string_mk (P := Tryz.prog) Tryz.underlying9 hnz
  have HKEY : Hid (keyOf Tryz.prog 9 (.string nm) = some (.string nm.data.toList)) := hkey
  obtain ⟨kl, hkl⟩ : ∃ k, k = Lit.string nm.data.toList := ⟨_, rfl⟩
  rw [← hkl] at HKEY ⊢
  clear h hD hown hkey hkl
  cases hz : Maps.has D kl with
  | true =>
    go_enter Tryz.func15, Tryz.ntmps15
    go_wp2_with (at_lookup; refine wpList_lookup_own_ok_int _ rfl _ _ 87 rfl 9 3 .i64 law9 Tryz.underlying87 Tryz.underlying3 (zero3 _) mb ps.length D rfl HOWN.out _ _ rfl HKEY.out ?_; intro cc hat hwc; have HAT : Hid _ := hat; clear hat hwc)
    exact bodyPost_ret (results_tmp2 rfl _ _ _) rfl ⟨⟨cc, HAT.out, rfl⟩, Below.refl _ _⟩
  | false =>
    go_enter Tryz.func15, Tryz.ntmps15
    go_wp2_with (at_lookup; refine wpList_lookup_own_ok_int _ rfl _ _ 87 rfl 9 3 .i64 law9 Tryz.underlying87 Tryz.underlying3 (zero3 _) mb ps.length D rfl HOWN.out _ _ rfl HKEY.out ?_; intro cc hat hwc; have HAT : Hid _ := hat; clear hat hwc)
    exact bodyPost_ret (results_tmp2 rfl _ _ _) rfl ⟨⟨⟨cc, HAT.out⟩, rfl⟩, Below.refl _ _⟩
theorem byName_nil (nm : ByteArray) (W : World) : Calls Tryz.prog 15 #[.pointer none, .string nm] W fun e w' => e = .returned (.tuple #[.int .i64 0, .int .i64 6]) ∧ w' = W := by
  go_enter Tryz.func15, Tryz.ntmps15
  go_wp2
  exact bodyPost_ret (results_tmp2 rfl _ _ _) rfl ⟨rfl, rfl⟩

theorem nums3 : (numsD P3).atKey (.string tClo.data.toList) (.lit (.int .i64 0)) = .lit (.int .i64 1) ∧ Maps.has (numsD P3) (.string tClo.data.toList) = true := by
  constructor
  · rfl
  · rfl
set_option maxRecDepth 100000 in
theorem awake_any (W : World) : Calls Tryz.prog 9 #[] W fun e w' => e = .returned (.bool true) ∧ Below W.heap.size W w' := by
  have HN : Hid (∀ w : World, Calls Tryz.prog 37 #[] w fun e w' => e = .returned (.pointer (some ⟨w.heap.size + 1, 0, none⟩)) ∧ (∃ vp pv, HW w' w.heap.size (w.heap.size + 1) w.heap.size P3 vp pv) ∧ Below w.heap.size w w') := new_any
  have HL : Hid (∀ (w : World) (N b mb : Nat) (vp : Value) (pv : List PV), HW w N b mb P3 vp pv → Calls Tryz.prog 11 #[.pointer (some ⟨b, 0, none⟩)] w fun e w' => e = .returned (.int .i64 3) ∧ w' = w) := fun w N b mb vp pv h => len_any N b mb P3 vp pv w h
  have HY : Hid (∀ (w : World) (N b mb : Nat) (vp : Value) (pv : List PV), HW w N b mb P3 vp pv → Calls Tryz.prog 15 #[.pointer (some ⟨b, 0, none⟩), .string tClo] w fun e w' => e = .returned (.tuple #[.int .i64 1, .int .i64 0]) ∧ Below w.heap.size w w') := fun w N b mb vp pv h => (byName_any N b mb P3 vp pv tClo (by decide) w h).mono (by
    rintro e w' ⟨⟨c, hc, he⟩, hb⟩
    refine ⟨?_, hb⟩
    rw [nums3.2, if_pos rfl] at he
    rw [nums3.1] at hc
    injection hc with h1
    injection h1 with _ h2
    rw [he, h2])
  go_enter Tryz.func9, Tryz.ntmps9
  go_wp2_with (first
    | (go_at_call 37; refine (HN.out _).mono ?_; rintro e w1 ⟨rfl, ⟨vp, pv, hw⟩, hb⟩; have H1 : Hid (HW w1 W.heap.size (W.heap.size + 1) W.heap.size P3 vp pv) := hw; have B1 : Hid (Below W.heap.size W w1) := hb; clear hw hb HN)
    | (go_at_call 11; refine (HL.out _ _ _ _ _ _ H1.out).mono ?_; rintro e w9 ⟨rfl, hw9⟩; rw [hw9]; clear hw9 w9 HL)
    | (go_at_call 15; refine (HY.out _ _ _ _ _ _ H1.out).mono ?_; rintro e w2 ⟨rfl, hb⟩; have B2 : Hid (Below W.heap.size W w2) := bstep B1.out hb; clear hb HY))
  exact bodyPost_ret (results_tmp rfl _ _ _) rfl ⟨rfl, B2.out⟩
end Go.Proofs.YtfkdemkdkepmdaaGreat
