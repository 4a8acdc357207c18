/- What a world is asked first: how many classes, and a name's number; the laws' own first look (awake); a nil world. -/
import Derived.Test.YthnoeibapiaceaaHrG
import Derived.Maps.OwnOps
namespace Go.Proofs.Ythnoeibapiaceaa
open Go.RowKit Go.Maps

theorem zero3 (w : World) : (zeroValue 3).run Try.prog w = .ok (.int .i64 0) w := by kernel_rfl

theorem len_any (N b mb : Nat) (ps : List Plc) (vp : Value) (pv : List PV) (W : World) (h : HW W N b mb ps vp pv) : Calls Try.prog 19 #[.pointer (some ⟨b, 0, none⟩)] W fun e w' => e = .returned (.int .i64 (ps.length : Int)) ∧ w' = W := by
  obtain ⟨a, c, rfl⟩ := ownv h.row
  have b0 := cell_of_row W b 0 _ _ _ h.hb
  simp only [List.getElem?_toArray, List.getElem?_cons_zero] at b0
  rw [h.len] at b0
  clear h
  go_enter Try.func19, Try.ntmps19
  go_wp2
  exact bodyPost_ret (results_tmp rfl _ _ _) rfl ⟨rfl, rfl⟩
theorem len_nil (W : World) : Calls Try.prog 19 #[.pointer none] W fun e w' => e = .returned (.int .i64 0) ∧ w' = W := by
  go_enter Try.func19, Try.ntmps19
  go_wp2
  exact bodyPost_ret (results_tmp rfl _ _ _) rfl ⟨rfl, rfl⟩

set_option maxRecDepth 100000 in
theorem byName_any (N b mb : Nat) (ps : List Plc) (vp : Value) (pv : List PV) (nm : ByteArray) (hnz : nm.size ≤ maxLen) (W : World) (h : HW W N b mb ps vp pv) : Calls Try.prog 25 #[.pointer (some ⟨b, 0, none⟩), .string nm] W fun e w' => (∃ c : Int, (numsD ps).atKey (.string nm.data.toList) (.lit (.int .i64 0)) = .lit (.int .i64 c) ∧ e = .returned (if Maps.has (numsD ps) (.string nm.data.toList) then .tuple #[.int .i64 c, .int .i64 0] else .tuple #[.int .i64 0, .int .i64 6])) ∧ Below W.heap.size W w' := by
  have b1 := cell_of_row W b 1 _ _ _ h.hb
  simp only [List.getElem?_toArray, List.getElem?_cons_zero, List.getElem?_cons_succ] at b1
  obtain ⟨D, hD⟩ : ∃ D, numsD ps = D := ⟨_, rfl⟩
  have hown := h.map
  rw [hD] at hown ⊢
  have HOWN : Hid _ := hown
  have hkey := Go.WideMaps.keyOf_string_mk (P := Try.prog) Try.underlying9 hnz
  have HKEY : Hid (keyOf Try.prog 9 (.string nm) = some (.string nm.data.toList)) := hkey
  obtain ⟨kl, hkl⟩ : ∃ k, k = Lit.string nm.data.toList := ⟨_, rfl⟩
  rw [← hkl] at HKEY ⊢
  clear h hD hown hkey hkl
  cases hz : Maps.has D kl with
  | true =>
    go_enter Try.func25, Try.ntmps25
    go_wp2_with (at_lookup; refine wpList_lookup_own_ok_int _ rfl _ _ 49 rfl 9 3 .i64 law9 Try.underlying49 Try.underlying3 (zero3 _) mb ps.length D rfl HOWN.out _ _ rfl HKEY.out ?_; intro cc hat hwc; have HAT : Hid _ := hat; clear hat hwc)
    exact bodyPost_ret (results_tmp2 rfl _ _ _) rfl ⟨⟨cc, HAT.out, rfl⟩, Below.refl _ _⟩
  | false =>
    go_enter Try.func25, Try.ntmps25
    go_wp2_with (at_lookup; refine wpList_lookup_own_ok_int _ rfl _ _ 49 rfl 9 3 .i64 law9 Try.underlying49 Try.underlying3 (zero3 _) mb ps.length D rfl HOWN.out _ _ rfl HKEY.out ?_; intro cc hat hwc; have HAT : Hid _ := hat; clear hat hwc)
    exact bodyPost_ret (results_tmp2 rfl _ _ _) rfl ⟨⟨⟨cc, HAT.out⟩, rfl⟩, Below.refl _ _⟩
theorem byName_nil (nm : ByteArray) (W : World) : Calls Try.prog 25 #[.pointer none, .string nm] W fun e w' => e = .returned (.tuple #[.int .i64 0, .int .i64 6]) ∧ w' = W := by
  go_enter Try.func25, Try.ntmps25
  go_wp2
  exact bodyPost_ret (results_tmp2 rfl _ _ _) rfl ⟨rfl, rfl⟩

theorem nums3 : (numsD P3).atKey (.string tClo.data.toList) (.lit (.int .i64 0)) = .lit (.int .i64 1) ∧ Maps.has (numsD P3) (.string tClo.data.toList) = true := by
  constructor
  · rfl
  · rfl
end Go.Proofs.Ythnoeibapiaceaa
