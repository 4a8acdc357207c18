/- Package access: check, and flags.Open. -/
import Derived.Test.YthnoeibapiaceaaHrR
namespace Go.Proofs.Ythnoeibapiaceaa
open Go.RowKit Go.Maps

def intV (i : Int) : Value := .int .i64 i
/-- are all of them numbers of a class? -/
def inB (n : Nat) (l : List Int) : Bool := l.all fun i => decide (0 ≤ i) && decide (i < (n : Int))

set_option maxRecDepth 100000 in
theorem check_nil (v : Value) (W : World) : Calls Try.prog 10 #[.pointer none, v] W fun e w' => e = .returned (.int .i64 2) ∧ w' = W := by
  go_enter Try.func10, Try.ntmps10
  go_wp2
  exact bodyPost_ret (results_tmp rfl _ _ _) rfl ⟨rfl, rfl⟩
set_option maxRecDepth 100000 in
set_option maxHeartbeats 1000000 in
theorem check_any (N b mb : Nat) (ps : List Plc) (vp : Value) (pv : List PV) (v : Value) (ids : List Int) (W : World) (h : HW W N b mb ps vp pv) (hv : Rds W v ids.length 1 (ids.map intV)) (hk9 : ids.length ≤ 1000000) : Calls Try.prog 10 #[.pointer (some ⟨b, 0, none⟩), v] W fun e w' => e = .returned (.int .i64 (if inB ps.length ids then 0 else 3)) ∧ Below W.heap.size W w' := by
  obtain ⟨L, hL⟩ : ∃ L, ids.length = L := ⟨_, rfl⟩
  have HL : Hid (ids.length = L) := hL
  obtain ⟨av, cv, rfl⟩ := hv.slice
  have HV : Hid (Rds W (.slice av ids.length cv) ids.length 1 (ids.map intV)) := hv
  have HLen : Hid (∀ w : World, Below W.heap.size W w → Calls Try.prog 19 #[.pointer (some ⟨b, 0, none⟩)] w fun e w' => e = .returned (.int .i64 (ps.length : Int)) ∧ w' = w) := fun w hb => len_any N b mb ps vp pv w (h.below hb)
  rw [hL]
  rw [hL] at hk9
  clear hv h hL
  obtain ⟨R, hR⟩ : ∃ R, R = (if inB ps.length ids then (0 : Int) else 3) := ⟨_, rfl⟩
  rw [← hR]
  have HR : Hid (R = (if inB ps.length ids then (0 : Int) else 3)) := hR
  clear hR
  go_enter Try.func10, Try.ntmps10
  go_wp2
  go_loopw [11] (fun kv wr => ∃ k : Nat, kv = .int .i64 k ∧ k ≤ L ∧ wr = W ∧ Hid (inB ps.length (ids.take k) = true)) (fun kv _ => L - (intOf kv).toNat)
  case atStart => exact ⟨0, rfl, Nat.zero_le _, rfl, rfl⟩
  case round =>
    obtain ⟨k, rfl, hk, rfl, hin⟩ := hrel
    by_cases hlt : k < L
    · obtain ⟨id, hid⟩ : ∃ p, ids[k]? = some p := ⟨_, List.getElem?_eq_getElem (by rw [HL.out]; exact hlt)⟩
      obtain ⟨bk, o, rfl, hbk, hcell⟩ : ∃ bk o, av = some ⟨bk, o, none⟩ ∧ bk < wr.heap.size ∧ wr.cell? ⟨bk, o + k, none⟩ = some (.int .i64 id) := by
        rcases HV.out.val with ⟨_, e2⟩ | ⟨bk, o, c, e, _, _, h3, h4⟩
        · rw [HL.out] at e2; omega
        · simp only [Value.slice.injEq] at e
          exact ⟨bk, o, e.1, h3, h4 k _ (by rw [List.getElem?_map, hid]; rfl)⟩
      have hT : ids.take (k + 1) = ids.take k ++ [id] := by rw [List.take_add_one, hid]; rfl
      have HNX : Hid (inB ps.length (ids.take (k + 1)) = (decide (0 ≤ id) && decide (id < (ps.length : Int)))) := by
        rw [Hid, hT, inB, List.all_append]
        have := hin.out
        rw [inB] at this
        rw [this]; simp
      have HNO : Hid ((decide (0 ≤ id) && decide (id < (ps.length : Int))) = false → R = 3) := fun hf => by
        rw [HR.out, if_neg]
        intro hall
        rw [inB, List.all_eq_true] at hall
        have := hall id (List.mem_of_getElem? hid)
        rw [hf] at this; cases this
      clear hT hid
      by_cases h0 : id < 0
      · go_wp2
        exact bodyPost_ret (results_tmp rfl _ _ _) rfl ⟨by have e := HNO.out (by rw [decide_eq_false (by omega)]; rfl); subst e; rfl, Below.refl _ _⟩
      · by_cases h1 : (ps.length : Int) ≤ id
        · go_wp2_with (go_at_call 19; refine (HLen.out _ (Below.refl _ _)).mono ?_; rintro e w9 ⟨rfl, hw9⟩; rw [hw9]; clear hw9 w9)
          exact bodyPost_ret (results_tmp rfl _ _ _) rfl ⟨by have e := HNO.out (by rw [decide_eq_false (p := id < _) (by omega), Bool.and_false]); subst e; rfl, Below.refl _ _⟩
        · go_wp2_with (go_at_call 19; refine (HLen.out _ (Below.refl _ _)).mono ?_; rintro e w9 ⟨rfl, hw9⟩; rw [hw9]; clear hw9 w9)
          go_roundw
          case rel => exact ⟨k + 1, by go_num, by omega, trivial, by rw [Hid, HNX.out, decide_eq_true (by omega), decide_eq_true (by omega)]; rfl⟩
          case measure => simp [intOf]; omega
    · have e : k = L := by omega
      subst e
      have hall : R = 0 := by
        rw [HR.out]
        have := hin.out
        rw [List.take_of_length_le (by rw [HL.out]; exact Nat.le_refl _)] at this
        rw [if_pos this]
      go_wp2
      exact bodyPost_ret (results_tmp rfl _ _ _) rfl ⟨by subst hall; rfl, Below.refl _ _⟩

set_option maxRecDepth 100000 in
/-- is one of the flags there? -/
theorem hasAny_any (f m : Int) (W : World) : Calls Try.prog 34 #[.int .i64 f, .int .i64 m] W fun e w' => e = .returned (.bool (bits .and .i64 f m != 0)) ∧ w' = W := by
  go_enter Try.func34, Try.ntmps34
  go_wp2
  exact bodyPost_ret (results_tmp rfl _ _ _) rfl ⟨rfl, rfl⟩
set_option maxRecDepth 100000 in
theorem open_pub (f : Int) (hf : (bits .and .i64 f 1 != 0) = true) (W : World) : Calls Try.prog 21 #[.int .i64 f] W fun e w' => e = .returned (.int .i64 1) ∧ w' = W := by
  have HH : Hid (∀ w : World, Calls Try.prog 34 #[.int .i64 f, .int .i64 1] w fun e w' => e = .returned (.bool true) ∧ w' = w) := fun w => by rw [← hf]; exact hasAny_any f 1 w
  clear hf
  go_enter Try.func21, Try.ntmps21
  go_wp2_with (go_at_call 34; refine (HH.out _).mono ?_; rintro e w9 ⟨rfl, hw9⟩; rw [hw9]; clear hw9 w9)
  exact bodyPost_ret (results_tmp rfl _ _ _) rfl ⟨rfl, rfl⟩

set_option maxRecDepth 100000 in
set_option maxHeartbeats 1000000 in
theorem isClassOpen_pub (N b mb : Nat) (ps : List Plc) (vp : Value) (pv : List PV) (d : Int) (k : Nat) (q : Plc) (W : World) (h : HW W N b mb ps vp pv) (hq : ps[k]? = some q) (hB : PlcB q) (hf : (bits .and .i64 q.c.fl 1 != 0) = true) : Calls Try.prog 11 #[.pointer (some ⟨b, 0, none⟩), .int .i64 d, .int .i64 (k : Int)] W fun e w' => e = .returned (.bool true) ∧ Below W.heap.size W w' := by
  have HC : Hid (∀ w : World, Below W.heap.size W w → Calls Try.prog 20 #[.pointer (some ⟨b, 0, none⟩), .int .i64 (k : Int)] w fun e w' => ∃ vi vm qm, e = .returned (.tuple #[.agg #[.string q.c.nm, .string q.c.su, vi, .int .i64 q.c.fl, .int .i64 q.c.ld, vm], .int .i64 0]) ∧ OwnC w' w.heap.size vi q.c.ni q.c.xi vm qm ∧ qm.map Prod.fst = q.c.ms ∧ Below w.heap.size w w') := fun w hb => class_yes N b mb ps vp pv k q w (h.below hb) hq hB
  have HO : Hid (∀ w : World, Calls Try.prog 21 #[.int .i64 q.c.fl] w fun e w' => e = .returned (.int .i64 1) ∧ w' = w) := fun w => open_pub q.c.fl hf w
  clear h hq hB hf
  go_enter Try.func11, Try.ntmps11
  go_wp2_with (first
    | (go_at_call 20; refine (HC.out _ (Below.refl _ _)).mono ?_; rintro e w1 ⟨vi, vm, qm, rfl, hown, _, hb⟩; obtain ⟨a1, c1, rfl⟩ := ownv hown.ifs; obtain ⟨a2, c2, rfl⟩ := ownv hown.ms; have B1 : Hid (Below W.heap.size W w1) := hb; clear hown hb HC)
    | (go_at_call 21; refine (HO.out _).mono ?_; rintro e w9 ⟨rfl, hw9⟩; rw [hw9]; clear hw9 w9))
  exact bodyPost_ret (results_tmp rfl _ _ _) rfl ⟨rfl, B1.out.alloc B1.out.size _⟩
end Go.Proofs.Ythnoeibapiaceaa
