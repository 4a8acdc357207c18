/- The document's access (arbiterref08: Package, ClassOpen, TypeOpen; arbiterref07.Loaded) at a world that is there. -/
import Derived.Test.YtahalliodpkoeaaGreatTyC
import Derived.Test.YtahalliodpkoeaaGreatRfB
namespace Go.Proofs.YtahalliodpkoeaaGreat
open Go.RowKit Go.Maps

set_option maxRecDepth 100000 in
theorem isOverInt_c (d : Int) (s : ByteArray) (W : World) : Calls Tryz.prog 118 #[.agg #[.int .i64 d, .string s]] W fun e w' => e = .returned (.bool s.toList.isEmpty) ∧ Below W.heap.size W w' := by
  cases he : s.toList.isEmpty
  all_goals
    go_enter Tryz.func118, Tryz.ntmps118
    go_wp2
    go_ret
    exact ⟨by first | rfl | simp_all, (by repeat (first | exact Below.refl _ _ | refine Below.setCell ?_ (by simp; try omega) _ | refine Below.alloc ?_ (by simp; try omega) _ | refine Below.drew ?_))⟩
/-- is a type loaded? -/
def ldI (ps : List Plc) (d : Int) (s : ByteArray) : Int := if sndB d s.data.toList then (if s.toList.isEmpty then 0 else match lookL ps s.data.toList with
  | some _ => 0
  | none => 20) else 1
set_option maxRecDepth 100000 in
theorem loaded_c {b : Nat} {ps : List Plc} {W : World} (h : WAt b ps W) (d : Int) (s : ByteArray) (hs : s.size ≤ maxLen) : Calls Tryz.prog 50 #[.pointer (some ⟨b, 0, none⟩), .agg #[.int .i64 d, .string s]] W fun e w' => e = .returned (.int .i64 (ldI ps d s)) ∧ Below W.heap.size W w' := by
  have HC : Hid (∀ w : World, Calls Tryz.prog 117 #[.agg #[.int .i64 d, .string s]] w fun e w' => e = .returned (.int .i64 (chkI (sndB d s.data.toList))) ∧ Below w.heap.size w w') := tyCheck_any d s hs
  have HO : Hid (∀ w : World, Calls Tryz.prog 118 #[.agg #[.int .i64 d, .string s]] w fun e w' => e = .returned (.bool s.toList.isEmpty) ∧ Below w.heap.size w w') := isOverInt_c d s
  have HN : Hid (∀ w : World, Below W.heap.size W w → Calls Tryz.prog 21 #[.pointer (some ⟨b, 0, none⟩), .string s] w fun e w' => e = .returned (bnV (lookL ps s.data.toList)) ∧ Below w.heap.size w w') := fun w hb => byName_c (h.below hb) s hs
  obtain ⟨R, hR⟩ : ∃ R, ldI ps d s = R := ⟨_, rfl⟩
  rw [hR]
  have HR : Hid (ldI ps d s = R) := hR
  clear hR h
  unfold ldI at HR
  generalize sndB d s.data.toList = sn at *
  generalize s.toList.isEmpty = em at *
  generalize lookL ps s.data.toList = lk at *
  cases sn with
  | false =>
    have e : chkI false = 1 := rfl
    rw [e] at HC
    have HS : Hid (R = 1) := HR.out.symm
    clear HR
    go_enter Tryz.func50, Tryz.ntmps50
    go_wp2_with (go_at_call 117; refine (HC.out _).mono ?_; rintro e w1 ⟨rfl, hb⟩; have B1 : Hid (Below W.heap.size W w1) := bstep (by repeat (first | exact Below.refl _ _ | refine Below.setCell ?_ (by simp; try omega) _ | refine Below.alloc ?_ (by simp; try omega) _ | refine Below.drew ?_)) hb; clear hb HC)
    exact bodyPost_ret (results_tmp rfl _ _ _) rfl ⟨by rw [HS.out]; rfl, B1.out⟩
  | true =>
    have e : chkI true = 0 := rfl
    rw [e] at HC
    cases em with
    | true =>
      have HS : Hid (R = 0) := HR.out.symm
      clear HR
      go_enter Tryz.func50, Tryz.ntmps50
      go_wp2_with (first
        | (go_at_call 117; refine (HC.out _).mono ?_; rintro e w1 ⟨rfl, hb⟩; have h0 := (hb.block W.heap.size (by simp)).trans (halloc1 W _); have r0 := cell_of_row w1 W.heap.size 0 _ _ _ h0; have r1 := cell_of_row w1 W.heap.size 1 _ _ _ h0; simp only [List.getElem?_toArray, List.getElem?_cons_zero, List.getElem?_cons_succ] at r0 r1; have B1 : Hid (Below W.heap.size W w1) := bstep (by repeat (first | exact Below.refl _ _ | refine Below.setCell ?_ (by simp; try omega) _ | refine Below.alloc ?_ (by simp; try omega) _ | refine Below.drew ?_)) hb; clear hb HC h0)
        | (go_at_call 118; refine (HO.out _).mono ?_; rintro e w2 ⟨rfl, hb⟩; have B2 : Hid (Below W.heap.size W w2) := bstep B1.out hb; clear hb HO))
      exact bodyPost_ret (results_tmp rfl _ _ _) rfl ⟨by rw [HS.out]; rfl, B2.out⟩
    | false =>
      cases lk
      all_goals
        first | have HS : Hid (R = 20) := HR.out.symm | have HS : Hid (R = 0) := HR.out.symm
        clear HR
        simp only [bnV] at HN
        go_enter Tryz.func50, Tryz.ntmps50
        go_wp2_with (first
          | (go_at_call 117; refine (HC.out _).mono ?_; rintro e w1 ⟨rfl, hb⟩; have h0 := (hb.block W.heap.size (by simp)).trans (halloc1 W _); have r0 := cell_of_row w1 W.heap.size 0 _ _ _ h0; have r1 := cell_of_row w1 W.heap.size 1 _ _ _ h0; simp only [List.getElem?_toArray, List.getElem?_cons_zero, List.getElem?_cons_succ] at r0 r1; have hl : W.heap.size < w1.heap.size := (Array.getElem?_eq_some_iff.1 h0).1; have B1 : Hid (Below W.heap.size W w1) := bstep (by repeat (first | exact Below.refl _ _ | refine Below.setCell ?_ (by simp; try omega) _ | refine Below.alloc ?_ (by simp; try omega) _ | refine Below.drew ?_)) hb; clear hb HC h0)
          | (go_at_call 118; refine (HO.out _).mono ?_; rintro e w2 ⟨rfl, hb⟩; have B2 : Hid (Below W.heap.size W w2) := bstep B1.out hb; replace r0 := (hb.cell (p := ⟨W.heap.size, 0, none⟩) hl).trans r0; replace r1 := (hb.cell (p := ⟨W.heap.size, 1, none⟩) hl).trans r1; clear hb HO)
          | (go_at_call 21; refine (HN.out _ B2.out).mono ?_; rintro e w3 ⟨rfl, hb⟩; have B3 : Hid (Below W.heap.size W w3) := bstep B2.out hb; clear hb HN))
        exact bodyPost_ret (results_tmp rfl _ _ _) rfl ⟨by rw [HS.out]; rfl, B3.out⟩


/-- is a loaded type open to the class of p? -/
def tyO (ps : List Plc) (p : Plc) (s : ByteArray) : Bool := if s.toList.isEmpty then true else match lookL ps s.data.toList with
  | some k => (match ps[k]? with | some q => clsO q p | none => false)
  | none => false
set_option maxRecDepth 100000 in
theorem aTy_c {b : Nat} {ps : List Plc} {W : World} (h : WAt b ps W) (hB : ∀ q ∈ ps, PlcB q) (d : Nat) (p : Plc) (hd : ps[d]? = some p) (x : Int) (s : ByteArray) (hs : s.size ≤ maxLen) (hl : ldI ps x s = 0) : Calls Tryz.prog 130 #[.pointer (some ⟨b, 0, none⟩), .int .i64 (d : Int), .agg #[.int .i64 x, .string s]] W fun e w' => e = .returned (.bool (tyO ps p s)) ∧ Below W.heap.size W w' := by
  cases he : s.toList.isEmpty with
  | true =>
    have e : tyO ps p s = true := by rw [tyO, he]; rfl
    rw [e]
    clear h e hl
    go_enter Tryz.func130, Tryz.ntmps130
    go_wp2
    exact bodyPost_ret (results_tmp rfl _ _ _) rfl ⟨rfl, (by repeat (first | exact Below.refl _ _ | refine Below.setCell ?_ (by simp; try omega) _ | refine Below.alloc ?_ (by simp; try omega) _ | refine Below.drew ?_))⟩
  | false =>
    obtain ⟨k, hk⟩ : ∃ k, lookL ps s.data.toList = some k := by
      unfold ldI at hl
      rw [he] at hl
      cases hl2 : lookL ps s.data.toList with
      | some k => exact ⟨k, rfl⟩
      | none => rw [hl2] at hl; exfalso; revert hl; cases sndB x s.data.toList <;> simp
    obtain ⟨q, hq, _⟩ := look_place hk
    have e : tyO ps p s = clsO q p := by rw [tyO, he, hk]; simp only [hq]; rfl
    rw [e]
    have HN : Hid (∀ w : World, Below W.heap.size W w → Calls Tryz.prog 21 #[.pointer (some ⟨b, 0, none⟩), .string s] w fun e w' => e = .returned (.tuple #[.int .i64 (k : Int), .int .i64 0]) ∧ Below W.heap.size W w') := fun w hb => (byName_c (h.below hb) s hs).mono fun e w' zz => ⟨by rw [zz.1, hk]; rfl, bstep hb zz.2⟩
    have HI : Hid (∀ w, Below W.heap.size W w → Calls Tryz.prog 129 #[.pointer (some ⟨b, 0, none⟩), .int .i64 (d : Int), .int .i64 (k : Int)] w fun e w' => e = .returned (.bool (clsO q p)) ∧ Below W.heap.size W w') := fun w hb => (aCls_c (h.below hb) hB d k p q hd hq).mono fun e w' zz => ⟨zz.1, bstep hb zz.2⟩
    generalize clsO q p = R at *
    clear h hB hd hl hk hq e hs
    go_enter Tryz.func130, Tryz.ntmps130
    go_wp2_with (first
      | (go_at_call 21; refine (HN.out _ (by repeat (first | exact Below.refl _ _ | refine Below.setCell ?_ (by simp; try omega) _ | refine Below.alloc ?_ (by simp; try omega) _ | refine Below.drew ?_))).mono ?_; rintro e w1 ⟨rfl, hb⟩; have B1 : Hid (Below W.heap.size W w1) := hb; clear hb HN)
      | (go_at_call 129; refine (HI.out _ B1.out).mono ?_; rintro e w2 ⟨rfl, hb⟩; have B2 : Hid (Below W.heap.size W w2) := hb; clear hb HI))
    exact bodyPost_ret (results_tmp rfl _ _ _) rfl ⟨rfl, B2.out⟩
/-- what TypeOpen answers -/
def toI (ps : List Plc) (d x : Int) (s : ByteArray) : Value := match plcI ps d with
  | some p => if ldI ps x s = 0 then .tuple #[.bool (tyO ps p s), .int .i64 0] else .tuple #[.bool false, .int .i64 (ldI ps x s)]
  | none => .tuple #[.bool false, .int .i64 3]
set_option maxRecDepth 100000 in
theorem typeOpen_c {b : Nat} {ps : List Plc} {W : World} (h : WAt b ps W) (hB : ∀ q ∈ ps, PlcB q) (d x : Int) (s : ByteArray) (hs : s.size ≤ maxLen) : Calls Tryz.prog 66 #[.pointer (some ⟨b, 0, none⟩), .int .i64 d, .agg #[.int .i64 x, .string s]] W fun e w' => e = .returned (toI ps d x s) ∧ Below W.heap.size W w' := by
  have HC : Hid (∀ (w : World) (v : Value), Below W.heap.size W w → Rds w v 1 1 [.int .i64 d] → Calls Tryz.prog 126 #[.pointer (some ⟨b, 0, none⟩), v] w fun e w' => e = .returned (.int .i64 (if (plcI ps d).isSome then 0 else 3)) ∧ Below w.heap.size w w') := fun w v hb hv => (check_c (h.below hb) v [d] hv (by simp)).mono fun e w' zz => ⟨by rw [zz.1, inNs_iff]; simp, zz.2⟩
  have HL : Hid (∀ w, Below W.heap.size W w → Calls Tryz.prog 50 #[.pointer (some ⟨b, 0, none⟩), .agg #[.int .i64 x, .string s]] w fun e w' => e = .returned (.int .i64 (ldI ps x s)) ∧ Below w.heap.size w w') := fun w hb => loaded_c (h.below hb) x s hs
  rcases plcI_cases ps d with ⟨d1, _⟩ | ⟨d, p, rfl, d2, d1⟩
  · have e : toI ps d x s = .tuple #[.bool false, .int .i64 3] := by rw [toI, d1]
    rw [e]
    rw [d1] at HC
    simp only [Option.isSome_none, Bool.false_eq_true, if_false] at HC
    clear h d1 e HL
    go_enter Tryz.func66, Tryz.ntmps66
    go_wp2_with (first
      | (go_at_call 126; refine (HC.out _ _ (by repeat (first | exact Below.refl _ _ | refine Below.setCell ?_ (by simp; try omega) _ | refine Below.alloc ?_ (by simp; try omega) _ | refine Below.drew ?_)) (rds_at _ _ (by simp) _ 3 1 1 rfl (by decide))).mono ?_; rintro e w1 ⟨rfl, hb⟩; have B1 : Hid (Below W.heap.size W w1) := bstep (by repeat (first | exact Below.refl _ _ | refine Below.setCell ?_ (by simp; try omega) _ | refine Below.alloc ?_ (by simp; try omega) _ | refine Below.drew ?_)) hb; clear hb HC))
    exact bodyPost_ret (results_tmp2 rfl _ _ _) rfl ⟨rfl, B1.out⟩
  · rw [d1] at HC
    simp only [Option.isSome_some, if_true] at HC
    by_cases hl : ldI ps x s = 0
    · have e : toI ps d x s = .tuple #[.bool (tyO ps p s), .int .i64 0] := by rw [toI, d1]; simp only [if_pos hl]
      rw [e]
      have HT : Hid (∀ w, Below W.heap.size W w → Calls Tryz.prog 130 #[.pointer (some ⟨b, 0, none⟩), .int .i64 (d : Int), .agg #[.int .i64 x, .string s]] w fun e w' => e = .returned (.bool (tyO ps p s)) ∧ Below w.heap.size w w') := fun w hb => aTy_c (h.below hb) hB d p d2 x s hs hl
      rw [hl] at HL
      generalize tyO ps p s = R at *
      clear h d1 e d2 hl hB hs
      go_enter Tryz.func66, Tryz.ntmps66
      go_wp2_with (first
        | (go_at_call 126; refine (HC.out _ _ (by repeat (first | exact Below.refl _ _ | refine Below.setCell ?_ (by simp; try omega) _ | refine Below.alloc ?_ (by simp; try omega) _ | refine Below.drew ?_)) (rds_at _ _ (by simp) _ 3 1 1 rfl (by decide))).mono ?_; rintro e w1 ⟨rfl, hb⟩; have h0 := (hb.block W.heap.size (by simp; omega)).trans (heap_alloc2_old W _ _); have r0 := cell_of_row w1 W.heap.size 0 _ _ _ h0; have r1 := cell_of_row w1 W.heap.size 1 _ _ _ h0; simp only [List.getElem?_toArray, List.getElem?_cons_zero, List.getElem?_cons_succ] at r0 r1; have hl0 : W.heap.size < w1.heap.size := (Array.getElem?_eq_some_iff.1 h0).1; have B1 : Hid (Below W.heap.size W w1) := bstep (by repeat (first | exact Below.refl _ _ | refine Below.setCell ?_ (by simp; try omega) _ | refine Below.alloc ?_ (by simp; try omega) _ | refine Below.drew ?_)) hb; clear hb HC h0)
        | (go_at_call 50; refine (HL.out _ B1.out).mono ?_; rintro e w2 ⟨rfl, hb⟩; replace r0 := (hb.cell (p := ⟨W.heap.size, 0, none⟩) hl0).trans r0; replace r1 := (hb.cell (p := ⟨W.heap.size, 1, none⟩) hl0).trans r1; have B2 : Hid (Below W.heap.size W w2) := bstep B1.out hb; clear hb HL)
        | (go_at_call 130; refine (HT.out _ B2.out).mono ?_; rintro e w3 ⟨rfl, hb⟩; have B3 : Hid (Below W.heap.size W w3) := bstep B2.out hb; clear hb HT))
      exact bodyPost_ret (results_tmp2 rfl _ _ _) rfl ⟨rfl, B3.out⟩
    · have e : toI ps d x s = .tuple #[.bool false, .int .i64 (ldI ps x s)] := by rw [toI, d1]; simp only [if_neg hl]
      rw [e]
      generalize ldI ps x s = R at *
      clear h d1 e d2 hB hs
      go_enter Tryz.func66, Tryz.ntmps66
      go_wp2_with (first
        | (go_at_call 126; refine (HC.out _ _ (by repeat (first | exact Below.refl _ _ | refine Below.setCell ?_ (by simp; try omega) _ | refine Below.alloc ?_ (by simp; try omega) _ | refine Below.drew ?_)) (rds_at _ _ (by simp) _ 3 1 1 rfl (by decide))).mono ?_; rintro e w1 ⟨rfl, hb⟩; have h0 := (hb.block W.heap.size (by simp; omega)).trans (heap_alloc2_old W _ _); have r0 := cell_of_row w1 W.heap.size 0 _ _ _ h0; have r1 := cell_of_row w1 W.heap.size 1 _ _ _ h0; simp only [List.getElem?_toArray, List.getElem?_cons_zero, List.getElem?_cons_succ] at r0 r1; have hl0 : W.heap.size < w1.heap.size := (Array.getElem?_eq_some_iff.1 h0).1; have B1 : Hid (Below W.heap.size W w1) := bstep (by repeat (first | exact Below.refl _ _ | refine Below.setCell ?_ (by simp; try omega) _ | refine Below.alloc ?_ (by simp; try omega) _ | refine Below.drew ?_)) hb; clear hb HC h0)
        | (go_at_call 50; refine (HL.out _ B1.out).mono ?_; rintro e w2 ⟨rfl, hb⟩; have B2 : Hid (Below W.heap.size W w2) := bstep B1.out hb; clear hb HL))
      exact bodyPost_ret (results_tmp2 rfl _ _ _) rfl ⟨rfl, B2.out⟩
/-- what Package answers -/
def paI (ps : List Plc) (d : Int) : Value := match plcI ps d with
  | some p => .tuple #[.int .i64 p.c.ld, .string (pkB p.c.nm), .int .i64 0]
  | none => .tuple #[.int .i64 0, .string ⟨#[]⟩, .int .i64 3]
set_option maxRecDepth 100000 in
theorem package_c {b : Nat} {ps : List Plc} {W : World} (h : WAt b ps W) (hB : ∀ q ∈ ps, PlcB q) (d : Int) : Calls Tryz.prog 62 #[.pointer (some ⟨b, 0, none⟩), .int .i64 d] W fun e w' => e = .returned (paI ps d) ∧ Below W.heap.size W w' := by
  have HC : Hid (∀ (w : World) (v : Value), Below W.heap.size W w → Rds w v 1 1 [.int .i64 d] → Calls Tryz.prog 126 #[.pointer (some ⟨b, 0, none⟩), v] w fun e w' => e = .returned (.int .i64 (if (plcI ps d).isSome then 0 else 3)) ∧ Below w.heap.size w w') := fun w v hb hv => (check_c (h.below hb) v [d] hv (by simp)).mono fun e w' zz => ⟨by rw [zz.1, inNs_iff]; simp, zz.2⟩
  rcases plcI_cases ps d with ⟨d1, _⟩ | ⟨d, p, rfl, d2, d1⟩
  · have e : paI ps d = .tuple #[.int .i64 0, .string ⟨#[]⟩, .int .i64 3] := by rw [paI, d1]
    rw [e]
    rw [d1] at HC
    simp only [Option.isSome_none, Bool.false_eq_true, if_false] at HC
    clear h d1 e
    go_enter Tryz.func62, Tryz.ntmps62
    go_wp2_with (first
      | (go_at_call 126; refine (HC.out _ _ (by repeat (first | exact Below.refl _ _ | refine Below.setCell ?_ (by simp; try omega) _ | refine Below.alloc ?_ (by simp; try omega) _ | refine Below.drew ?_)) (rds_at _ _ (by simp) _ 3 1 1 rfl (by decide))).mono ?_; rintro e w1 ⟨rfl, hb⟩; have B1 : Hid (Below W.heap.size W w1) := bstep (by repeat (first | exact Below.refl _ _ | refine Below.setCell ?_ (by simp; try omega) _ | refine Below.alloc ?_ (by simp; try omega) _ | refine Below.drew ?_)) hb; clear hb HC))
    exact bodyPost_ret (v := .tuple #[.int .i64 0, .string ⟨#[]⟩, .int .i64 3]) (by simp [results, Tryz.results62, go_sem]) rfl ⟨rfl, B1.out⟩
  · rw [d1] at HC
    simp only [Option.isSome_some, if_true] at HC
    have e : paI ps d = .tuple #[.int .i64 p.c.ld, .string (pkB p.c.nm), .int .i64 0] := by rw [paI, d1]
    rw [e]
    have HP : Hid (∀ w, Below W.heap.size W w → Calls Tryz.prog 127 #[.pointer (some ⟨b, 0, none⟩), .int .i64 (d : Int)] w fun e w' => e = .returned (.agg #[.int .i64 p.c.ld, .string (pkB p.c.nm)]) ∧ Below w.heap.size w w') := fun w hb => aPkg_c (h.below hb) d p d2 (hB p (List.mem_of_getElem? d2))
    generalize pkB p.c.nm = pk at *
    clear h d1 e d2 hB
    go_enter Tryz.func62, Tryz.ntmps62
    go_wp2_with (first
      | (go_at_call 126; refine (HC.out _ _ (by repeat (first | exact Below.refl _ _ | refine Below.setCell ?_ (by simp; try omega) _ | refine Below.alloc ?_ (by simp; try omega) _ | refine Below.drew ?_)) (rds_at _ _ (by simp) _ 3 1 1 rfl (by decide))).mono ?_; rintro e w1 ⟨rfl, hb⟩; have B1 : Hid (Below W.heap.size W w1) := bstep (by repeat (first | exact Below.refl _ _ | refine Below.setCell ?_ (by simp; try omega) _ | refine Below.alloc ?_ (by simp; try omega) _ | refine Below.drew ?_)) hb; clear hb HC)
      | (go_at_call 127; refine (HP.out _ B1.out).mono ?_; rintro e w2 ⟨rfl, hb⟩; have B2 : Hid (Below W.heap.size W w2) := bstep B1.out hb; clear hb HP))
    go_region
    all_goals go_wp2
    all_goals exact bodyPost_ret (v := .tuple #[.int .i64 p.c.ld, .string pk, .int .i64 0]) (by simp [results, Tryz.results62, go_sem]) rfl ⟨rfl, (B2.out.alloc B2.out.size _).drew⟩


/-- what Package answers -/
def paC (cs : List Cls) (d : Int) : Value := match clsI cs d with
  | some c => .tuple #[.int .i64 c.ld, .string (pkB c.nm), .int .i64 0]
  | none => .tuple #[.int .i64 0, .string ⟨#[]⟩, .int .i64 3]
set_option maxRecDepth 100000 in
set_option maxHeartbeats 1000000 in
theorem rPackage8_c {b : Nat} {cs : List Cls} {W : World} (h : RAt b cs W) (hz : ∀ c ∈ cs, c.nm.size ≤ maxLen) (d : Int) : Calls Tryz.prog 63 #[.pointer (some ⟨b, 0, none⟩), .int .i64 d] W fun e w' => e = .returned (paC cs d) ∧ Below W.heap.size W w' := by
  have HI : Hid (∀ y w, Below W.heap.size W w → (clsI cs d).isSome = y → Calls Tryz.prog 93 #[.pointer (some ⟨b, 0, none⟩), .int .i64 d] w fun e w' => e = .returned (.bool y) ∧ w' = w) := fun y w hb hy => by rw [← hy]; exact rIn_c (h.below hb) d
  rcases clsI_cases cs d with ⟨h1, h2⟩ | ⟨k, q, rfl, h2, h1⟩
  · have e : paC cs d = .tuple #[.int .i64 0, .string ⟨#[]⟩, .int .i64 3] := by rw [paC, h1]
    rw [e]
    have HI2 : Hid (∀ w, Below W.heap.size W w → Calls Tryz.prog 93 #[.pointer (some ⟨b, 0, none⟩), .int .i64 d] w fun e w' => e = .returned (.bool false) ∧ w' = w) := fun w hb => HI.out false w hb (by rw [h1]; rfl)
    clear h h1 e HI hz
    go_enter Tryz.func63, Tryz.ntmps63
    go_wp2_with (go_at_call 93; refine (HI2.out _ (Below.refl _ _)).mono ?_; rintro e w9 ⟨rfl, hw9⟩; rw [hw9]; clear hw9 w9)
    exact bodyPost_ret (v := .tuple #[.int .i64 0, .string ⟨#[]⟩, .int .i64 3]) (by simp [results, Tryz.results63, go_sem]) rfl ⟨rfl, Below.refl _ _⟩
  · have e : paC cs k = .tuple #[.int .i64 q.ld, .string (pkB q.nm), .int .i64 0] := by rw [paC, h1]
    rw [e]
    have HI2 : Hid (∀ w, Below W.heap.size W w → Calls Tryz.prog 93 #[.pointer (some ⟨b, 0, none⟩), .int .i64 (k : Int)] w fun e w' => e = .returned (.bool true) ∧ w' = w) := fun w hb => HI.out true w hb (by rw [h1]; rfl)
    obtain ⟨g, cap, vi, vm, b0, hlt, hgl, c0, c1, c2, c3, c4, c5, _, _⟩ := h.cells h2
    obtain ⟨σ, V, hne, V1, V2⟩ := class_of' (fun w' => Below W.heap.size W w') ⟨_, Below.refl _ _⟩
    have HP : Hid (∀ s, Calls Tryz.prog 128 #[.string q.nm] (V s) fun e w' => e = .returned (.string (pkB q.nm)) ∧ ∃ s', w' = V s') := fun s => (rPackage_any q.nm (hz q (List.mem_of_getElem? h2)) (V s)).mono fun e w' zz => ⟨zz.1, s, zz.2⟩
    generalize pkB q.nm = pk at *
    have kp : ∀ (s : σ) (bb j : Nat) (v : Value), bb < W.heap.size → W.cell? ⟨bb, j, none⟩ = some v → (V s).cell? ⟨bb, j, none⟩ = some v := fun s bb j v hl h => ((V1.out s).cell (p := ⟨bb, j, none⟩) hl).trans h
    replace b0 := fun s => kp s _ _ _ hlt b0
    replace c0 := fun s => kp s _ _ _ hgl c0
    replace c4 := fun s => kp s _ _ _ hgl c4
    have hxI : (k : Int) < (cs.length : Int) := by have := (List.getElem?_eq_some_iff.1 h2).1; omega
    clear h h1 e HI hz h2 kp c1 c2 c3 c5
    go_enter Tryz.func63, Tryz.ntmps63
    go_wp2_with (go_at_call 93; refine (HI2.out _ (Below.refl _ _)).mono ?_; rintro e w9 ⟨rfl, hw9⟩; rw [hw9]; clear hw9 w9)
    refine wp_region_class (C := fun w' => ∃ s, w' = V s) (by kernel_rfl) (by kernel_rfl) (V2.out _ ((Below.refl _ _).drew)) ?_
    repeat (go_big_quiet_step ((go_at_call 128; exact HP.out _)))
    refine wpQuiet_nil ?_
    intro w9 hw9
    obtain ⟨s9, rfl⟩ := hw9
    go_wp2
    exact bodyPost_ret (v := .tuple #[.int .i64 q.ld, .string pk, .int .i64 0]) (by simp [results, Tryz.results63, go_sem]) rfl ⟨rfl, V1.out s9⟩
/-- what ClassOpen answers -/
def coC (cs : List Cls) (d c : Int) : Value := match clsI cs d, clsI cs c with
  | some p, some q => .tuple #[.bool (hasI q.fl 1 || togB p q), .int .i64 0]
  | _, _ => .tuple #[.bool false, .int .i64 3]
set_option maxRecDepth 100000 in
set_option maxHeartbeats 1000000 in
theorem rClassOpen_c {b : Nat} {cs : List Cls} {W : World} (h : RAt b cs W) (hz : ∀ c ∈ cs, c.nm.size ≤ maxLen) (d c : Int) : Calls Tryz.prog 65 #[.pointer (some ⟨b, 0, none⟩), .int .i64 d, .int .i64 c] W fun e w' => e = .returned (coC cs d c) ∧ Below W.heap.size W w' := by
  have HI : Hid (∀ i y w, Below W.heap.size W w → (clsI cs i).isSome = y → Calls Tryz.prog 93 #[.pointer (some ⟨b, 0, none⟩), .int .i64 i] w fun e w' => e = .returned (.bool y) ∧ w' = w) := fun i y w hb hy => by rw [← hy]; exact rIn_c (h.below hb) i
  rcases clsI_cases cs d with ⟨d1, d2⟩ | ⟨k, p, rfl, d2, d1⟩
  · have e : coC cs d c = .tuple #[.bool false, .int .i64 3] := by rw [coC, d1]
    rw [e]
    have HI2 : Hid (∀ i w, Below W.heap.size W w → i = d → Calls Tryz.prog 93 #[.pointer (some ⟨b, 0, none⟩), .int .i64 i] w fun e w' => e = .returned (.bool false) ∧ w' = w) := fun i w hb hi => by rw [hi]; exact HI.out d false w hb (by rw [d1]; rfl)
    clear h d1 e HI hz
    go_enter Tryz.func65, Tryz.ntmps65
    go_wp2_with (go_at_call 93; refine (HI2.out _ _ (Below.refl _ _) (by rfl)).mono ?_; rintro e w9 ⟨rfl, hw9⟩; rw [hw9]; clear hw9 w9)
    exact bodyPost_ret (results_tmp2 rfl _ _ _) rfl ⟨rfl, Below.refl _ _⟩
  · have HD : Hid (∀ i w, Below W.heap.size W w → i = (k : Int) → Calls Tryz.prog 93 #[.pointer (some ⟨b, 0, none⟩), .int .i64 i] w fun e w' => e = .returned (.bool true) ∧ w' = w) := fun i w hb hi => by rw [hi]; exact HI.out k true w hb (by rw [d1]; rfl)
    rcases clsI_cases cs c with ⟨c1, c2⟩ | ⟨j, q, rfl, c2, c1⟩
    · have e : coC cs k c = .tuple #[.bool false, .int .i64 3] := by rw [coC, d1, c1]
      rw [e]
      have HE : Hid (∀ i w, Below W.heap.size W w → i = c → Calls Tryz.prog 93 #[.pointer (some ⟨b, 0, none⟩), .int .i64 i] w fun e w' => e = .returned (.bool false) ∧ w' = w) := fun i w hb hi => by rw [hi]; exact HI.out c false w hb (by rw [c1]; rfl)
      clear h d1 c1 e HI hz d2
      go_enter Tryz.func65, Tryz.ntmps65
      go_wp2_with (first
        | (go_at_call 93; refine (HD.out _ _ (Below.refl _ _) (by rfl)).mono ?_; rintro e w9 ⟨rfl, hw9⟩; rw [hw9]; clear hw9 w9)
        | (go_at_call 93; refine (HE.out _ _ (Below.refl _ _) (by rfl)).mono ?_; rintro e w9 ⟨rfl, hw9⟩; rw [hw9]; clear hw9 w9))
      exact bodyPost_ret (results_tmp2 rfl _ _ _) rfl ⟨rfl, Below.refl _ _⟩
    · have e : coC cs k j = .tuple #[.bool (hasI q.fl 1 || togB p q), .int .i64 0] := by rw [coC, d1, c1]
      rw [e]
      have HE : Hid (∀ i w, Below W.heap.size W w → i = (j : Int) → Calls Tryz.prog 93 #[.pointer (some ⟨b, 0, none⟩), .int .i64 i] w fun e w' => e = .returned (.bool true) ∧ w' = w) := fun i w hb hi => by rw [hi]; exact HI.out j true w hb (by rw [c1]; rfl)
      have HF : Hid (∀ w : World, Calls Tryz.prog 103 #[.int .i64 q.fl, .int .i64 1] w fun e w' => e = .returned (.bool (hasI q.fl 1)) ∧ w' = w) := has_any q.fl 1
      have HS : Hid (Calls Tryz.prog 36 #[.pointer (some ⟨b, 0, none⟩), .int .i64 (k : Int), .int .i64 (j : Int)] W fun e w' => e = .returned (.bool (togB p q)) ∧ Below W.heap.size W w') := by
        have := rSame_c h hz k j
        rw [spC, d1, c1] at this
        exact this
      obtain ⟨g, cap, vi, vm, b0, hlt, hgl, f0, f1, f2, f3, f4, f5, _, _⟩ := h.cells c2
      have hxI : (j : Int) < (cs.length : Int) := by have := (List.getElem?_eq_some_iff.1 c2).1; omega
      generalize hasI q.fl 1 = z1 at *
      generalize togB p q = z2 at *
      clear h d1 c1 e HI hz d2 c2 f0 f1 f2 f4 f5
      cases z1
      all_goals
        go_enter Tryz.func65, Tryz.ntmps65
        go_wp2_with (first
          | (go_at_call 93; refine (HD.out _ _ (Below.refl _ _) (by rfl)).mono ?_; rintro e w9 ⟨rfl, hw9⟩; rw [hw9]; clear hw9 w9)
          | (go_at_call 93; refine (HE.out _ _ (Below.refl _ _) (by rfl)).mono ?_; rintro e w9 ⟨rfl, hw9⟩; rw [hw9]; clear hw9 w9)
          | (go_at_call 103; refine (HF.out _).mono ?_; rintro e w9 ⟨rfl, hw9⟩; rw [hw9]; clear hw9 w9)
          | (go_at_call 36; refine HS.out.mono ?_; rintro e w1 ⟨rfl, hb⟩; have B1 : Hid (Below W.heap.size W w1) := hb; clear hb HS))
        first
          | exact bodyPost_ret (results_tmp2 rfl _ _ _) rfl ⟨rfl, B1.out⟩
          | exact bodyPost_ret (results_tmp2 rfl _ _ _) rfl ⟨rfl, Below.refl _ _⟩
/-- is a type loaded? -/
def ldC (cs : List Cls) (d : Int) (s : ByteArray) : Int := if sndB d s.data.toList then (if s.toList.isEmpty then 0 else if nmdI s.toList cs 0 < 0 then 20 else 0) else 1
set_option maxRecDepth 100000 in
set_option maxHeartbeats 1000000 in
theorem rLoaded_c {b : Nat} {cs : List Cls} {W : World} (h : RAt b cs W) (hn : cs.length ≤ 300) (d : Int) (s : ByteArray) (hs : s.size ≤ maxLen) : Calls Tryz.prog 51 #[.pointer (some ⟨b, 0, none⟩), .agg #[.int .i64 d, .string s]] W fun e w' => e = .returned (.int .i64 (ldC cs d s)) ∧ Below W.heap.size W w' := by
  have HC : Hid (∀ w : World, Calls Tryz.prog 119 #[.agg #[.int .i64 d, .string s]] w fun e w' => e = .returned (.int .i64 (chkI (sndB d s.data.toList))) ∧ Below w.heap.size w w') := tyRCheck_any d s hs
  have HN : Hid (∀ w, Below W.heap.size W w → Calls Tryz.prog 42 #[.pointer (some ⟨b, 0, none⟩), .string s] w fun e w' => e = .returned (bnC (nmdI s.toList cs 0)) ∧ w' = w) := fun w hb => rByName_c (h.below hb) s hn
  have HR : Hid (ldC cs d s = if sndB d s.data.toList then (if s.toList.isEmpty then 0 else if nmdI s.toList cs 0 < 0 then 20 else 0) else 1) := rfl
  generalize ldC cs d s = R at *
  generalize sndB d s.data.toList = z at *
  generalize nmdI s.toList cs 0 = k at *
  clear h
  cases z with
  | false =>
    have hR : R = 1 := HR.out
    subst hR
    clear HR
    go_enter Tryz.func51, Tryz.ntmps51
    go_wp2_with (first
      | (go_at_call 119; refine (HC.out _).mono ?_; rintro e w1 ⟨rfl, hb⟩; simp only [chkI]; have B1 : Hid (Below W.heap.size W w1) := bstep (by repeat (first | exact Below.refl _ _ | refine Below.setCell ?_ (by simp; try omega) _ | refine Below.alloc ?_ (by simp; try omega) _ | refine Below.drew ?_)) hb; clear hb HC))
    exact bodyPost_ret (results_tmp rfl _ _ _) rfl ⟨rfl, B1.out⟩
  | true =>
    cases he : s.toList.isEmpty with
    | true =>
      have hR : R = 0 := by rw [HR.out, he]; rfl
      subst hR
      clear HR
      go_enter Tryz.func51, Tryz.ntmps51
      go_wp2_with (first
        | (go_at_call 119; refine (HC.out _).mono ?_; rintro e w1 ⟨rfl, hb⟩; simp only [chkI]; have t1 : w1.cell? ⟨W.heap.size, 1, none⟩ = some (.string s) := (hb.cell (p := ⟨W.heap.size, 1, none⟩) (by simp)).trans (by simp [go_sem]); have B1 : Hid (Below W.heap.size W w1) := bstep (by repeat (first | exact Below.refl _ _ | refine Below.setCell ?_ (by simp; try omega) _ | refine Below.alloc ?_ (by simp; try omega) _ | refine Below.drew ?_)) hb; clear hb HC))
      exact bodyPost_ret (results_tmp rfl _ _ _) rfl ⟨rfl, B1.out⟩
    | false =>
      have hR : R = if k < 0 then 20 else 0 := by rw [HR.out, he]; rfl
      clear HR
      by_cases hk : k < 0
      · rw [if_pos hk] at hR
        subst hR
        go_enter Tryz.func51, Tryz.ntmps51
        go_wp2_with (first
          | (go_at_call 119; refine (HC.out _).mono ?_; rintro e w1 ⟨rfl, hb⟩; simp only [chkI]; have t1 : w1.cell? ⟨W.heap.size, 1, none⟩ = some (.string s) := (hb.cell (p := ⟨W.heap.size, 1, none⟩) (by simp)).trans (by simp [go_sem]); have B1 : Hid (Below W.heap.size W w1) := bstep (by repeat (first | exact Below.refl _ _ | refine Below.setCell ?_ (by simp; try omega) _ | refine Below.alloc ?_ (by simp; try omega) _ | refine Below.drew ?_)) hb; clear hb HC)
          | (go_at_call 42; refine (HN.out _ B1.out).mono ?_; rintro e w9 ⟨rfl, hw9⟩; rw [bnC, if_pos hk, hw9]; clear hw9 w9))
        exact bodyPost_ret (results_tmp rfl _ _ _) rfl ⟨rfl, B1.out⟩
      · rw [if_neg hk] at hR
        subst hR
        go_enter Tryz.func51, Tryz.ntmps51
        go_wp2_with (first
          | (go_at_call 119; refine (HC.out _).mono ?_; rintro e w1 ⟨rfl, hb⟩; simp only [chkI]; have t1 : w1.cell? ⟨W.heap.size, 1, none⟩ = some (.string s) := (hb.cell (p := ⟨W.heap.size, 1, none⟩) (by simp)).trans (by simp [go_sem]); have B1 : Hid (Below W.heap.size W w1) := bstep (by repeat (first | exact Below.refl _ _ | refine Below.setCell ?_ (by simp; try omega) _ | refine Below.alloc ?_ (by simp; try omega) _ | refine Below.drew ?_)) hb; clear hb HC)
          | (go_at_call 42; refine (HN.out _ B1.out).mono ?_; rintro e w9 ⟨rfl, hw9⟩; rw [bnC, if_neg hk, hw9]; clear hw9 w9))
        exact bodyPost_ret (results_tmp rfl _ _ _) rfl ⟨rfl, B1.out⟩
/-- what TypeOpen answers -/
def toC (cs : List Cls) (d x : Int) (s : ByteArray) : Value := if (clsI cs d).isSome then (if ldC cs x s = 0 then (if s.toList.isEmpty then .tuple #[.bool true, .int .i64 0] else coC cs d (nmdI s.toList cs 0)) else .tuple #[.bool false, .int .i64 (ldC cs x s)]) else .tuple #[.bool false, .int .i64 3]
theorem ldC_nat {cs : List Cls} {x : Int} {s : ByteArray} (h : ldC cs x s = 0) (he : s.toList.isEmpty = false) : ¬ nmdI s.toList cs 0 < 0 := by
  intro hk
  rw [ldC, he] at h
  cases hz : sndB x s.data.toList with
  | true => rw [hz] at h; simp [hk] at h
  | false => rw [hz] at h; simp at h
set_option maxRecDepth 100000 in
set_option maxHeartbeats 1000000 in
theorem rTypeOpen_c {b : Nat} {cs : List Cls} {W : World} (h : RAt b cs W) (hn : cs.length ≤ 300) (hz : ∀ c ∈ cs, c.nm.size ≤ maxLen) (d x : Int) (s : ByteArray) (hs : s.size ≤ maxLen) : Calls Tryz.prog 67 #[.pointer (some ⟨b, 0, none⟩), .int .i64 d, .agg #[.int .i64 x, .string s]] W fun e w' => e = .returned (toC cs d x s) ∧ Below W.heap.size W w' := by
  have HI : Hid (∀ w, Below W.heap.size W w → Calls Tryz.prog 93 #[.pointer (some ⟨b, 0, none⟩), .int .i64 d] w fun e w' => e = .returned (.bool (clsI cs d).isSome) ∧ w' = w) := fun w hb => rIn_c (h.below hb) d
  have HL : Hid (∀ w, Below W.heap.size W w → Calls Tryz.prog 51 #[.pointer (some ⟨b, 0, none⟩), .agg #[.int .i64 x, .string s]] w fun e w' => e = .returned (.int .i64 (ldC cs x s)) ∧ Below w.heap.size w w') := fun w hb => rLoaded_c (h.below hb) hn x s hs
  have HN : Hid (∀ w, Below W.heap.size W w → Calls Tryz.prog 42 #[.pointer (some ⟨b, 0, none⟩), .string s] w fun e w' => e = .returned (bnC (nmdI s.toList cs 0)) ∧ w' = w) := fun w hb => rByName_c (h.below hb) s hn
  obtain ⟨C0, hC0⟩ : ∃ C0 : Bool × Int, coC cs d (nmdI s.toList cs 0) = .tuple #[.bool C0.1, .int .i64 C0.2] := by
    unfold coC
    cases clsI cs d <;> cases clsI cs (nmdI s.toList cs 0) <;> exact ⟨(_, _), rfl⟩
  have HO : Hid (∀ w, Below W.heap.size W w → Calls Tryz.prog 65 #[.pointer (some ⟨b, 0, none⟩), .int .i64 d, .int .i64 (nmdI s.toList cs 0)] w fun e w' => e = .returned (.tuple #[.bool C0.1, .int .i64 C0.2]) ∧ Below w.heap.size w w') := fun w hb => by rw [← hC0]; exact rClassOpen_c (h.below hb) hz d _
  have HR : Hid (toC cs d x s = if (clsI cs d).isSome then (if ldC cs x s = 0 then (if s.toList.isEmpty then .tuple #[.bool true, .int .i64 0] else .tuple #[.bool C0.1, .int .i64 C0.2]) else .tuple #[.bool false, .int .i64 (ldC cs x s)]) else .tuple #[.bool false, .int .i64 3]) := by rw [Hid, ← hC0]; rfl
  have HK : Hid (ldC cs x s = 0 → s.toList.isEmpty = false → ¬ nmdI s.toList cs 0 < 0) := ldC_nat
  clear hC0 h hz
  generalize toC cs d x s = R at *
  generalize (clsI cs d).isSome = z at *
  generalize ldC cs x s = L at *
  generalize nmdI s.toList cs 0 = k at *
  obtain ⟨C1, C2⟩ := C0
  simp only at HO HR
  cases z with
  | false =>
    have hR : R = .tuple #[.bool false, .int .i64 3] := HR.out
    subst hR
    clear HR
    go_enter Tryz.func67, Tryz.ntmps67
    go_wp2_with (go_at_call 93; refine (HI.out _ (by repeat (first | exact Below.refl _ _ | refine Below.setCell ?_ (by simp; try omega) _ | refine Below.alloc ?_ (by simp; try omega) _ | refine Below.drew ?_))).mono ?_; rintro e w9 ⟨rfl, hw9⟩; rw [hw9]; clear hw9 w9)
    exact bodyPost_ret (results_tmp2 rfl _ _ _) rfl ⟨rfl, (by repeat (first | exact Below.refl _ _ | refine Below.setCell ?_ (by simp; try omega) _ | refine Below.alloc ?_ (by simp; try omega) _ | refine Below.drew ?_))⟩
  | true =>
    by_cases hL : L = 0
    · cases he : s.toList.isEmpty with
      | true =>
        have hR : R = .tuple #[.bool true, .int .i64 0] := by rw [HR.out, if_pos rfl, if_pos hL, he]; rfl
        subst hR hL
        clear HR
        go_enter Tryz.func67, Tryz.ntmps67
        go_wp2_with (first
          | (go_at_call 93; refine (HI.out _ (by repeat (first | exact Below.refl _ _ | refine Below.setCell ?_ (by simp; try omega) _ | refine Below.alloc ?_ (by simp; try omega) _ | refine Below.drew ?_))).mono ?_; rintro e w9 ⟨rfl, hw9⟩; rw [hw9]; clear hw9 w9)
          | (go_at_call 51; refine (HL.out _ (by repeat (first | exact Below.refl _ _ | refine Below.setCell ?_ (by simp; try omega) _ | refine Below.alloc ?_ (by simp; try omega) _ | refine Below.drew ?_))).mono ?_; rintro e w1 ⟨rfl, hb⟩; have t1 : w1.cell? ⟨W.heap.size, 1, none⟩ = some (.string s) := (hb.cell (p := ⟨W.heap.size, 1, none⟩) (by simp)).trans (by simp [go_sem]); have B1 : Hid (Below W.heap.size W w1) := bstep (by repeat (first | exact Below.refl _ _ | refine Below.setCell ?_ (by simp; try omega) _ | refine Below.alloc ?_ (by simp; try omega) _ | refine Below.drew ?_)) hb; clear hb HL))
        exact bodyPost_ret (results_tmp2 rfl _ _ _) rfl ⟨rfl, B1.out⟩
      | false =>
        have hR : R = .tuple #[.bool C1, .int .i64 C2] := by rw [HR.out, if_pos rfl, if_pos hL, he]; rfl
        have hk : Hid (¬ k < 0) := HK.out hL he
        subst hR hL
        clear HR HK
        go_enter Tryz.func67, Tryz.ntmps67
        go_wp2_with (first
          | (go_at_call 93; refine (HI.out _ (by repeat (first | exact Below.refl _ _ | refine Below.setCell ?_ (by simp; try omega) _ | refine Below.alloc ?_ (by simp; try omega) _ | refine Below.drew ?_))).mono ?_; rintro e w9 ⟨rfl, hw9⟩; rw [hw9]; clear hw9 w9)
          | (go_at_call 51; refine (HL.out _ (by repeat (first | exact Below.refl _ _ | refine Below.setCell ?_ (by simp; try omega) _ | refine Below.alloc ?_ (by simp; try omega) _ | refine Below.drew ?_))).mono ?_; rintro e w1 ⟨rfl, hb⟩; have t1 : w1.cell? ⟨W.heap.size, 1, none⟩ = some (.string s) := (hb.cell (p := ⟨W.heap.size, 1, none⟩) (by simp)).trans (by simp [go_sem]); have B1 : Hid (Below W.heap.size W w1) := bstep (by repeat (first | exact Below.refl _ _ | refine Below.setCell ?_ (by simp; try omega) _ | refine Below.alloc ?_ (by simp; try omega) _ | refine Below.drew ?_)) hb; clear hb HL)
          | (go_at_call 42; refine (HN.out _ B1.out).mono ?_; rintro e w9 ⟨rfl, hw9⟩; rw [bnC, if_neg (by have := hk.out; omega), hw9]; clear hw9 w9)
          | (go_at_call 65; refine (HO.out _ B1.out).mono ?_; rintro e w2 ⟨rfl, hb⟩; have B2 : Hid (Below W.heap.size W w2) := bstep B1.out hb; clear hb HO))
        exact bodyPost_ret (results_tmp2 rfl _ _ _) rfl ⟨rfl, B2.out⟩
    · have hR : R = .tuple #[.bool false, .int .i64 L] := by rw [HR.out, if_pos rfl, if_neg hL]
      subst hR
      clear HR HK
      go_enter Tryz.func67, Tryz.ntmps67
      go_wp2_with (first
        | (go_at_call 93; refine (HI.out _ (by repeat (first | exact Below.refl _ _ | refine Below.setCell ?_ (by simp; try omega) _ | refine Below.alloc ?_ (by simp; try omega) _ | refine Below.drew ?_))).mono ?_; rintro e w9 ⟨rfl, hw9⟩; rw [hw9]; clear hw9 w9)
        | (go_at_call 51; refine (HL.out _ (by repeat (first | exact Below.refl _ _ | refine Below.setCell ?_ (by simp; try omega) _ | refine Below.alloc ?_ (by simp; try omega) _ | refine Below.drew ?_))).mono ?_; rintro e w1 ⟨rfl, hb⟩; have B1 : Hid (Below W.heap.size W w1) := bstep (by repeat (first | exact Below.refl _ _ | refine Below.setCell ?_ (by simp; try omega) _ | refine Below.alloc ?_ (by simp; try omega) _ | refine Below.drew ?_)) hb; clear hb HL))
      exact bodyPost_ret (results_tmp2 rfl _ _ _) rfl ⟨rfl, B1.out⟩
end Go.Proofs.YtahalliodpkoeaaGreat
