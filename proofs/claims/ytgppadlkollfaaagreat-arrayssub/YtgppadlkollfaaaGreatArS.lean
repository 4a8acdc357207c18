/- Package arrays: isBelow, Sub. -/
import Derived.Test.YtgppadlkollfaaaGreatTyC
import Derived.Test.YtgppadlkollfaaaGreatRfF
import Derived.Test.YtgppadlkollfaaaGreatSoE
import Derived.Deep.LoopGhost
import Derived.Deep.RegionHeld3
namespace Go.Proofs.YtgppadlkollfaaaGreat
open Go.RowKit Go.Maps

set_option maxRecDepth 100000 in
theorem isOverInt_c (d : Int) (s : ByteArray) (W : World) : Calls Tryz.prog 72 #[.agg #[.int .i64 d, .string s]] W fun e w' => e = .returned (.bool s.toList.isEmpty) ∧ Below W.heap.size W w' := by
  cases he : s.toList.isEmpty
  all_goals
    go_enter Tryz.func72, Tryz.ntmps72
    go_wp2
    go_ret
    exact ⟨by first | rfl | simp_all, (by repeat (first | exact Below.refl _ _ | refine Below.setCell ?_ (by simp; try omega) _ | refine Below.alloc ?_ (by simp; try omega) _ | refine Below.drew ?_))⟩
/-- is a type loaded? -/
def ldI (ps : List Plc) (d : Int) (s : ByteArray) : Int := if sndB d s.data.toList then (if s.toList.isEmpty then 0 else match lookL ps s.data.toList with
  | some _ => 0
  | none => 20) else 1
set_option maxRecDepth 100000 in
theorem loaded_c {b : Nat} {ps : List Plc} {W : World} (h : WAt b ps W) (d : Int) (s : ByteArray) (hs : s.size ≤ maxLen) : Calls Tryz.prog 20 #[.pointer (some ⟨b, 0, none⟩), .agg #[.int .i64 d, .string s]] W fun e w' => e = .returned (.int .i64 (ldI ps d s)) ∧ Below W.heap.size W w' := by
  have HC : Hid (∀ w : World, Calls Tryz.prog 71 #[.agg #[.int .i64 d, .string s]] w fun e w' => e = .returned (.int .i64 (chkI (sndB d s.data.toList))) ∧ Below w.heap.size w w') := tyCheck_any d s hs
  have HO : Hid (∀ w : World, Calls Tryz.prog 72 #[.agg #[.int .i64 d, .string s]] w fun e w' => e = .returned (.bool s.toList.isEmpty) ∧ Below w.heap.size w w') := isOverInt_c d s
  have HN : Hid (∀ w : World, Below W.heap.size W w → Calls Tryz.prog 73 #[.pointer (some ⟨b, 0, none⟩), .string s] w fun e w' => e = .returned (bnV (lookL ps s.data.toList)) ∧ Below w.heap.size w w') := fun w hb => byName_c (h.below hb) s hs
  obtain ⟨R, hR⟩ : ∃ R, ldI ps d s = R := ⟨_, rfl⟩
  rw [hR]
  have HR : Hid (ldI ps d s = R) := hR
  clear hR h
  unfold ldI at HR
  generalize sndB d s.data.toList = sn at *
  generalize s.toList.isEmpty = em at *
  generalize lookL ps s.data.toList = lk at *
  cases sn with
  | false =>
    have e : chkI false = 1 := rfl
    rw [e] at HC
    have HS : Hid (R = 1) := HR.out.symm
    clear HR
    go_enter Tryz.func20, Tryz.ntmps20
    go_wp2_with (go_at_call 71; refine (HC.out _).mono ?_; rintro e w1 ⟨rfl, hb⟩; have B1 : Hid (Below W.heap.size W w1) := bstep (by repeat (first | exact Below.refl _ _ | refine Below.setCell ?_ (by simp; try omega) _ | refine Below.alloc ?_ (by simp; try omega) _ | refine Below.drew ?_)) hb; clear hb HC)
    exact bodyPost_ret (results_tmp rfl _ _ _) rfl ⟨by rw [HS.out]; rfl, B1.out⟩
  | true =>
    have e : chkI true = 0 := rfl
    rw [e] at HC
    cases em with
    | true =>
      have HS : Hid (R = 0) := HR.out.symm
      clear HR
      go_enter Tryz.func20, Tryz.ntmps20
      go_wp2_with (first
        | (go_at_call 71; refine (HC.out _).mono ?_; rintro e w1 ⟨rfl, hb⟩; have h0 := (hb.block W.heap.size (by simp)).trans (halloc1 W _); have r0 := cell_of_row w1 W.heap.size 0 _ _ _ h0; have r1 := cell_of_row w1 W.heap.size 1 _ _ _ h0; simp only [List.getElem?_toArray, List.getElem?_cons_zero, List.getElem?_cons_succ] at r0 r1; have B1 : Hid (Below W.heap.size W w1) := bstep (by repeat (first | exact Below.refl _ _ | refine Below.setCell ?_ (by simp; try omega) _ | refine Below.alloc ?_ (by simp; try omega) _ | refine Below.drew ?_)) hb; clear hb HC h0)
        | (go_at_call 72; refine (HO.out _).mono ?_; rintro e w2 ⟨rfl, hb⟩; have B2 : Hid (Below W.heap.size W w2) := bstep B1.out hb; clear hb HO))
      exact bodyPost_ret (results_tmp rfl _ _ _) rfl ⟨by rw [HS.out]; rfl, B2.out⟩
    | false =>
      cases lk
      all_goals
        first | have HS : Hid (R = 20) := HR.out.symm | have HS : Hid (R = 0) := HR.out.symm
        clear HR
        simp only [bnV] at HN
        go_enter Tryz.func20, Tryz.ntmps20
        go_wp2_with (first
          | (go_at_call 71; refine (HC.out _).mono ?_; rintro e w1 ⟨rfl, hb⟩; have h0 := (hb.block W.heap.size (by simp)).trans (halloc1 W _); have r0 := cell_of_row w1 W.heap.size 0 _ _ _ h0; have r1 := cell_of_row w1 W.heap.size 1 _ _ _ h0; simp only [List.getElem?_toArray, List.getElem?_cons_zero, List.getElem?_cons_succ] at r0 r1; have hl : W.heap.size < w1.heap.size := (Array.getElem?_eq_some_iff.1 h0).1; have B1 : Hid (Below W.heap.size W w1) := bstep (by repeat (first | exact Below.refl _ _ | refine Below.setCell ?_ (by simp; try omega) _ | refine Below.alloc ?_ (by simp; try omega) _ | refine Below.drew ?_)) hb; clear hb HC h0)
          | (go_at_call 72; refine (HO.out _).mono ?_; rintro e w2 ⟨rfl, hb⟩; have B2 : Hid (Below W.heap.size W w2) := bstep B1.out hb; replace r0 := (hb.cell (p := ⟨W.heap.size, 0, none⟩) hl).trans r0; replace r1 := (hb.cell (p := ⟨W.heap.size, 1, none⟩) hl).trans r1; clear hb HO)
          | (go_at_call 73; refine (HN.out _ B2.out).mono ?_; rintro e w3 ⟨rfl, hb⟩; have B3 : Hid (Below W.heap.size W w3) := bstep B2.out hb; clear hb HN))
        exact bodyPost_ret (results_tmp rfl _ _ _) rfl ⟨by rw [HS.out]; rfl, B3.out⟩




/-- is a type loaded? -/
def ldC (cs : List Cls) (d : Int) (s : ByteArray) : Int := if sndB d s.data.toList then (if s.toList.isEmpty then 0 else if nmdI s.toList cs 0 < 0 then 20 else 0) else 1
set_option maxRecDepth 100000 in
set_option maxHeartbeats 1000000 in
theorem rLoaded_c {b : Nat} {cs : List Cls} {W : World} (h : RAt b cs W) (hn : cs.length ≤ 300) (d : Int) (s : ByteArray) (hs : s.size ≤ maxLen) : Calls Tryz.prog 21 #[.pointer (some ⟨b, 0, none⟩), .agg #[.int .i64 d, .string s]] W fun e w' => e = .returned (.int .i64 (ldC cs d s)) ∧ Below W.heap.size W w' := by
  have HC : Hid (∀ w : World, Calls Tryz.prog 74 #[.agg #[.int .i64 d, .string s]] w fun e w' => e = .returned (.int .i64 (chkI (sndB d s.data.toList))) ∧ Below w.heap.size w w') := tyRCheck_any d s hs
  have HN : Hid (∀ w, Below W.heap.size W w → Calls Tryz.prog 75 #[.pointer (some ⟨b, 0, none⟩), .string s] w fun e w' => e = .returned (bnC (nmdI s.toList cs 0)) ∧ w' = w) := fun w hb => rByName_c (h.below hb) s hn
  have HR : Hid (ldC cs d s = if sndB d s.data.toList then (if s.toList.isEmpty then 0 else if nmdI s.toList cs 0 < 0 then 20 else 0) else 1) := rfl
  generalize ldC cs d s = R at *
  generalize sndB d s.data.toList = z at *
  generalize nmdI s.toList cs 0 = k at *
  clear h
  cases z with
  | false =>
    have hR : R = 1 := HR.out
    subst hR
    clear HR
    go_enter Tryz.func21, Tryz.ntmps21
    go_wp2_with (first
      | (go_at_call 74; refine (HC.out _).mono ?_; rintro e w1 ⟨rfl, hb⟩; simp only [chkI]; have B1 : Hid (Below W.heap.size W w1) := bstep (by repeat (first | exact Below.refl _ _ | refine Below.setCell ?_ (by simp; try omega) _ | refine Below.alloc ?_ (by simp; try omega) _ | refine Below.drew ?_)) hb; clear hb HC))
    exact bodyPost_ret (results_tmp rfl _ _ _) rfl ⟨rfl, B1.out⟩
  | true =>
    cases he : s.toList.isEmpty with
    | true =>
      have hR : R = 0 := by rw [HR.out, he]; rfl
      subst hR
      clear HR
      go_enter Tryz.func21, Tryz.ntmps21
      go_wp2_with (first
        | (go_at_call 74; refine (HC.out _).mono ?_; rintro e w1 ⟨rfl, hb⟩; simp only [chkI]; have t1 : w1.cell? ⟨W.heap.size, 1, none⟩ = some (.string s) := (hb.cell (p := ⟨W.heap.size, 1, none⟩) (by simp)).trans (by simp [go_sem]); have B1 : Hid (Below W.heap.size W w1) := bstep (by repeat (first | exact Below.refl _ _ | refine Below.setCell ?_ (by simp; try omega) _ | refine Below.alloc ?_ (by simp; try omega) _ | refine Below.drew ?_)) hb; clear hb HC))
      exact bodyPost_ret (results_tmp rfl _ _ _) rfl ⟨rfl, B1.out⟩
    | false =>
      have hR : R = if k < 0 then 20 else 0 := by rw [HR.out, he]; rfl
      clear HR
      by_cases hk : k < 0
      · rw [if_pos hk] at hR
        subst hR
        go_enter Tryz.func21, Tryz.ntmps21
        go_wp2_with (first
          | (go_at_call 74; refine (HC.out _).mono ?_; rintro e w1 ⟨rfl, hb⟩; simp only [chkI]; have t1 : w1.cell? ⟨W.heap.size, 1, none⟩ = some (.string s) := (hb.cell (p := ⟨W.heap.size, 1, none⟩) (by simp)).trans (by simp [go_sem]); have B1 : Hid (Below W.heap.size W w1) := bstep (by repeat (first | exact Below.refl _ _ | refine Below.setCell ?_ (by simp; try omega) _ | refine Below.alloc ?_ (by simp; try omega) _ | refine Below.drew ?_)) hb; clear hb HC)
          | (go_at_call 75; refine (HN.out _ B1.out).mono ?_; rintro e w9 ⟨rfl, hw9⟩; rw [bnC, if_pos hk, hw9]; clear hw9 w9))
        exact bodyPost_ret (results_tmp rfl _ _ _) rfl ⟨rfl, B1.out⟩
      · rw [if_neg hk] at hR
        subst hR
        go_enter Tryz.func21, Tryz.ntmps21
        go_wp2_with (first
          | (go_at_call 74; refine (HC.out _).mono ?_; rintro e w1 ⟨rfl, hb⟩; simp only [chkI]; have t1 : w1.cell? ⟨W.heap.size, 1, none⟩ = some (.string s) := (hb.cell (p := ⟨W.heap.size, 1, none⟩) (by simp)).trans (by simp [go_sem]); have B1 : Hid (Below W.heap.size W w1) := bstep (by repeat (first | exact Below.refl _ _ | refine Below.setCell ?_ (by simp; try omega) _ | refine Below.alloc ?_ (by simp; try omega) _ | refine Below.drew ?_)) hb; clear hb HC)
          | (go_at_call 75; refine (HN.out _ B1.out).mono ?_; rintro e w9 ⟨rfl, hw9⟩; rw [bnC, if_neg hk, hw9]; clear hw9 w9))
        exact bodyPost_ret (results_tmp rfl _ _ _) rfl ⟨rfl, B1.out⟩


/-- is it int? -/
def intB (d : Int) (s : ByteArray) : Bool := (d == 0) && s.toList.isEmpty
set_option maxRecDepth 100000 in
theorem isInt_c (d : Int) (s : ByteArray) (W : World) : Calls Tryz.prog 125 #[.agg #[.int .i64 d, .string s]] W fun e w' => e = .returned (.bool (intB d s)) ∧ Below W.heap.size W w' := by
  obtain ⟨R, hR⟩ : ∃ R, intB d s = R := ⟨_, rfl⟩
  have HR : Hid (((d == 0) && s.toList.isEmpty) = R) := hR
  rw [hR]
  clear hR
  go_enter Tryz.func125, Tryz.ntmps125
  go_wp2
  all_goals go_ret
  all_goals exact ⟨retB (by rw [← HR.out]; simp [*]), (by repeat (first | exact Below.refl _ _ | refine Below.setCell ?_ (by simp; try omega) _ | refine Below.alloc ?_ (by simp; try omega) _ | refine Below.drew ?_))⟩
def sObj : List UInt8 := [79, 98, 106, 101, 99, 116]
def sClo : List UInt8 := [67, 108, 111, 110, 101, 97, 98, 108, 101]
def sSer : List UInt8 := [83, 101, 114, 105, 97, 108, 105, 122, 97, 98, 108, 101]
def abv3 : List (List UInt8) := [sObj, sClo, sSer]
set_option maxRecDepth 100000 in
theorem above3_c (W : World) : Calls Tryz.prog 142 #[] W fun e w' => (∃ v, e = .returned v ∧ IsStrs w' v abv3) ∧ Below W.heap.size W w' := by
  go_enter Tryz.func142, Tryz.ntmps142
  go_wp2
  refine bodyPost_ret (results_tmp rfl _ _ _) rfl ⟨⟨_, rfl, _, _, rfl, by decide, by decide, fun _ => ⟨W.heap.size, 0, rfl, by simp, fun k p hk => ?_⟩⟩, (by repeat (first | exact Below.refl _ _ | refine Below.setCell ?_ (by simp; try omega) _ | refine Below.alloc ?_ (by simp; try omega) _ | refine Below.drew ?_))⟩
  match k, hk with
  | 0, hk => cases hk; simp [go_sem, sObj]
  | 1, hk => cases hk; simp [go_sem, sClo]
  | 2, hk => cases hk; simp [go_sem, sSer]
  | (k + 3), hk => simp [abv3] at hk
set_option maxRecDepth 100000 in
theorem aExt_c {b : Nat} {ps : List Plc} {W : World} (h : WAt b ps W) (hi : WI ps) (s t : ByteArray) (hs : s.size ≤ maxLen) (ht : t.size ≤ maxLen) (x y : Nat) (hx : lookL ps s.data.toList = some x) (hy : lookL ps t.data.toList = some y) : Calls Tryz.prog 143 #[.pointer (some ⟨b, 0, none⟩), .string s, .string t] W fun e w' => e = .returned (.bool (extB (ps.map nd) x y)) ∧ Below W.heap.size W w' := by
  obtain ⟨p, hp, _⟩ := look_place hx
  obtain ⟨q, hq, _⟩ := look_place hy
  have he : extI ps x y = extB (ps.map nd) x y := by rw [extI, plcI_nat, plcI_nat, hp, hq]; rfl
  have HX : Hid (∀ u w, Below W.heap.size W w → u = s → Calls Tryz.prog 73 #[.pointer (some ⟨b, 0, none⟩), .string u] w fun e w' => e = .returned (.tuple #[.int .i64 (x : Int), .int .i64 0]) ∧ Below W.heap.size W w') := fun u w hb hu => (byName_c (h.below hb) u (by rw [hu]; exact hs)).mono fun e w' zz => ⟨by rw [zz.1, hu, hx]; rfl, bstep hb zz.2⟩
  have HY : Hid (∀ u w, Below W.heap.size W w → u = t → Calls Tryz.prog 73 #[.pointer (some ⟨b, 0, none⟩), .string u] w fun e w' => e = .returned (.tuple #[.int .i64 (y : Int), .int .i64 0]) ∧ Below W.heap.size W w') := fun u w hb hu => (byName_c (h.below hb) u (by rw [hu]; exact ht)).mono fun e w' zz => ⟨by rw [zz.1, hu, hy]; rfl, bstep hb zz.2⟩
  have HE : Hid (∀ w, Below W.heap.size W w → Calls Tryz.prog 34 #[.pointer (some ⟨b, 0, none⟩), .int .i64 (x : Int), .int .i64 (y : Int)] w fun e w' => e = .returned (.bool (extB (ps.map nd) x y)) ∧ Below W.heap.size W w') := fun w hb => (extends_c (h.below hb) hi x y).mono fun e w' zz => ⟨by rw [zz.1, he], bstep hb zz.2⟩
  generalize extB (ps.map nd) x y = R at *
  clear h hi hs ht hx hy hp hq he
  go_enter Tryz.func143, Tryz.ntmps143
  go_wp2_with (first
    | (go_at_call 73; refine (HX.out _ _ (Below.refl _ _) (by rfl)).mono ?_; rintro e w1 ⟨rfl, hb⟩; have B1 : Hid (Below W.heap.size W w1) := hb; clear hb HX)
    | (go_at_call 73; refine (HY.out _ _ B1.out (by rfl)).mono ?_; rintro e w2 ⟨rfl, hb⟩; have B2 : Hid (Below W.heap.size W w2) := hb; clear hb HY)
    | (go_at_call 34; refine (HE.out _ B2.out).mono ?_; rintro e w3 ⟨rfl, hb⟩; have B3 : Hid (Below W.heap.size W w3) := hb; clear hb HE))
  exact bodyPost_ret (results_tmp rfl _ _ _) rfl ⟨rfl, B3.out⟩


/-- is a type of a dimensions below one of b, none of which can be taken off both? -/
def belB (ps : List Plc) (a : Nat) (s : ByteArray) (b : Nat) (t : ByteArray) : Bool :=
  if intB (a : Int) s || intB (b : Int) t then ((a : Int) == (b : Int)) && (s.toList == t.toList)
  else if 0 < b then false else if 0 < a then abv3.contains t.data.toList
  else match lookL ps s.data.toList, lookL ps t.data.toList with
    | some x, some y => extB (ps.map nd) x y
    | _, _ => false
set_option maxRecDepth 100000 in
set_option maxHeartbeats 4000000 in
theorem isBelow_c {b : Nat} {ps : List Plc} {W : World} (h : WAt b ps W) (hi : WI ps) (da db M : Nat) (s t : ByteArray) (hs : s.size ≤ maxLen) (ht : t.size ≤ maxLen) (hab : da = 0 ∨ db = 0) (hbg : da + M ≤ 255 ∧ db + M ≤ 255) (hld : s.toList.isEmpty = false → ∃ x, lookL ps s.data.toList = some x) (hlt : t.toList.isEmpty = false → ∃ x, lookL ps t.data.toList = some x) :
    Calls Tryz.prog 69 #[.pointer (some ⟨b, 0, none⟩), .agg #[.int .i64 ((da + M : Nat) : Int), .string s], .agg #[.int .i64 ((db + M : Nat) : Int), .string t]] W fun e w' => e = .returned (.bool (belB ps da s db t)) ∧ Below W.heap.size W w' := by
  have HI : Hid (∀ d u y w, intB d u = y → Calls Tryz.prog 125 #[.agg #[.int .i64 d, .string u]] w fun e w' => e = .returned (.bool y) ∧ Below w.heap.size w w') := fun d u y w hy => by rw [← hy]; exact isInt_c d u w
  have H3 : Hid (∀ w : World, Calls Tryz.prog 142 #[] w fun e w' => (∃ v, e = .returned v ∧ IsStrs w' v abv3) ∧ Below w.heap.size w w') := above3_c
  have HCo : Hid (∀ v w, IsStrs w v abv3 → Calls Tryz.prog 141 #[v, .string t] w fun e w' => e = .returned (.bool (abv3.contains t.data.toList)) ∧ Below w.heap.size w w') := fun v w hv => sContains_any v abv3 t.data.toList w hv
  have HX : Hid (∀ x y, lookL ps s.data.toList = some x → lookL ps t.data.toList = some y → ∀ w, Below W.heap.size W w → Calls Tryz.prog 143 #[.pointer (some ⟨b, 0, none⟩), .string s, .string t] w fun e w' => e = .returned (.bool (extB (ps.map nd) x y)) ∧ Below w.heap.size w w') := fun x y hx hy w hb => aExt_c (h.below hb) hi s t hs ht x y hx hy
  obtain ⟨R, hR⟩ : ∃ R, belB ps da s db t = R := ⟨_, rfl⟩
  have HR : Hid (belB ps da s db t = R) := hR
  rw [hR]
  have HLD : Hid _ := hld
  have HLT : Hid _ := hlt
  clear hR h hi hs ht hld hlt
  go_enter Tryz.func69, Tryz.ntmps69
  go_wp2
  go_loopg [] M (fun k wr => k ≤ M ∧ Hid (wr.heap[W.heap.size]? = some (.cells #[.int .i64 ((da + k : Nat) : Int), .string s] 24 (0, 0))) ∧ Hid (wr.heap[W.heap.size + 1]? = some (.cells #[.int .i64 ((db + k : Nat) : Int), .string t] 24 (0, 0))) ∧ Hid (Below W.heap.size W wr))
  case atStart => exact ⟨Nat.le_refl _, heap_alloc2_old W _ _, heap_alloc2_new W _ _, (by repeat (first | exact Below.refl _ _ | refine Below.setCell ?_ (by simp; try omega) _ | refine Below.alloc ?_ (by simp; try omega) _ | refine Below.drew ?_))⟩
  case round =>
    obtain ⟨hkM, hA, hB, hb⟩ := hrel
    have hsA : W.heap.size < wr.heap.size := (Array.getElem?_eq_some_iff.1 hA.out).1
    have hsB : W.heap.size + 1 < wr.heap.size := (Array.getElem?_eq_some_iff.1 hB.out).1
    have a0 := cell_of_row wr W.heap.size 0 _ _ _ hA.out
    have fa0 := frozen_of_row wr W.heap.size 0 _ _ hA.out
    have a1 := cell_of_row wr W.heap.size 1 _ _ _ hA.out
    have b0 := cell_of_row wr (W.heap.size + 1) 0 _ _ _ hB.out
    have fb0 := frozen_of_row wr (W.heap.size + 1) 0 _ _ hB.out
    have b1 := cell_of_row wr (W.heap.size + 1) 1 _ _ _ hB.out
    simp only [List.getElem?_toArray, List.getElem?_cons_zero, List.getElem?_cons_succ] at a0 a1 b0 b1
    cases gk with
    | succ k =>
      have h1 : (0 : Int) < ((da + (k + 1) : Nat) : Int) := by omega
      have h2 : (0 : Int) < ((db + (k + 1) : Nat) : Int) := by omega
      go_wp2
      go_roundg k
      case rel =>
        have ea : ((da : Int) + ((k : Int) + 1) - 1) = ((da + k : Nat) : Int) := by omega
        have eb : ((db : Int) + ((k : Int) + 1) - 1) = ((db + k : Nat) : Int) := by omega
        rw [ea, eb]
        refine ⟨by omega, ?_, ?_, ?_⟩
        · rw [Hid, heap_setCell_other _ _ _ _ (by simp), heap_setCell_same _ _ _ _ _ _ hA.out]; rfl
        · rw [Hid, heap_setCell_same _ _ _ #[.int .i64 ((db + (k + 1) : Nat) : Int), .string t] 24 _ (by rw [heap_setCell_other _ _ _ _ (by simp)]; exact hB.out)]; rfl
        · exact (hb.out.setCell (by simp) _).setCell (by simp) _
      case measure => omega
    | zero =>
      simp only [Nat.add_zero] at a0 b0
      have hN : ¬ ((0 : Int) < (da : Int) ∧ (0 : Int) < (db : Int)) := by omega
      clear hA hB fa0 fb0
      obtain ⟨i1, hi1⟩ : ∃ x, intB (da : Int) s = x := ⟨_, rfl⟩
      obtain ⟨i2, hi2⟩ : ∃ x, intB (db : Int) t = x := ⟨_, rfl⟩
      unfold belB at HR
      rw [hi1, hi2] at HR
      have E1 : Hid _ := hi1
      have E2 : Hid _ := hi2
      clear hi1 hi2
      have BB : Hid (Below W.heap.size W wr) := hb
      clear hb
      cases i1 with
      | true =>
        simp only [Bool.true_or, if_true] at HR
        clear HX HLD HLT hab hbg hkM
        generalize (da : Int) = xa at *
        generalize (db : Int) = xb at *
        go_wp2_with (first
          | (go_at_call 125; refine (HI.out _ _ _ _ (by first | exact E1.out | exact E2.out)).mono ?_; rintro e w1 ⟨rfl, hb1⟩; have BB2 : Below W.heap.size W w1 := bstep BB.out hb1; replace a0 := (hb1.cell (p := ⟨W.heap.size, 0, none⟩) hsA).trans a0; replace a1 := (hb1.cell (p := ⟨W.heap.size, 1, none⟩) hsA).trans a1; replace b0 := (hb1.cell (p := ⟨W.heap.size + 1, 0, none⟩) hsB).trans b0; replace b1 := (hb1.cell (p := ⟨W.heap.size + 1, 1, none⟩) hsB).trans b1; replace hsA := Nat.lt_of_lt_of_le hsA hb1.size; replace hsB := Nat.lt_of_lt_of_le hsB hb1.size; clear BB; have BB : Hid (Below W.heap.size W w1) := BB2; clear hb1 BB2)
          | (go_at_call 142; refine (H3.out _).mono ?_; rintro e w1 ⟨⟨vv, rfl, hv⟩, hb1⟩; have HV : Hid (IsStrs w1 vv abv3) := hv; have BB2 : Below W.heap.size W w1 := bstep BB.out hb1; replace b1 := (hb1.cell (p := ⟨W.heap.size + 1, 1, none⟩) hsB).trans b1; clear BB; have BB : Hid (Below W.heap.size W w1) := BB2; clear hb1 BB2 hv)
          | (go_at_call 141; refine (HCo.out _ _ HV.out).mono ?_; rintro e w2 ⟨rfl, hb1⟩; have BB2 : Below W.heap.size W w2 := bstep BB.out hb1; clear BB; have BB : Hid (Below W.heap.size W w2) := BB2; clear hb1 BB2)
          | (go_at_call 143; refine (HX.out _ BB.out).mono ?_; rintro e w2 ⟨rfl, hb1⟩; have BB2 : Below W.heap.size W w2 := bstep BB.out hb1; clear BB; have BB : Hid (Below W.heap.size W w2) := BB2; clear hb1 BB2))
        all_goals go_ret
        all_goals exact ⟨retB (by rw [← HR.out]; first | (simp [*]; done) | (simp [*]; intro h; exfalso; omega)), BB.out⟩
      | false =>
        cases i2 with
        | true =>
          simp only [Bool.or_true, if_true] at HR
          clear HX HLD HLT hab hbg hkM
          generalize (da : Int) = xa at *
          generalize (db : Int) = xb at *
          go_wp2_with (first
            | (go_at_call 125; refine (HI.out _ _ _ _ (by first | exact E1.out | exact E2.out)).mono ?_; rintro e w1 ⟨rfl, hb1⟩; have BB2 : Below W.heap.size W w1 := bstep BB.out hb1; replace a0 := (hb1.cell (p := ⟨W.heap.size, 0, none⟩) hsA).trans a0; replace a1 := (hb1.cell (p := ⟨W.heap.size, 1, none⟩) hsA).trans a1; replace b0 := (hb1.cell (p := ⟨W.heap.size + 1, 0, none⟩) hsB).trans b0; replace b1 := (hb1.cell (p := ⟨W.heap.size + 1, 1, none⟩) hsB).trans b1; replace hsA := Nat.lt_of_lt_of_le hsA hb1.size; replace hsB := Nat.lt_of_lt_of_le hsB hb1.size; clear BB; have BB : Hid (Below W.heap.size W w1) := BB2; clear hb1 BB2)
            | (go_at_call 142; refine (H3.out _).mono ?_; rintro e w1 ⟨⟨vv, rfl, hv⟩, hb1⟩; have HV : Hid (IsStrs w1 vv abv3) := hv; have BB2 : Below W.heap.size W w1 := bstep BB.out hb1; replace b1 := (hb1.cell (p := ⟨W.heap.size + 1, 1, none⟩) hsB).trans b1; clear BB; have BB : Hid (Below W.heap.size W w1) := BB2; clear hb1 BB2 hv)
            | (go_at_call 141; refine (HCo.out _ _ HV.out).mono ?_; rintro e w2 ⟨rfl, hb1⟩; have BB2 : Below W.heap.size W w2 := bstep BB.out hb1; clear BB; have BB : Hid (Below W.heap.size W w2) := BB2; clear hb1 BB2)
            | (go_at_call 143; refine (HX.out _ BB.out).mono ?_; rintro e w2 ⟨rfl, hb1⟩; have BB2 : Below W.heap.size W w2 := bstep BB.out hb1; clear BB; have BB : Hid (Below W.heap.size W w2) := BB2; clear hb1 BB2))
          all_goals go_ret
          all_goals exact ⟨retB (by rw [← HR.out]; first | (simp [*]; done) | (simp [*]; intro h; exfalso; omega)), BB.out⟩
        | false =>
          simp only [Bool.or_false, Bool.false_eq_true, if_false] at HR
          by_cases hdb : 0 < db
          · rw [if_pos hdb] at HR
            have hdb2 : (0 : Int) < (db : Int) := by omega
            clear HX HLD HLT
            go_wp2_with (first
              | (go_at_call 125; refine (HI.out _ _ _ _ (by first | exact E1.out | exact E2.out)).mono ?_; rintro e w1 ⟨rfl, hb1⟩; have BB2 : Below W.heap.size W w1 := bstep BB.out hb1; replace a0 := (hb1.cell (p := ⟨W.heap.size, 0, none⟩) hsA).trans a0; replace a1 := (hb1.cell (p := ⟨W.heap.size, 1, none⟩) hsA).trans a1; replace b0 := (hb1.cell (p := ⟨W.heap.size + 1, 0, none⟩) hsB).trans b0; replace b1 := (hb1.cell (p := ⟨W.heap.size + 1, 1, none⟩) hsB).trans b1; replace hsA := Nat.lt_of_lt_of_le hsA hb1.size; replace hsB := Nat.lt_of_lt_of_le hsB hb1.size; clear BB; have BB : Hid (Below W.heap.size W w1) := BB2; clear hb1 BB2)
              | (go_at_call 142; refine (H3.out _).mono ?_; rintro e w1 ⟨⟨vv, rfl, hv⟩, hb1⟩; have HV : Hid (IsStrs w1 vv abv3) := hv; have BB2 : Below W.heap.size W w1 := bstep BB.out hb1; replace b1 := (hb1.cell (p := ⟨W.heap.size + 1, 1, none⟩) hsB).trans b1; clear BB; have BB : Hid (Below W.heap.size W w1) := BB2; clear hb1 BB2 hv)
              | (go_at_call 141; refine (HCo.out _ _ HV.out).mono ?_; rintro e w2 ⟨rfl, hb1⟩; have BB2 : Below W.heap.size W w2 := bstep BB.out hb1; clear BB; have BB : Hid (Below W.heap.size W w2) := BB2; clear hb1 BB2)
              | (go_at_call 143; refine (HX.out _ BB.out).mono ?_; rintro e w2 ⟨rfl, hb1⟩; have BB2 : Below W.heap.size W w2 := bstep BB.out hb1; clear BB; have BB : Hid (Below W.heap.size W w2) := BB2; clear hb1 BB2))
            all_goals go_ret
            all_goals exact ⟨retB HR.out, BB.out⟩
          · rw [if_neg hdb] at HR
            have hdb2 : ¬ (0 : Int) < (db : Int) := by omega
            by_cases hda : 0 < da
            · rw [if_pos hda] at HR
              generalize abv3.contains t.data.toList = ct at *
              have hda2 : (0 : Int) < (da : Int) := by omega
              clear HX HLD HLT
              go_wp2_with (first
                | (go_at_call 125; refine (HI.out _ _ _ _ (by first | exact E1.out | exact E2.out)).mono ?_; rintro e w1 ⟨rfl, hb1⟩; have BB2 : Below W.heap.size W w1 := bstep BB.out hb1; replace a0 := (hb1.cell (p := ⟨W.heap.size, 0, none⟩) hsA).trans a0; replace a1 := (hb1.cell (p := ⟨W.heap.size, 1, none⟩) hsA).trans a1; replace b0 := (hb1.cell (p := ⟨W.heap.size + 1, 0, none⟩) hsB).trans b0; replace b1 := (hb1.cell (p := ⟨W.heap.size + 1, 1, none⟩) hsB).trans b1; replace hsA := Nat.lt_of_lt_of_le hsA hb1.size; replace hsB := Nat.lt_of_lt_of_le hsB hb1.size; clear BB; have BB : Hid (Below W.heap.size W w1) := BB2; clear hb1 BB2)
                | (go_at_call 142; refine (H3.out _).mono ?_; rintro e w1 ⟨⟨vv, rfl, hv⟩, hb1⟩; have HV : Hid (IsStrs w1 vv abv3) := hv; have BB2 : Below W.heap.size W w1 := bstep BB.out hb1; replace b1 := (hb1.cell (p := ⟨W.heap.size + 1, 1, none⟩) hsB).trans b1; clear BB; have BB : Hid (Below W.heap.size W w1) := BB2; clear hb1 BB2 hv)
                | (go_at_call 141; refine (HCo.out _ _ HV.out).mono ?_; rintro e w2 ⟨rfl, hb1⟩; have BB2 : Below W.heap.size W w2 := bstep BB.out hb1; clear BB; have BB : Hid (Below W.heap.size W w2) := BB2; clear hb1 BB2)
                | (go_at_call 143; refine (HX.out _ BB.out).mono ?_; rintro e w2 ⟨rfl, hb1⟩; have BB2 : Below W.heap.size W w2 := bstep BB.out hb1; clear BB; have BB : Hid (Below W.heap.size W w2) := BB2; clear hb1 BB2))
              go_region_held3 (fun w' => w'.cell? ⟨W.heap.size + 1, 1, none⟩ = some (.string t)) (go_keep) (first
                | (go_at_call 142; refine (H3.out _).mono ?_; rintro e w3 ⟨⟨vv, rfl, hv⟩, hb1⟩; have HV : Hid (IsStrs w3 vv abv3) := hv; obtain ⟨ao, cap, rfl, _, _, _⟩ := hv; have BB2 : Below W.heap.size W w3 := bstep BB.out.drew hb1; replace b1 : w3.cell? ⟨W.heap.size + 1, 1, none⟩ = some (.string t) := (hb1.cell (p := ⟨W.heap.size + 1, 1, none⟩) hsB).trans b1; clear BB; have BB : Hid (Below W.heap.size W w3) := BB2; clear hb1 BB2 H3)
                | (go_at_call 141; refine (HCo.out _ _ HV.out).mono ?_; rintro e w4 ⟨rfl, hb1⟩; have BB2 : Below W.heap.size W w4 := bstep BB.out hb1; replace b1 : w4.cell? ⟨W.heap.size + 1, 1, none⟩ = some (.string t) := (hb1.cell (p := ⟨W.heap.size + 1, 1, none⟩) (World.block_lt_of_cell? _ _ b1)).trans b1; clear BB; have BB : Hid (Below W.heap.size W w4) := BB2; clear hb1 BB2 HCo))
              go_wp2
              all_goals go_ret
              all_goals exact ⟨retB HR.out, BB.out⟩
            · rw [if_neg hda] at HR
              have hda2 : ¬ (0 : Int) < (da : Int) := by omega
              have hes : s.toList.isEmpty = false := by
                have := E1.out
                unfold intB at this
                rw [show (da : Int) = 0 by omega] at this
                simpa using this
              have het : t.toList.isEmpty = false := by
                have := E2.out
                unfold intB at this
                rw [show (db : Int) = 0 by omega] at this
                simpa using this
              obtain ⟨x, hx⟩ := HLD.out hes
              obtain ⟨y, hy⟩ := HLT.out het
              rw [hx, hy] at HR
              simp only at HR
              have HX : Hid _ := HX.out x y hx hy
              clear HLD HLT hes het hx hy
              go_wp2_with (first
                | (go_at_call 125; refine (HI.out _ _ _ _ (by first | exact E1.out | exact E2.out)).mono ?_; rintro e w1 ⟨rfl, hb1⟩; have BB2 : Below W.heap.size W w1 := bstep BB.out hb1; replace a0 := (hb1.cell (p := ⟨W.heap.size, 0, none⟩) hsA).trans a0; replace a1 := (hb1.cell (p := ⟨W.heap.size, 1, none⟩) hsA).trans a1; replace b0 := (hb1.cell (p := ⟨W.heap.size + 1, 0, none⟩) hsB).trans b0; replace b1 := (hb1.cell (p := ⟨W.heap.size + 1, 1, none⟩) hsB).trans b1; replace hsA := Nat.lt_of_lt_of_le hsA hb1.size; replace hsB := Nat.lt_of_lt_of_le hsB hb1.size; clear BB; have BB : Hid (Below W.heap.size W w1) := BB2; clear hb1 BB2)
                | (go_at_call 142; refine (H3.out _).mono ?_; rintro e w1 ⟨⟨vv, rfl, hv⟩, hb1⟩; have HV : Hid (IsStrs w1 vv abv3) := hv; have BB2 : Below W.heap.size W w1 := bstep BB.out hb1; replace b1 := (hb1.cell (p := ⟨W.heap.size + 1, 1, none⟩) hsB).trans b1; clear BB; have BB : Hid (Below W.heap.size W w1) := BB2; clear hb1 BB2 hv)
                | (go_at_call 141; refine (HCo.out _ _ HV.out).mono ?_; rintro e w2 ⟨rfl, hb1⟩; have BB2 : Below W.heap.size W w2 := bstep BB.out hb1; clear BB; have BB : Hid (Below W.heap.size W w2) := BB2; clear hb1 BB2)
                | (go_at_call 143; refine (HX.out _ BB.out).mono ?_; rintro e w2 ⟨rfl, hb1⟩; have BB2 : Below W.heap.size W w2 := bstep BB.out hb1; clear BB; have BB : Hid (Below W.heap.size W w2) := BB2; clear hb1 BB2))
              all_goals go_ret
              all_goals exact ⟨retB HR.out, BB.out⟩
/-- is a loaded type below another? -/
def subB (ps : List Plc) (x : Int) (s : ByteArray) (y : Int) (t : ByteArray) : Bool := belB ps (x.toNat - min x.toNat y.toNat) s (y.toNat - min x.toNat y.toNat) t
/-- what Sub answers -/
def suI (ps : List Plc) (x : Int) (s : ByteArray) (y : Int) (t : ByteArray) : Value :=
  if ldI ps x s = 0 then (if ldI ps y t = 0 then .tuple #[.bool (subB ps x s y t), .int .i64 0] else .tuple #[.bool false, .int .i64 (ldI ps y t)]) else .tuple #[.bool false, .int .i64 (ldI ps x s)]
theorem ld_facts {ps : List Plc} {x : Int} {s : ByteArray} (h : ldI ps x s = 0) : 0 ≤ x ∧ x ≤ 255 ∧ (s.toList.isEmpty = false → ∃ k, lookL ps s.data.toList = some k) := by
  unfold ldI at h
  cases hs : sndB x s.data.toList with
  | false => rw [hs] at h; revert h; simp
  | true =>
    rw [hs] at h
    have hs2 := hs
    unfold sndB at hs2
    simp only [Bool.and_eq_true, decide_eq_true_eq] at hs2
    refine ⟨hs2.1.1, hs2.1.2, fun he => ?_⟩
    rw [he] at h
    cases hl : lookL ps s.data.toList with
    | some k => exact ⟨k, rfl⟩
    | none => rw [hl] at h; revert h; simp
set_option maxRecDepth 100000 in
set_option maxHeartbeats 1000000 in
theorem sub_c {b : Nat} {ps : List Plc} {W : World} (h : WAt b ps W) (hi : WI ps) (x : Int) (s : ByteArray) (y : Int) (t : ByteArray) (hs : s.size ≤ maxLen) (ht : t.size ≤ maxLen) : Calls Tryz.prog 18 #[.pointer (some ⟨b, 0, none⟩), .agg #[.int .i64 x, .string s], .agg #[.int .i64 y, .string t]] W fun e w' => e = .returned (suI ps x s y t) ∧ Below W.heap.size W w' := by
  have HL : Hid (∀ z u r w, Below W.heap.size W w → u.size ≤ maxLen → ldI ps z u = r → Calls Tryz.prog 20 #[.pointer (some ⟨b, 0, none⟩), .agg #[.int .i64 z, .string u]] w fun e w' => e = .returned (.int .i64 r) ∧ Below w.heap.size w w') := fun z u r w hb hu hr => by rw [← hr]; exact loaded_c (h.below hb) z u hu
  have HL1 : Hid (∀ z u w, Below W.heap.size W w → z = x → u = s → Calls Tryz.prog 20 #[.pointer (some ⟨b, 0, none⟩), .agg #[.int .i64 z, .string u]] w fun e w' => e = .returned (.int .i64 (ldI ps x s)) ∧ Below w.heap.size w w') := fun z u w hb hz hu => by rw [hz, hu]; exact HL.out x s _ w hb hs rfl
  have HL2 : Hid (∀ z u w, Below W.heap.size W w → z = y → u = t → Calls Tryz.prog 20 #[.pointer (some ⟨b, 0, none⟩), .agg #[.int .i64 z, .string u]] w fun e w' => e = .returned (.int .i64 (ldI ps y t)) ∧ Below w.heap.size w w') := fun z u w hb hz hu => by rw [hz, hu]; exact HL.out y t _ w hb ht rfl
  clear HL
  have tl : ∀ (w1 : World) (o1 o2 : Obj), Below ((W.alloc o1).alloc o2).heap.size ((W.alloc o1).alloc o2) w1 → True := fun _ _ _ _ => trivial
  clear tl
  by_cases h1 : ldI ps x s = 0
  · by_cases h2 : ldI ps y t = 0
    · have e : suI ps x s y t = .tuple #[.bool (subB ps x s y t), .int .i64 0] := by rw [suI, if_pos h1, if_pos h2]
      rw [e]
      obtain ⟨x0, x1, xk⟩ := ld_facts h1
      obtain ⟨y0, y1, yk⟩ := ld_facts h2
      have HB : Hid (∀ w, Below W.heap.size W w → Calls Tryz.prog 69 #[.pointer (some ⟨b, 0, none⟩), .agg #[.int .i64 x, .string s], .agg #[.int .i64 y, .string t]] w fun e w' => e = .returned (.bool (subB ps x s y t)) ∧ Below w.heap.size w w') := fun w hb => by
        have hq := isBelow_c (h.below hb) hi (x.toNat - min x.toNat y.toNat) (y.toNat - min x.toNat y.toNat) (min x.toNat y.toNat) s t hs ht (by omega) (by omega) xk yk
        rw [show ((x.toNat - min x.toNat y.toNat + min x.toNat y.toNat : Nat) : Int) = x by omega, show ((y.toNat - min x.toNat y.toNat + min x.toNat y.toNat : Nat) : Int) = y by omega] at hq
        exact hq
      rw [h1] at HL1
      rw [h2] at HL2
      generalize subB ps x s y t = R at *
      clear h hi hs ht h1 h2 e x0 x1 xk y0 y1 yk
      go_enter Tryz.func18, Tryz.ntmps18
      go_wp2_with (first
        | (go_at_call 20; refine (HL1.out _ _ _ (by repeat (first | exact Below.refl _ _ | refine Below.setCell ?_ (by simp; try omega) _ | refine Below.alloc ?_ (by simp; try omega) _ | refine Below.drew ?_)) (by rfl) (by rfl)).mono ?_; rintro e w1 ⟨rfl, hb⟩; have hA := (hb.block W.heap.size (by simp; omega)).trans (heap_alloc2_old W _ _); have hB := (hb.block (W.heap.size + 1) (by simp)).trans (heap_alloc2_new W _ _); have hsA : W.heap.size < w1.heap.size := (Array.getElem?_eq_some_iff.1 hA).1; have hsB : W.heap.size + 1 < w1.heap.size := (Array.getElem?_eq_some_iff.1 hB).1; have a0 := cell_of_row w1 W.heap.size 0 _ _ _ hA; have a1 := cell_of_row w1 W.heap.size 1 _ _ _ hA; have b0 := cell_of_row w1 (W.heap.size + 1) 0 _ _ _ hB; have b1 := cell_of_row w1 (W.heap.size + 1) 1 _ _ _ hB; simp only [List.getElem?_toArray, List.getElem?_cons_zero, List.getElem?_cons_succ] at a0 a1 b0 b1; have BB : Hid (Below W.heap.size W w1) := bstep (by repeat (first | exact Below.refl _ _ | refine Below.setCell ?_ (by simp; try omega) _ | refine Below.alloc ?_ (by simp; try omega) _ | refine Below.drew ?_)) hb; clear hb HL1 hA hB)
        | (go_at_call 20; refine (HL2.out _ _ _ BB.out (by rfl) (by rfl)).mono ?_; rintro e w2 ⟨rfl, hb⟩; replace a0 := (hb.cell (p := ⟨W.heap.size, 0, none⟩) hsA).trans a0; replace a1 := (hb.cell (p := ⟨W.heap.size, 1, none⟩) hsA).trans a1; replace b0 := (hb.cell (p := ⟨W.heap.size + 1, 0, none⟩) hsB).trans b0; replace b1 := (hb.cell (p := ⟨W.heap.size + 1, 1, none⟩) hsB).trans b1; have BB2 : Below W.heap.size W w2 := bstep BB.out hb; clear BB; have BB : Hid (Below W.heap.size W w2) := BB2; clear hb BB2 HL2)
        | (go_at_call 69; refine (HB.out _ BB.out).mono ?_; rintro e w3 ⟨rfl, hb⟩; have BB2 : Below W.heap.size W w3 := bstep BB.out hb; clear BB; have BB : Hid (Below W.heap.size W w3) := BB2; clear hb BB2 HB))
      exact bodyPost_ret (results_tmp2 rfl _ _ _) rfl ⟨rfl, BB.out⟩
    · have e : suI ps x s y t = .tuple #[.bool false, .int .i64 (ldI ps y t)] := by rw [suI, if_pos h1, if_neg h2]
      rw [e]
      rw [h1] at HL1
      generalize ldI ps y t = R at *
      clear h hi hs ht h1 e
      go_enter Tryz.func18, Tryz.ntmps18
      go_wp2_with (first
        | (go_at_call 20; refine (HL1.out _ _ _ (by repeat (first | exact Below.refl _ _ | refine Below.setCell ?_ (by simp; try omega) _ | refine Below.alloc ?_ (by simp; try omega) _ | refine Below.drew ?_)) (by rfl) (by rfl)).mono ?_; rintro e w1 ⟨rfl, hb⟩; have hA := (hb.block W.heap.size (by simp; omega)).trans (heap_alloc2_old W _ _); have hB := (hb.block (W.heap.size + 1) (by simp)).trans (heap_alloc2_new W _ _); have a0 := cell_of_row w1 W.heap.size 0 _ _ _ hA; have a1 := cell_of_row w1 W.heap.size 1 _ _ _ hA; have b0 := cell_of_row w1 (W.heap.size + 1) 0 _ _ _ hB; have b1 := cell_of_row w1 (W.heap.size + 1) 1 _ _ _ hB; simp only [List.getElem?_toArray, List.getElem?_cons_zero, List.getElem?_cons_succ] at a0 a1 b0 b1; have BB : Hid (Below W.heap.size W w1) := bstep (by repeat (first | exact Below.refl _ _ | refine Below.setCell ?_ (by simp; try omega) _ | refine Below.alloc ?_ (by simp; try omega) _ | refine Below.drew ?_)) hb; clear hb HL1 hA hB)
        | (go_at_call 20; refine (HL2.out _ _ _ BB.out (by rfl) (by rfl)).mono ?_; rintro e w2 ⟨rfl, hb⟩; have BB2 : Below W.heap.size W w2 := bstep BB.out hb; clear BB; have BB : Hid (Below W.heap.size W w2) := BB2; clear hb BB2 HL2))
      exact bodyPost_ret (results_tmp2 rfl _ _ _) rfl ⟨rfl, BB.out⟩
  · have e : suI ps x s y t = .tuple #[.bool false, .int .i64 (ldI ps x s)] := by rw [suI, if_neg h1]
    rw [e]
    generalize ldI ps x s = R at *
    clear h hi hs ht e
    go_enter Tryz.func18, Tryz.ntmps18
    go_wp2_with (first
      | (go_at_call 20; refine (HL1.out _ _ _ (by repeat (first | exact Below.refl _ _ | refine Below.setCell ?_ (by simp; try omega) _ | refine Below.alloc ?_ (by simp; try omega) _ | refine Below.drew ?_)) (by rfl) (by rfl)).mono ?_; rintro e w1 ⟨rfl, hb⟩; have BB : Hid (Below W.heap.size W w1) := bstep (by repeat (first | exact Below.refl _ _ | refine Below.setCell ?_ (by simp; try omega) _ | refine Below.alloc ?_ (by simp; try omega) _ | refine Below.drew ?_)) hb; clear hb HL1))
    exact bodyPost_ret (results_tmp2 rfl _ _ _) rfl ⟨rfl, BB.out⟩
end Go.Proofs.YtgppadlkollfaaaGreat
