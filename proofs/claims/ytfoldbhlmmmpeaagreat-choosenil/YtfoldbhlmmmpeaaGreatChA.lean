/- Package choose: checkClass, hasSome, itsOwn, unlessAbstract, read, readFor. -/
import Derived.Test.YtfoldbhlmmmpeaaGreatTyC
import Derived.Test.YtfoldbhlmmmpeaaGreatAcE
import Derived.Test.YtfoldbhlmmmpeaaGreatSoE
import Derived.Test.YtfoldbhlmmmpeaaGreatRsC
import Derived.Test.YtfoldbhlmmmpeaaGreatOwnL
import Derived.Deep.LoopGhost
import Derived.Deep.DeepCutAuto
namespace Go.Proofs.YtfoldbhlmmmpeaaGreat
open Go.RowKit Go.Maps

















/-- a method of this name and descriptor -/
def FndF (ps : List Plc) (nm ds : ByteArray) (m : Int × Int) : Prop := ∃ x, methI ps m.1 m.2 = some x ∧ x.nm.toList = nm.toList ∧ x.ds.toList = ds.toList
theorem fnd_facts {ps : List Plc} {c : Int} {nm ds : ByteArray} (h : (fndI ps c nm ds).2 = 0) : FndF ps nm ds (c, (fndI ps c nm ds).1) ∧ ∃ (k : Nat) (q : Plc), c = (k : Int) ∧ ps[k]? = some q := by
  rcases plcI_cases ps c with ⟨h1, h2⟩ | ⟨k, q, rfl, h2, h1⟩
  · rw [fndI, h1] at h; exact absurd h (by show ¬ (3 : Int) = 0; decide)
  · have e : fndI ps k nm ds = if findH nm ds q.c.ms 0 < 0 then (0, 6) else (findH nm ds q.c.ms 0, 0) := by rw [fndI, h1]
    refine ⟨?_, k, q, rfl, h2⟩
    rw [e] at h ⊢
    rcases findH_range nm ds q.c.ms 0 with e2 | ⟨j, x, e2, hj, hn, hd⟩
    · rw [e2, if_pos (by decide)] at h; exact absurd h (by decide)
    · rw [e2, if_neg (by omega)]
      refine ⟨x, ?_, hn, hd⟩
      rw [methI, h1]
      show methP q ((0 + j : Nat) : Int) = some x
      rw [methP, if_pos (Int.natCast_nonneg _)]
      simpa using hj


/-- a method with its place -/
structure P9 where
  nm : ByteArray
  ds : ByteArray
  fl : Int
  lo : Int
  st : Int
  sa : Option Addr
  sk : Nat
  so : Nat
  c : Int
  i : Int
def P9.id (x : P9) : Int × Int := (x.c, x.i)
def P9.cells (b : Nat) (x : P9) : List Value := [.string x.nm, .string x.ds, .int .i64 x.fl, .int .i64 x.lo, .int .i64 x.st, .slice x.sa x.sk x.so, .int .i64 x.c, .int .i64 x.i, .pointer (some ⟨b, 0, none⟩)]
def P9.agg (b : Nat) (x : P9) : Value := .agg #[.string x.nm, .string x.ds, .int .i64 x.fl, .int .i64 x.lo, .int .i64 x.st, .slice x.sa x.sk x.so, .int .i64 x.c, .int .i64 x.i, .pointer (some ⟨b, 0, none⟩)]
def flat9 (b : Nat) (l : List P9) : List Value := l.flatMap (P9.cells b)
theorem P9.cells_len (b : Nat) (x : P9) : (x.cells b).length = 9 := rfl
theorem flat9_app (b : Nat) (l r : List P9) : flat9 b (l ++ r) = flat9 b l ++ flat9 b r := List.flatMap_append
theorem flat9_cons (b : Nat) (x : P9) (r : List P9) : flat9 b (x :: r) = x.cells b ++ flat9 b r := rfl
theorem flat9_length (b : Nat) : ∀ l : List P9, (flat9 b l).length = l.length * 9
  | [] => rfl
  | x :: r => by rw [flat9_cons, List.length_append, flat9_length b r, P9.cells_len, List.length_cons]; omega
theorem flat9_at (b : Nat) : ∀ (l : List P9) (i : Nat) (x : P9) (j : Nat), l[i]? = some x → j < 9 → (flat9 b l)[i * 9 + j]? = (x.cells b)[j]?
  | [], _, _, _, h, _ => by simp at h
  | y :: r, 0, x, j, h, hj => by
    simp only [List.getElem?_cons_zero, Option.some.injEq] at h
    subst h
    rw [flat9_cons, Nat.zero_mul, Nat.zero_add, List.getElem?_append_left (by rw [P9.cells_len]; exact hj)]
  | y :: r, i + 1, x, j, h, hj => by
    rw [List.getElem?_cons_succ] at h
    rw [flat9_cons, List.getElem?_append_right (by rw [P9.cells_len]; omega), P9.cells_len, show (i + 1) * 9 + j - 9 = i * 9 + j by omega]
    exact flat9_at b r i x j h hj
theorem flat9_take (b : Nat) : ∀ (k : Nat) (l : List P9), (flat9 b l).take (k * 9) = flat9 b (l.take k)
  | 0, l => by simp [flat9]
  | k + 1, [] => by simp [flat9]
  | k + 1, x :: r => by
    rw [List.take_succ_cons, flat9_cons, flat9_cons, ← flat9_take b k r, List.take_append, P9.cells_len, show (k + 1) * 9 - 9 = k * 9 by omega, List.take_of_length_le (by rw [P9.cells_len]; omega)]
theorem flat9_drop (b : Nat) : ∀ (k : Nat) (l : List P9), (flat9 b l).drop (k * 9) = flat9 b (l.drop k)
  | 0, l => by simp
  | k + 1, [] => by simp [flat9]
  | k + 1, x :: r => by
    rw [List.drop_succ_cons, flat9_cons, ← flat9_drop b k r, List.drop_append, P9.cells_len, show (k + 1) * 9 - 9 = k * 9 by omega, List.drop_of_length_le (by rw [P9.cells_len]; omega), List.nil_append]
theorem flat9_one (b : Nat) (l : List P9) : ∀ u ∈ flat9 b l, u.oneCell' = true := by
  intro u hu
  rw [flat9, List.mem_flatMap] at hu
  obtain ⟨x, _, hx⟩ := hu
  simp only [P9.cells, List.mem_cons, List.not_mem_nil, or_false] at hx
  rcases hx with rfl | rfl | rfl | rfl | rfl | rfl | rfl | rfl | rfl <;> rfl
/-- what lies there is a method of the world -/
def OkP (ps : List Plc) (x : P9) : Prop := ∃ m, methI ps x.c x.i = some m ∧ x.nm = m.nm ∧ x.ds = m.ds ∧ x.fl = m.fl
/-- the same method -/
def eqI (c a : Int × Int) : Bool := (c.1 == a.1) && (c.2 == a.2)
/-- does c plainly override a? -/
def plI (ps : List Plc) (c a : Int × Int) : Bool := match methI ps c.1 c.2, methI ps a.1 a.2 with
  | some x, some y => plnB ps x.nm x.ds x.fl c.1 y.nm y.ds y.fl a.1
  | _, _ => false
def stI (ps : List Plc) (c : Int × Int) : Bool := match methI ps c.1 c.2 with
  | some x => stB x.fl
  | none => false
theorem OkP.pl {ps : List Plc} {x y : P9} (hx : OkP ps x) (hy : OkP ps y) : plnB ps x.nm x.ds x.fl x.c y.nm y.ds y.fl y.c = plI ps x.id y.id := by
  obtain ⟨m, h1, h2, h3, h4⟩ := hx
  obtain ⟨n, g1, g2, g3, g4⟩ := hy
  simp only [plI, P9.id, h1, g1, h2, h3, h4, g2, g3, g4]
theorem OkP.st {ps : List Plc} {x : P9} (hx : OkP ps x) : stB x.fl = stI ps x.id := by
  obtain ⟨m, h1, _, _, h4⟩ := hx
  simp only [stI, P9.id, h1, h4]
/-- a round of gather -/
def gth1 (ps : List Plc) (a : Int × Int) (kept : List (Int × Int)) (c : Int × Int) : List (Int × Int) := if (eqI c a && !stI ps c) || kept.any (plI ps c) then kept ++ [c] else kept
/-- what gather keeps -/
def gthL (ps : List Plc) (a : Int × Int) (l : List (Int × Int)) : List (Int × Int) := l.foldl (gth1 ps a) []
theorem gthL_snoc (ps : List Plc) (a : Int × Int) (l : List (Int × Int)) (c : Int × Int) : gthL ps a (l ++ [c]) = gth1 ps a (gthL ps a l) c := by
  rw [gthL, List.foldl_append]; rfl
theorem gthL_len (ps : List Plc) (a : Int × Int) (l : List (Int × Int)) : (gthL ps a l).length ≤ l.length := by
  have : ∀ (l k : List (Int × Int)), (l.foldl (gth1 ps a) k).length ≤ k.length + l.length := by
    intro l
    induction l with
    | nil => intro k; simp
    | cons c r ih =>
      intro k
      rw [List.foldl_cons]
      refine Nat.le_trans (ih _) ?_
      rw [gth1]
      split <;> simp <;> omega
  simpa [gthL] using this l []
/-- the methods of a name of some classes, but for one class -/
def nskL (ps : List Plc) (nm ds : ByteArray) (a : Int) : List Nat → List (Int × Int)
  | [] => []
  | c :: r => if (fndI ps (c : Int) nm ds).2 = 0 ∧ (c : Int) ≠ a then ((c : Int), (fndI ps (c : Int) nm ds).1) :: nskL ps nm ds a r else nskL ps nm ds a r
theorem nskL_app (ps : List Plc) (nm ds : ByteArray) (a : Int) : ∀ l r : List Nat, nskL ps nm ds a (l ++ r) = nskL ps nm ds a l ++ nskL ps nm ds a r
  | [], r => rfl
  | c :: l, r => by
    rw [List.cons_append, nskL, nskL, nskL_app ps nm ds a l r]
    split <;> rfl
theorem nskL_len (ps : List Plc) (nm ds : ByteArray) (a : Int) : ∀ l : List Nat, (nskL ps nm ds a l).length ≤ l.length
  | [] => Nat.le_refl _
  | c :: l => by
    have := nskL_len ps nm ds a l
    rw [nskL]
    split <;> simp <;> omega
/-- what gather is asked about -/
def askL (ps : List Plc) (m : HM) (a : Int × Int) (l : List Nat) : List (Int × Int) := a :: nskL ps m.nm m.ds a.1 l
/-- the last of a list, if its class is one of these -/
def lstI (l : List Nat) (G : List (Int × Int)) : (Int × Int) × Int := match G.getLast? with
  | some x => if (l.map (fun k : Nat => (k : Int))).contains x.1 then (x, 0) else ((0, 0), 6)
  | none => ((0, 0), 6)
theorem lstI_last {l : List Nat} {G : List (Int × Int)} {x : Int × Int} (h : G.getLast? = some x) : lstI l G = if (l.map (fun k : Nat => (k : Int))).contains x.1 then (x, 0) else ((0, 0), 6) := by rw [lstI, h]
/-- what First answers -/
def firI (ps : List Plc) (r : Int) (a : Int × Int) : (Int × Int) × Int := match methI ps a.1 a.2, plcI ps r with
  | some m, some _ => lstI (chL (ps.map nd) r.toNat) (gthL ps a (askL ps m a (chL (ps.map nd) r.toNat).reverse))
  | _, _ => ((0, 0), 3)


set_option maxRecDepth 100000 in
theorem cck_nil (i : Int) (W : World) : Calls Tryz.prog 156 #[.pointer none, .int .i64 i] W fun e w' => e = .returned (.int .i64 2) ∧ w' = W := by
  go_enter Tryz.func156, Tryz.ntmps156
  go_wp2
  exact bodyPost_ret (results_tmp rfl _ _ _) rfl ⟨rfl, rfl⟩
set_option maxRecDepth 100000 in
theorem cck_c {b : Nat} {ps : List Plc} {W : World} (h : WAt b ps W) (i : Int) : Calls Tryz.prog 156 #[.pointer (some ⟨b, 0, none⟩), .int .i64 i] W fun e w' => e = .returned (.int .i64 (rckI ps i)) ∧ w' = W := by
  have HL : Hid (Calls Tryz.prog 68 #[.pointer (some ⟨b, 0, none⟩)] W fun e w' => e = .returned (.int .i64 (ps.length : Int)) ∧ w' = W) := len_c h
  rcases plcI_cases ps i with ⟨h1, h2⟩ | ⟨k, q, rfl, h2, h1⟩
  · have e : rckI ps i = 3 := by rw [rckI, h1]; rfl
    rw [e]
    clear h h1 e
    by_cases h0 : i < 0
    · go_enter Tryz.func156, Tryz.ntmps156
      go_wp2
      exact bodyPost_ret (results_tmp rfl _ _ _) rfl ⟨rfl, rfl⟩
    · have h3 : (ps.length : Int) ≤ i := by omega
      generalize (ps.length : Int) = n at *
      clear h2
      go_enter Tryz.func156, Tryz.ntmps156
      go_wp2_with (go_at_call 68; refine HL.out.mono ?_; rintro e w9 ⟨rfl, hw9⟩; rw [hw9]; clear hw9 w9)
      exact bodyPost_ret (results_tmp rfl _ _ _) rfl ⟨rfl, rfl⟩
  · have e : rckI ps k = 0 := by rw [rckI, h1]; rfl
    rw [e]
    have h3 : (k : Int) < (ps.length : Int) := by have := (List.getElem?_eq_some_iff.1 h2).1; omega
    have h0 : ¬ (k : Int) < 0 := by omega
    generalize (ps.length : Int) = n at *
    have h4 : ¬ n ≤ (k : Int) := by omega
    clear h h1 e h2
    go_enter Tryz.func156, Tryz.ntmps156
    go_wp2_with (go_at_call 68; refine HL.out.mono ?_; rintro e w9 ⟨rfl, hw9⟩; rw [hw9]; clear hw9 w9)
    exact bodyPost_ret (results_tmp rfl _ _ _) rfl ⟨rfl, rfl⟩
set_option maxRecDepth 100000 in
set_option maxHeartbeats 1000000 in
theorem chS_c {b : Nat} {ps : List Plc} {W : World} (h : WAt b ps W) (hB : ∀ q ∈ ps, PlcB q) (c i fl : Int) : Calls Tryz.prog 98 #[.pointer (some ⟨b, 0, none⟩), .agg #[.int .i64 c, .int .i64 i], .int .i64 fl] W fun e w' => e = .returned (.bool (hasS ps c i fl)) ∧ Below W.heap.size W w' := by
  have HM : Hid (∀ w, Below W.heap.size W w → Calls Tryz.prog 28 #[.pointer (some ⟨b, 0, none⟩), .agg #[.int .i64 c, .int .i64 i]] w fun e w' => MthR w.heap.size (methI ps c i) e w' ∧ Below w.heap.size w w') := fun w hb => method_c (h.below hb) hB c i
  have HR : Hid (hasS ps c i fl = match methI ps c i with | some m => hasI m.fl fl | none => false) := rfl
  generalize hasS ps c i fl = R at *
  generalize methI ps c i = M at *
  clear h hB
  cases M with
  | none =>
    have hR : R = false := HR.out
    subst hR
    go_enter Tryz.func98, Tryz.ntmps98
    go_wp2_with (go_at_call 28; refine (HM.out _ (by repeat (first | exact Below.refl _ _ | refine Below.setCell ?_ (by simp; try omega) _ | refine Below.alloc ?_ (by simp; try omega) _ | refine Below.drew ?_))).mono ?_; rintro e w1 ⟨hr, hb⟩; have hr2 : e = .returned noM := hr; subst hr2; rw [noM]; have B1 : Hid (Below W.heap.size W w1) := bstep (by repeat (first | exact Below.refl _ _ | refine Below.setCell ?_ (by simp; try omega) _ | refine Below.alloc ?_ (by simp; try omega) _ | refine Below.drew ?_)) hb; clear hb HM hr)
    exact bodyPost_ret (v := .bool false) (by simp [results, Tryz.results98, go_sem]) rfl ⟨rfl, B1.out.alloc B1.out.size _⟩
  | some m =>
    have hR : R = (bits .and .i64 m.fl fl != 0) := HR.out
    cases hq : (bits .and .i64 m.fl fl != 0)
    all_goals
      rw [hq] at hR
      subst hR
      clear HR
      go_enter Tryz.func98, Tryz.ntmps98
      go_wp2_with (go_at_call 28; refine (HM.out _ (by repeat (first | exact Below.refl _ _ | refine Below.setCell ?_ (by simp; try omega) _ | refine Below.alloc ?_ (by simp; try omega) _ | refine Below.drew ?_))).mono ?_; rintro e w1 ⟨⟨v, hr, ho⟩, hb⟩; subst hr; obtain ⟨a', c', rfl⟩ := ownv ho; have B1 : Hid (Below W.heap.size W w1) := bstep (by repeat (first | exact Below.refl _ _ | refine Below.setCell ?_ (by simp; try omega) _ | refine Below.alloc ?_ (by simp; try omega) _ | refine Below.drew ?_)) hb; clear hb HM ho)
    · exact bodyPost_ret (v := .bool false) (by simp [results, Tryz.results98, go_sem, *]) rfl ⟨rfl, B1.out.alloc B1.out.size _⟩
    · exact bodyPost_ret (v := .bool true) (by simp [results, Tryz.results98, go_sem, *]) rfl ⟨rfl, B1.out.alloc B1.out.size _⟩
/-- what unlessAbstract answers -/
def unaI (ps : List Plc) (m : Int × Int) : (Int × Int) × Int := if hasS ps m.1 m.2 1024 then ((0, 0), 24) else (m, 0)
set_option maxRecDepth 100000 in
theorem una_c {b : Nat} {ps : List Plc} {W : World} (h : WAt b ps W) (hB : ∀ q ∈ ps, PlcB q) (c i : Int) : Calls Tryz.prog 94 #[.pointer (some ⟨b, 0, none⟩), .agg #[.int .i64 c, .int .i64 i]] W fun e w' => e = .returned (idE (unaI ps (c, i))) ∧ Below W.heap.size W w' := by
  have HS : Hid (∀ w, Below W.heap.size W w → Calls Tryz.prog 98 #[.pointer (some ⟨b, 0, none⟩), .agg #[.int .i64 c, .int .i64 i], .int .i64 1024] w fun e w' => e = .returned (.bool (hasS ps c i 1024)) ∧ Below w.heap.size w w') := fun w hb => chS_c (h.below hb) hB c i 1024
  unfold unaI
  simp only
  generalize hasS ps c i 1024 = S at *
  clear h hB
  cases S
  all_goals
    go_enter Tryz.func94, Tryz.ntmps94
    go_wp2_with (go_at_call 98; refine (HS.out _ (by repeat (first | exact Below.refl _ _ | refine Below.setCell ?_ (by simp; try omega) _ | refine Below.alloc ?_ (by simp; try omega) _ | refine Below.drew ?_))).mono ?_; rintro e w1 ⟨rfl, hb⟩; have yd : w1.heap[W.heap.size]? = some (.cells #[.int .i64 c, .int .i64 i] 24 (0, 0)) := (hb.block (W.heap.size) (by first | omega | (simp; try omega))).trans (hkeep (halloc1 _ _)); (try clear yB y0 y1 yf yL yN); have yB : Hid _ := yd; obtain ⟨y0, y1, yf, yL⟩ := rw2 yd; have yN : ¬ W.heap.size = w1.heap.size := (by omega); clear yd; have zd : w1.heap[W.heap.size + 1]? = some (.cells #[.int .i64 0, .int .i64 0] 24 (0, 0)) := (hb.block (W.heap.size + 1) (by first | omega | (simp; try omega))).trans (halloc2 _ _ (by simp)); (try clear zB z0 z1 zf zL zN); have zB : Hid _ := zd; obtain ⟨z0, z1, zf, zL⟩ := rw2 zd; have zN : ¬ W.heap.size + 1 = w1.heap.size := (by omega); clear zd; have B1 : Hid (Below W.heap.size W w1) := bstep (by repeat (first | exact Below.refl _ _ | refine Below.setCell ?_ (by simp; try omega) _ | refine Below.alloc ?_ (by simp; try omega) _ | refine Below.drew ?_)) hb; clear hb HS)
  · exact bodyPost_ret (v := idE ((c, i), 0)) (by simp [results, Tryz.results94, go_sem, idE, *]) rfl ⟨rfl, (by repeat (first | refine Below.setCell ?_ (by simp; try omega) _ | refine Below.alloc ?_ (by have := B1.out.size; simp; try omega) _ | refine Below.drew ?_ | exact B1.out))⟩
  · exact bodyPost_ret (v := idE ((0, 0), 24)) (by simp [results, Tryz.results94, go_sem, idE, *]) rfl ⟨rfl, (by repeat (first | refine Below.setCell ?_ (by simp; try omega) _ | refine Below.alloc ?_ (by have := B1.out.size; simp; try omega) _ | refine Below.drew ?_ | exact B1.out))⟩
/-- a method or an error -/
def mthE : Except Int HM → Ending → Prop
  | .error x, e => e = .returned (.tuple #[.agg #[.string ⟨#[]⟩, .string ⟨#[]⟩, .int .i64 0, .int .i64 0, .int .i64 0, .slice none 0 0], .int .i64 x])
  | .ok m, e => ∃ sa sk so, e = .returned (.tuple #[.agg #[.string m.nm, .string m.ds, .int .i64 m.fl, .int .i64 m.lo, .int .i64 m.st, .slice sa sk so], .int .i64 0])
theorem mth_e {b : Nat} {ps : List Plc} {W : World} (h : WAt b ps W) (hB : ∀ q ∈ ps, PlcB q) (c i : Int) : Calls Tryz.prog 28 #[.pointer (some ⟨b, 0, none⟩), .agg #[.int .i64 c, .int .i64 i]] W fun e w' => mthE (match methI ps c i with | some m => .ok m | none => .error 3) e ∧ Below W.heap.size W w' := by
  refine (method_c h hB c i).mono fun e w' zz => ⟨?_, zz.2⟩
  have h1 := zz.1
  cases hm : methI ps c i with
  | none => rw [hm] at h1; exact h1
  | some m =>
    rw [hm] at h1
    obtain ⟨vv, rfl, hown⟩ := h1
    obtain ⟨a1, c1, rfl⟩ := ownv hown
    exact ⟨a1, _, c1, rfl⟩
/-- what read answers -/
def crdI (ps : List Plc) (d : Int) (m : Int × Int) : Except Int HM := match plcI ps d, methI ps m.1 m.2 with
  | some _, some x => .ok x
  | _, _ => .error 3
set_option maxRecDepth 100000 in
set_option maxHeartbeats 1000000 in
theorem crd_c {b : Nat} {ps : List Plc} {W : World} (h : WAt b ps W) (hB : ∀ q ∈ ps, PlcB q) (d c i : Int) : Calls Tryz.prog 100 #[.pointer (some ⟨b, 0, none⟩), .int .i64 d, .agg #[.int .i64 c, .int .i64 i]] W fun e w' => mthE (crdI ps d (c, i)) e ∧ Below W.heap.size W w' := by
  have HC : Hid (∀ w, Below W.heap.size W w → Calls Tryz.prog 156 #[.pointer (some ⟨b, 0, none⟩), .int .i64 d] w fun e w' => e = .returned (.int .i64 (rckI ps d)) ∧ w' = w) := fun w hb => cck_c (h.below hb) d
  have HM : Hid (∀ w, Below W.heap.size W w → Calls Tryz.prog 28 #[.pointer (some ⟨b, 0, none⟩), .agg #[.int .i64 c, .int .i64 i]] w fun e w' => mthE (match methI ps c i with | some m => .ok m | none => .error 3) e ∧ Below w.heap.size w w') := fun w hb => mth_e (h.below hb) hB c i
  unfold crdI
  unfold rckI at HC
  simp only
  generalize plcI ps d = D at *
  generalize methI ps c i = M at *
  clear h hB
  cases D with
  | none =>
    clear HM
    simp only [Option.isSome_none, Bool.false_eq_true, if_false] at HC
    go_enter Tryz.func100, Tryz.ntmps100
    go_wp2_with (go_at_call 156; refine (HC.out _ (by repeat (first | exact Below.refl _ _ | refine Below.setCell ?_ (by simp; try omega) _ | refine Below.alloc ?_ (by simp; try omega) _ | refine Below.drew ?_))).mono ?_; rintro e w9 ⟨rfl, hw9⟩; rw [hw9]; clear hw9 w9)
    exact bodyPost_ret (v := .tuple #[.agg #[.string ⟨#[]⟩, .string ⟨#[]⟩, .int .i64 0, .int .i64 0, .int .i64 0, .slice none 0 0], .int .i64 3]) (by simp [results, Tryz.results100, go_sem, *]) rfl ⟨rfl, (by repeat (first | exact Below.refl _ _ | refine Below.setCell ?_ (by simp; try omega) _ | refine Below.alloc ?_ (by simp; try omega) _ | refine Below.drew ?_))⟩
  | some q =>
    simp only [Option.isSome_some, if_true] at HC
    cases M with
    | none =>
      simp only [mthE] at HM
      go_enter Tryz.func100, Tryz.ntmps100
      go_wp2_with (first
        | (go_at_call 156; refine (HC.out _ (by repeat (first | exact Below.refl _ _ | refine Below.setCell ?_ (by simp; try omega) _ | refine Below.alloc ?_ (by simp; try omega) _ | refine Below.drew ?_))).mono ?_; rintro e w9 ⟨rfl, hw9⟩; rw [hw9]; clear hw9 w9)
        | (go_at_call 28; refine (HM.out _ (by repeat (first | exact Below.refl _ _ | refine Below.setCell ?_ (by simp; try omega) _ | refine Below.alloc ?_ (by simp; try omega) _ | refine Below.drew ?_))).mono ?_; rintro e w1 ⟨rfl, hb⟩; have zd : w1.heap[W.heap.size + 1]? = some (.cells #[.string ⟨#[]⟩, .string ⟨#[]⟩, .int .i64 0, .int .i64 0, .int .i64 0, .slice none 0 0] 47 (0, 0)) := (hb.block (W.heap.size + 1) (by first | omega | (simp; try omega))).trans (halloc2 _ _ (by simp)); (try clear zB z0 z1 z2 z3 z4 z5 zf zL zN); have zB : Hid _ := zd; obtain ⟨z0, z1, z2, z3, z4, z5, zf, zL⟩ := rw6 zd; have zN : ¬ W.heap.size + 1 = w1.heap.size := (by omega); clear zd; have B1 : Hid (Below W.heap.size W w1) := bstep (by repeat (first | exact Below.refl _ _ | refine Below.setCell ?_ (by simp; try omega) _ | refine Below.alloc ?_ (by simp; try omega) _ | refine Below.drew ?_)) hb; clear hb HM))
      exact bodyPost_ret (v := .tuple #[.agg #[.string ⟨#[]⟩, .string ⟨#[]⟩, .int .i64 0, .int .i64 0, .int .i64 0, .slice none 0 0], .int .i64 3]) (by simp [results, Tryz.results100, go_sem, *]) rfl ⟨rfl, (by repeat (first | refine Below.setCell ?_ (by simp; try omega) _ | refine Below.alloc ?_ (by have := B1.out.size; simp; try omega) _ | refine Below.drew ?_ | exact B1.out))⟩
    | some m =>
      simp only [mthE] at HM
      go_enter Tryz.func100, Tryz.ntmps100
      go_wp2_with (first
        | (go_at_call 156; refine (HC.out _ (by repeat (first | exact Below.refl _ _ | refine Below.setCell ?_ (by simp; try omega) _ | refine Below.alloc ?_ (by simp; try omega) _ | refine Below.drew ?_))).mono ?_; rintro e w9 ⟨rfl, hw9⟩; rw [hw9]; clear hw9 w9)
        | (go_at_call 28; refine (HM.out _ (by repeat (first | exact Below.refl _ _ | refine Below.setCell ?_ (by simp; try omega) _ | refine Below.alloc ?_ (by simp; try omega) _ | refine Below.drew ?_))).mono ?_; rintro e w1 ⟨⟨sa, sk, so, rfl⟩, hb⟩; have zd : w1.heap[W.heap.size + 1]? = some (.cells #[.string ⟨#[]⟩, .string ⟨#[]⟩, .int .i64 0, .int .i64 0, .int .i64 0, .slice none 0 0] 47 (0, 0)) := (hb.block (W.heap.size + 1) (by first | omega | (simp; try omega))).trans (halloc2 _ _ (by simp)); (try clear zB z0 z1 z2 z3 z4 z5 zf zL zN); have zB : Hid _ := zd; obtain ⟨z0, z1, z2, z3, z4, z5, zf, zL⟩ := rw6 zd; have zN : ¬ W.heap.size + 1 = w1.heap.size := (by omega); clear zd; have B1 : Hid (Below W.heap.size W w1) := bstep (by repeat (first | exact Below.refl _ _ | refine Below.setCell ?_ (by simp; try omega) _ | refine Below.alloc ?_ (by simp; try omega) _ | refine Below.drew ?_)) hb; clear hb HM))
      exact bodyPost_ret (v := .tuple #[.agg #[.string m.nm, .string m.ds, .int .i64 m.fl, .int .i64 m.lo, .int .i64 m.st, .slice sa sk so], .int .i64 0]) (by simp [results, Tryz.results100, go_sem, *]) rfl ⟨⟨sa, sk, so, rfl⟩, (by repeat (first | refine Below.setCell ?_ (by simp; try omega) _ | refine Below.alloc ?_ (by have := B1.out.size; simp; try omega) _ | refine Below.drew ?_ | exact B1.out))⟩
/-- what readFor answers -/
def rfrI (ps : List Plc) (r : Int) (m : Int × Int) : Except Int HM := match crdI ps r m with
  | .ok x => if ifcI ps r then .error 2 else .ok x
  | .error e => .error e
set_option maxRecDepth 100000 in
set_option maxHeartbeats 2000000 in
theorem rfr_1 {W : World} {b : Nat} (r c i : Int) (HR : Hid (∀ w, Below W.heap.size W w → Calls Tryz.prog 100 #[.pointer (some ⟨b, 0, none⟩), .int .i64 r, .agg #[.int .i64 c, .int .i64 i]] w fun e w' => e = .returned (.tuple #[.agg #[.string ⟨#[]⟩, .string ⟨#[]⟩, .int .i64 0, .int .i64 0, .int .i64 0, .slice none 0 0], .int .i64 3]) ∧ Below w.heap.size w w')) : Calls Tryz.prog 92 #[.pointer (some ⟨b, 0, none⟩), .int .i64 r, .agg #[.int .i64 c, .int .i64 i]] W fun e w' => mthE (.error 3) e ∧ Below W.heap.size W w' := by
  go_enter Tryz.func92, Tryz.ntmps92
  go_upto_region 3 with (go_at_call 100; refine (HR.out _ (by repeat (first | exact Below.refl _ _ | refine Below.setCell ?_ (by simp; try omega) _ | refine Below.alloc ?_ (by simp; try omega) _ | refine Below.drew ?_))).mono ?_; rintro e w1 ⟨rfl, hb⟩; have zd : w1.heap[W.heap.size + 1]? = some (.cells #[.string ⟨#[]⟩, .string ⟨#[]⟩, .int .i64 0, .int .i64 0, .int .i64 0, .slice none 0 0] 47 (0, 0)) := (hb.block (W.heap.size + 1) (by first | omega | (simp; try omega))).trans (halloc2 _ _ (by simp)); (try clear zB z0 z1 z2 z3 z4 z5 zf zL zN); have zB : Hid _ := zd; obtain ⟨z0, z1, z2, z3, z4, z5, zf, zL⟩ := rw6 zd; have zN : ¬ W.heap.size + 1 = w1.heap.size := (by omega); clear zd; have B1 : Hid (Below W.heap.size W w1) := bstep (by repeat (first | exact Below.refl _ _ | refine Below.setCell ?_ (by simp; try omega) _ | refine Below.alloc ?_ (by simp; try omega) _ | refine Below.drew ?_)) hb; clear hb HR)
  obtain ⟨Wm, hWm⟩ : ∃ x, x = w1.alloc (.cells #[.string ⟨#[]⟩, .string ⟨#[]⟩, .int .i64 0, .int .i64 0, .int .i64 0, .slice none 0 0] 47) := ⟨_, rfl⟩
  have BM : Hid (Below W.heap.size W Wm) := by rw [hWm]; exact B1.out.alloc B1.out.size _
  have hd0 : Wm.heap[W.heap.size + 1]? = some (.cells #[.string ⟨#[]⟩, .string ⟨#[]⟩, .int .i64 0, .int .i64 0, .int .i64 0, .slice none 0 0] 47 (0, 0)) := by rw [hWm]; exact hkeep zB.out
  obtain ⟨p0, p1, p2, p3, p4, p5, pf, pL⟩ := rw6 hd0
  rw [← hWm]
  clear hWm hd0 B1 zB z0 z1 z2 z3 z4 z5 zf zL zN
  go_wp2
  exact bodyPost_ret (v := .tuple #[.agg #[.string ⟨#[]⟩, .string ⟨#[]⟩, .int .i64 0, .int .i64 0, .int .i64 0, .slice none 0 0], .int .i64 3]) (by simp [results, Tryz.results92, go_sem, *]) rfl ⟨rfl, (by repeat (first | refine Below.setCell ?_ (by simp; try omega) _ | refine Below.alloc ?_ (by have := BM.out.size; simp; try omega) _ | refine Below.drew ?_ | exact BM.out))⟩
set_option maxRecDepth 100000 in
set_option maxHeartbeats 2000000 in
theorem rfr_2 {W : World} {b : Nat} (r c i : Int) (m : HM) (HR : Hid (∀ w, Below W.heap.size W w → Calls Tryz.prog 100 #[.pointer (some ⟨b, 0, none⟩), .int .i64 r, .agg #[.int .i64 c, .int .i64 i]] w fun e w' => (∃ sa sk so, e = .returned (.tuple #[.agg #[.string m.nm, .string m.ds, .int .i64 m.fl, .int .i64 m.lo, .int .i64 m.st, .slice sa sk so], .int .i64 0])) ∧ Below w.heap.size w w')) (HI : Hid (∀ w, Below W.heap.size W w → Calls Tryz.prog 44 #[.pointer (some ⟨b, 0, none⟩), .int .i64 r] w fun e w' => e = .returned (.bool true) ∧ Below w.heap.size w w')) : Calls Tryz.prog 92 #[.pointer (some ⟨b, 0, none⟩), .int .i64 r, .agg #[.int .i64 c, .int .i64 i]] W fun e w' => mthE (.error 2) e ∧ Below W.heap.size W w' := by
  go_enter Tryz.func92, Tryz.ntmps92
  go_upto_region 5 with (first
    | (go_at_call 100; refine (HR.out _ (by repeat (first | exact Below.refl _ _ | refine Below.setCell ?_ (by simp; try omega) _ | refine Below.alloc ?_ (by simp; try omega) _ | refine Below.drew ?_))).mono ?_; rintro e w1 ⟨⟨sa, sk, so, rfl⟩, hb⟩; have zd : w1.heap[W.heap.size + 1]? = some (.cells #[.string ⟨#[]⟩, .string ⟨#[]⟩, .int .i64 0, .int .i64 0, .int .i64 0, .slice none 0 0] 47 (0, 0)) := (hb.block (W.heap.size + 1) (by first | omega | (simp; try omega))).trans (halloc2 _ _ (by simp)); (try clear zB z0 z1 z2 z3 z4 z5 zf zL zN); have zB : Hid _ := zd; obtain ⟨z0, z1, z2, z3, z4, z5, zf, zL⟩ := rw6 zd; have zN : ¬ W.heap.size + 1 = w1.heap.size := (by omega); clear zd; have B1 : Hid (Below W.heap.size W w1) := bstep (by repeat (first | exact Below.refl _ _ | refine Below.setCell ?_ (by simp; try omega) _ | refine Below.alloc ?_ (by simp; try omega) _ | refine Below.drew ?_)) hb; clear hb HR)
    | (go_at_call 44; refine (HI.out _ (B1.out.alloc B1.out.size _)).mono ?_; rintro e w2 ⟨rfl, hb⟩; have zd : w2.heap[W.heap.size + 1]? = some (.cells #[.string ⟨#[]⟩, .string ⟨#[]⟩, .int .i64 0, .int .i64 0, .int .i64 0, .slice none 0 0] 47 (0, 0)) := (hb.block (W.heap.size + 1) (by first | omega | (simp; try omega))).trans (hkeep zB.out); (try clear zB z0 z1 z2 z3 z4 z5 zf zL zN); have zB : Hid _ := zd; obtain ⟨z0, z1, z2, z3, z4, z5, zf, zL⟩ := rw6 zd; have zN : ¬ W.heap.size + 1 = w2.heap.size := (by omega); clear zd; have ud : w2.heap[w1.heap.size]? = some (.cells #[.string m.nm, .string m.ds, .int .i64 m.fl, .int .i64 m.lo, .int .i64 m.st, .slice sa sk so] 47 (0, 0)) := (hb.block (w1.heap.size) (by first | omega | (simp; try omega))).trans (halloc1 _ _); (try clear uB u0 u1 u2 u3 u4 u5 uf uL uN); have uB : Hid _ := ud; obtain ⟨u0, u1, u2, u3, u4, u5, uf, uL⟩ := rw6 ud; have uN : ¬ w1.heap.size = w2.heap.size := (by omega); clear ud; have B2 : Hid (Below W.heap.size W w2) := bstep (B1.out.alloc B1.out.size _) hb; clear hb HI))
  clear B1 uB u0 u1 u2 u3 u4 u5 uf uL uN
  go_wp2
  exact bodyPost_ret (v := .tuple #[.agg #[.string ⟨#[]⟩, .string ⟨#[]⟩, .int .i64 0, .int .i64 0, .int .i64 0, .slice none 0 0], .int .i64 2]) (by simp [results, Tryz.results92, go_sem, *]) rfl ⟨rfl, (by repeat (first | refine Below.setCell ?_ (by simp; try omega) _ | refine Below.alloc ?_ (by have := B2.out.size; simp; try omega) _ | refine Below.drew ?_ | exact B2.out))⟩
set_option maxRecDepth 100000 in
set_option maxHeartbeats 2000000 in
theorem rfr_3 {W : World} {b : Nat} (r c i : Int) (m : HM) (HR : Hid (∀ w, Below W.heap.size W w → Calls Tryz.prog 100 #[.pointer (some ⟨b, 0, none⟩), .int .i64 r, .agg #[.int .i64 c, .int .i64 i]] w fun e w' => (∃ sa sk so, e = .returned (.tuple #[.agg #[.string m.nm, .string m.ds, .int .i64 m.fl, .int .i64 m.lo, .int .i64 m.st, .slice sa sk so], .int .i64 0])) ∧ Below w.heap.size w w')) (HI : Hid (∀ w, Below W.heap.size W w → Calls Tryz.prog 44 #[.pointer (some ⟨b, 0, none⟩), .int .i64 r] w fun e w' => e = .returned (.bool false) ∧ Below w.heap.size w w')) : Calls Tryz.prog 92 #[.pointer (some ⟨b, 0, none⟩), .int .i64 r, .agg #[.int .i64 c, .int .i64 i]] W fun e w' => mthE (.ok m) e ∧ Below W.heap.size W w' := by
  go_enter Tryz.func92, Tryz.ntmps92
  go_upto_region 6 with (first
    | (go_at_call 100; refine (HR.out _ (by repeat (first | exact Below.refl _ _ | refine Below.setCell ?_ (by simp; try omega) _ | refine Below.alloc ?_ (by simp; try omega) _ | refine Below.drew ?_))).mono ?_; rintro e w1 ⟨⟨sa, sk, so, rfl⟩, hb⟩; have zd : w1.heap[W.heap.size + 1]? = some (.cells #[.string ⟨#[]⟩, .string ⟨#[]⟩, .int .i64 0, .int .i64 0, .int .i64 0, .slice none 0 0] 47 (0, 0)) := (hb.block (W.heap.size + 1) (by first | omega | (simp; try omega))).trans (halloc2 _ _ (by simp)); (try clear zB z0 z1 z2 z3 z4 z5 zf zL zN); have zB : Hid _ := zd; obtain ⟨z0, z1, z2, z3, z4, z5, zf, zL⟩ := rw6 zd; have zN : ¬ W.heap.size + 1 = w1.heap.size := (by omega); clear zd; have hzw : W.heap.size + 1 < w1.heap.size := zL; have B1 : Hid (Below W.heap.size W w1) := bstep (by repeat (first | exact Below.refl _ _ | refine Below.setCell ?_ (by simp; try omega) _ | refine Below.alloc ?_ (by simp; try omega) _ | refine Below.drew ?_)) hb; clear hb HR)
    | (go_at_call 44; refine (HI.out _ (B1.out.alloc B1.out.size _)).mono ?_; rintro e w2 ⟨rfl, hb⟩; have zd : w2.heap[W.heap.size + 1]? = some (.cells #[.string ⟨#[]⟩, .string ⟨#[]⟩, .int .i64 0, .int .i64 0, .int .i64 0, .slice none 0 0] 47 (0, 0)) := (hb.block (W.heap.size + 1) (by first | omega | (simp; try omega))).trans (hkeep zB.out); (try clear zB z0 z1 z2 z3 z4 z5 zf zL zN); have zB : Hid _ := zd; obtain ⟨z0, z1, z2, z3, z4, z5, zf, zL⟩ := rw6 zd; have zN : ¬ W.heap.size + 1 = w2.heap.size := (by omega); clear zd; have ud : w2.heap[w1.heap.size]? = some (.cells #[.string m.nm, .string m.ds, .int .i64 m.fl, .int .i64 m.lo, .int .i64 m.st, .slice sa sk so] 47 (0, 0)) := (hb.block (w1.heap.size) (by first | omega | (simp; try omega))).trans (halloc1 _ _); (try clear uB u0 u1 u2 u3 u4 u5 uf uL uN); have uB : Hid _ := ud; obtain ⟨u0, u1, u2, u3, u4, u5, uf, uL⟩ := rw6 ud; have uN : ¬ w1.heap.size = w2.heap.size := (by omega); clear ud; have B2 : Hid (Below W.heap.size W w2) := bstep (B1.out.alloc B1.out.size _) hb; clear hb HI))
  have hne : ¬ w1.heap.size = W.heap.size + 1 := by omega
  clear B1
  go_wp2
  exact bodyPost_ret (v := .tuple #[.agg #[.string m.nm, .string m.ds, .int .i64 m.fl, .int .i64 m.lo, .int .i64 m.st, .slice sa sk so], .int .i64 0]) (by simp [results, Tryz.results92, go_sem, *]) rfl ⟨⟨sa, sk, so, rfl⟩, (by repeat (first | refine Below.setCell ?_ (by simp; try omega) _ | refine Below.alloc ?_ (by have := B2.out.size; simp; try omega) _ | refine Below.drew ?_ | exact B2.out))⟩
theorem rfr_c {b : Nat} {ps : List Plc} {W : World} (h : WAt b ps W) (hB : ∀ q ∈ ps, PlcB q) (r c i : Int) : Calls Tryz.prog 92 #[.pointer (some ⟨b, 0, none⟩), .int .i64 r, .agg #[.int .i64 c, .int .i64 i]] W fun e w' => mthE (rfrI ps r (c, i)) e ∧ Below W.heap.size W w' := by
  have HR : ∀ w, Below W.heap.size W w → Calls Tryz.prog 100 #[.pointer (some ⟨b, 0, none⟩), .int .i64 r, .agg #[.int .i64 c, .int .i64 i]] w fun e w' => mthE (crdI ps r (c, i)) e ∧ Below w.heap.size w w' := fun w hb => crd_c (h.below hb) hB r c i
  have HI : ∀ w, Below W.heap.size W w → Calls Tryz.prog 44 #[.pointer (some ⟨b, 0, none⟩), .int .i64 r] w fun e w' => e = .returned (.bool (ifcI ps r)) ∧ Below w.heap.size w w' := fun w hb => isIface_c (h.below hb) r
  unfold rfrI
  cases hD : crdI ps r (c, i) with
  | error x =>
    rw [hD] at HR
    have h3 : x = 3 := by
      rw [crdI] at hD
      split at hD
      · cases hD
      · cases hD; rfl
    subst h3
    exact rfr_1 r c i HR
  | ok m =>
    rw [hD] at HR
    cases hI : ifcI ps r
    all_goals rw [hI] at HI
    · exact rfr_3 r c i m HR HI
    · exact rfr_2 r c i m HR HI
end Go.Proofs.YtfoldbhlmmmpeaaGreat
