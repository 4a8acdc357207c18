/- Walks of the document's answers of layer 3 (arbiterref03) that take flags: Has, known, CheckClass, CheckMethod, Open: each returns what the plain functions say. -/
import Derived.Test.YtfbhjfpkhofifaaGreatDoorRows
import Derived.Test.YtfbhjfpkhofifaaGreatDoorFlagsRead
import Derived.WalkKit
import Derived.WalkSpells
import Derived.WalkLawsBesides
import Derived.Lib.Walk
namespace Go.Proofs.YtfbhjfpkhofifaaGreatDoor
open Go.RowKit

theorem fret_bool {a b : Bool} (h : a = b) : Ending.returned (.bool a) = .returned (.bool b) := by rw [h]
theorem fret_int {k : IntKind} {a b : Int} (h : a = b) : Ending.returned (.int k a) = .returned (.int k b) := by rw [h]
theorem fbytes_ext {a b : ByteArray} (h : a.data.toList = b.data.toList) : a = b := by
  obtain ⟨⟨x⟩⟩ := a; obtain ⟨⟨y⟩⟩ := b; simp at h; rw [h]
theorem fmk_size (b : List UInt8) : (⟨b.toArray⟩ : ByteArray).size = b.length := by show b.toArray.size = _; simp
theorem Below.fstep {w w1 w2 : World} (h1 : Below w.heap.size w w1) (h2 : Below w1.heap.size w1 w2) : Below w.heap.size w w2 := h1.trans (h2.mono h1.size)

/-- the value v is a list of one-cell values xs in the world w -/
def IsRow (w : World) (v : Value) (xs : List Value) : Prop :=
  ∃ bk o cap, v = .slice (some ⟨bk, o, none⟩) xs.length cap ∧ xs.length ≤ cap ∧ cap ≤ maxLen ∧ bk < w.heap.size ∧ ∀ k x, xs[k]? = some x → w.cell? ⟨bk, o + k, none⟩ = some x

theorem IsRow.keep {w w' : World} {v : Value} {xs : List Value} (h : IsRow w v xs) (hb : Below w.heap.size w w') : IsRow w' v xs := by
  obtain ⟨bk, o, cap, rfl, h1, h2, h3, h4⟩ := h
  exact ⟨bk, o, cap, rfl, h1, h2, Nat.lt_of_lt_of_le h3 hb.size, fun k x hk => (hb.cell h3).trans (h4 k x hk)⟩

theorem row_new (w : World) (xs : Array Value) (t : TypeId) (hl : xs.size ≤ maxLen) : IsRow (w.alloc (.cells xs t)) (.slice (some ⟨w.heap.size, 0, none⟩) xs.size xs.size) xs.toList := by
  refine ⟨w.heap.size, 0, xs.size, by simp, by simp, hl, by simp, fun k x hk => ?_⟩
  rw [Nat.zero_add, cell_of_row _ w.heap.size k _ t (0, 0) (heap_alloc_new w _)]
  simpa using hk

set_option maxHeartbeats 400000 in
theorem has_any (f x : Int) (w : World) : Calls Tryz.prog 29 #[.int .i64 f, .int .i64 x] w fun e w' => e = .returned (.bool (hasI f x)) ∧ w' = w := by
  go_enter Tryz.func29, Tryz.ntmps29
  go_wp2
  go_ret
  exact ⟨fret_bool rfl, rfl⟩

def intV (x : Int) : Value := .int .i64 x
def txtV (l : List UInt8) : Value := .string ⟨l.toArray⟩

set_option maxHeartbeats 400000 in
theorem classFlags_any (w : World) : Calls Tryz.prog 61 #[] w fun e w' => (∃ v, e = .returned v ∧ IsRow w' v ((flagsOf clsP).map intV)) ∧ Below w.heap.size w w' := by
  go_enter Tryz.func61, Tryz.ntmps61
  go_wp2
  go_ret
  exact ⟨⟨_, rfl, row_new w #[.int .i64 1, .int .i64 16, .int .i64 32, .int .i64 512, .int .i64 1024] 3 (by unfold maxLen; decide)⟩, (Below.refl _ _).alloc (Nat.le_refl _) _⟩

set_option maxHeartbeats 400000 in
theorem methodFlags_any (w : World) : Calls Tryz.prog 80 #[] w fun e w' => (∃ v, e = .returned v ∧ IsRow w' v ((flagsOf mthP).map intV)) ∧ Below w.heap.size w w' := by
  go_enter Tryz.func80, Tryz.ntmps80
  go_wp2
  go_ret
  exact ⟨⟨_, rfl, row_new w #[.int .i64 1, .int .i64 2, .int .i64 4, .int .i64 8, .int .i64 16, .int .i64 1024] 3 (by unfold maxLen; decide)⟩, (Below.refl _ _).alloc (Nat.le_refl _) _⟩

set_option maxHeartbeats 400000 in
theorem classWords_any (w : World) : Calls Tryz.prog 79 #[] w fun e w' => (∃ v, e = .returned v ∧ IsRow w' v (clsP.map (fun p => txtV p.2))) ∧ Below w.heap.size w w' := by
  go_enter Tryz.func79, Tryz.ntmps79
  go_wp2
  go_ret
  exact ⟨⟨_, rfl, row_new w #[.string ⟨#[112, 117, 98, 108, 105, 99]⟩, .string ⟨#[102, 105, 110, 97, 108]⟩, .string ⟨#[115, 117, 112, 101, 114]⟩, .string ⟨#[105, 110, 116, 101, 114, 102, 97, 99, 101]⟩, .string ⟨#[97, 98, 115, 116, 114, 97, 99, 116]⟩] 9 (by unfold maxLen; decide)⟩, (Below.refl _ _).alloc (Nat.le_refl _) _⟩

set_option maxHeartbeats 400000 in
theorem methodWords_any (w : World) : Calls Tryz.prog 81 #[] w fun e w' => (∃ v, e = .returned v ∧ IsRow w' v (mthP.map (fun p => txtV p.2))) ∧ Below w.heap.size w w' := by
  go_enter Tryz.func81, Tryz.ntmps81
  go_wp2
  go_ret
  exact ⟨⟨_, rfl, row_new w #[.string ⟨#[112, 117, 98, 108, 105, 99]⟩, .string ⟨#[112, 114, 105, 118, 97, 116, 101]⟩, .string ⟨#[112, 114, 111, 116, 101, 99, 116, 101, 100]⟩, .string ⟨#[115, 116, 97, 116, 105, 99]⟩, .string ⟨#[102, 105, 110, 97, 108]⟩, .string ⟨#[97, 98, 115, 116, 114, 97, 99, 116]⟩] 9 (by unfold maxLen; decide)⟩, (Below.refl _ _).alloc (Nat.le_refl _) _⟩

theorem known_append (f : Int) (a b : List Int) : knownI f (a ++ b) = knownI f a + knownI f b := by
  induction a with
  | nil => simp [knownI]
  | cons x a ih => simp only [List.cons_append, knownI, ih]; omega

theorem known_step (f : Int) (fl : List Int) (i : Nat) (x : Int) (h : fl[i]? = some x) : knownI f (fl.take (i + 1)) = knownI f (fl.take i) + (if hasI f x then x else 0) := by
  have hlt : i < fl.length := (List.getElem?_eq_some_iff.1 h).1
  rw [List.take_succ_eq_append_getElem hlt, known_append]
  rw [List.getElem?_eq_getElem hlt] at h
  rw [Option.some.inj h]
  simp [knownI]

theorem known_bounds (f : Int) (fl : List Int) (hb : ∀ x ∈ fl, 0 ≤ x ∧ x ≤ 2048) : 0 ≤ knownI f fl ∧ knownI f fl ≤ 2048 * fl.length := by
  induction fl with
  | nil => simp [knownI]
  | cons x l ih =>
    obtain ⟨h1, h2⟩ := ih (fun y hy => hb y (List.mem_cons_of_mem _ hy))
    have := hb x (List.mem_cons_self ..)
    simp only [knownI, List.length_cons]
    split <;> omega

set_option maxHeartbeats 1000000 in
theorem known_any (f : Int) (fl : List Int) (hb : ∀ x ∈ fl, 0 ≤ x ∧ x ≤ 2048) (hl : fl.length ≤ 100) (v : Value) (w : World) (h : IsRow w v (fl.map intV)) :
    Calls Tryz.prog 60 #[.int .i64 f, v] w fun e w' => e = .returned (.int .i64 (knownI f fl)) ∧ w' = w := by
  obtain ⟨bk, o, cap, rfl, h1, h2, h3, h4⟩ := h
  rw [List.length_map] at *
  unfold maxLen at h2
  have HC : Hid _ := h4
  have HB : Hid _ := hb
  have HH : Hid (∀ (x : Int) (w : World), _) := has_any f
  clear h4 hb
  go_enter Tryz.func60, Tryz.ntmps60
  go_wp2
  go_loop [5, 6] (fun nv iv => ∃ (i : Nat) (n : Int), nv = .int .i64 n ∧ iv = .int .i64 i ∧ i ≤ fl.length ∧ 0 ≤ n ∧ n ≤ 204800 ∧ Hid (n = knownI f (fl.take i))) (fun _ iv => fl.length - (intOf iv).toNat)
  case atStart => exact ⟨0, 0, rfl, rfl, Nat.zero_le _, by omega, by omega, rfl⟩
  case round =>
    obtain ⟨i, n, rfl, rfl, hi, hn0, hn1, hN⟩ := hrel
    by_cases hlt : i < fl.length
    · obtain ⟨x, hx⟩ : ∃ x, fl[i]? = some x := ⟨_, List.getElem?_eq_getElem hlt⟩
      have c0 : w.cell? ⟨bk, o + i, none⟩ = some (.int .i64 x) := HC.out i (intV x) (by rw [List.getElem?_map, hx]; rfl)
      obtain ⟨x0, x1⟩ := HB.out x (List.mem_of_getElem? hx)
      have HX : Hid (∀ w, _) := HH.out x
      have hbn := known_bounds f (fl.take (i + 1)) (fun y hy => HB.out y (List.mem_of_mem_take hy))
      rw [known_step f fl i x hx, ← hN.out] at hbn
      have hlen : (fl.take (i + 1)).length ≤ 100 := by rw [List.length_take]; omega
      cases hh : hasI f x with
      | true =>
        rw [hh] at HX hbn
        have hb2 : n + x ≤ 204800 := by simp at hbn; omega
        have HN : Hid (n + x = knownI f (fl.take (i + 1))) := by rw [Hid, known_step f fl i x hx, hh, hN.out]; rfl
        clear hh hx HC HB HH hbn hlen hN
        go_wp2_with (go_at_call 29; refine (HX.out _).mono ?_; rintro e w1 ⟨rfl, rfl⟩)
        go_round
        case rel => exact ⟨i + 1, n + x, by go_num, by go_num, by omega, by omega, hb2, HN⟩
        case measure => simp [intOf]; omega
      | false =>
        rw [hh] at HX
        have HN : Hid (n = knownI f (fl.take (i + 1))) := by rw [Hid, known_step f fl i x hx, hh, hN.out]; simp
        clear hh hx HC HB HH hbn hlen hN
        go_wp2_with (go_at_call 29; refine (HX.out _).mono ?_; rintro e w1 ⟨rfl, rfl⟩)
        go_round
        case rel => exact ⟨i + 1, n, rfl, by go_num, by omega, hn0, hn1, HN⟩
        case measure => simp [intOf]; omega
    · have HN : Hid (n = knownI f fl) := by rw [Hid, hN.out, List.take_of_length_le (by omega)]
      clear HC HB HH hN
      go_wp2
      go_ret
      exact ⟨fret_int HN.out, rfl⟩

/-- CheckClass, CheckMethod, Open -/
def chkC (f : Int) : Int := if !onlyB f clsP then 1 else if hasI f 512 && (!hasI f 1024 || hasI f 16 || hasI f 32) then 1 else if hasI f 16 && hasI f 1024 then 1 else 0
/-- how many of public, private, protected -/
def visN (f : Int) : Nat := (if hasI f 1 then 1 else 0) + (if hasI f 2 then 1 else 0) + (if hasI f 4 then 1 else 0)
def chkM (f : Int) (iface ini : Bool) : Int := if !onlyB f mthP then 1 else if decide (1 < visN f) then 1 else if hasI f 1024 && (hasI f 2 || hasI f 8 || hasI f 16) then 1
  else if iface && (hasI f 4 || hasI f 16 || decide (visN f = 0) || ini) then 1 else if ini && (hasI f 8 || hasI f 16 || hasI f 1024) then 1 else 0
def openI (f : Int) : Int := if hasI f 1 then 1 else if hasI f 4 then 4 else if hasI f 2 then 2 else 0

theorem small_cls : ∀ x ∈ flagsOf clsP, 0 ≤ x ∧ x ≤ 2048 := by decide
theorem small_mth : ∀ x ∈ flagsOf mthP, 0 ≤ x ∧ x ≤ 2048 := by decide

set_option maxHeartbeats 4000000 in
theorem rCheckClass_any (f : Int) (w : World) : Calls Tryz.prog 27 #[.int .i64 f] w fun e w' => e = .returned (.int .i64 (chkC f)) ∧ Below w.heap.size w w' := by
  have HL : Hid (∀ w, _) := classFlags_any
  have HK : Hid (∀ (v : Value) (w : World), IsRow w v ((flagsOf clsP).map intV) → _) := fun v w => known_any f (flagsOf clsP) small_cls (by decide) v w
  have HH : Hid (∀ (x : Int) (w : World), _) := has_any f
  have HC : Hid (chkC f = if !onlyB f clsP then 1 else if hasI f 512 && (!hasI f 1024 || hasI f 16 || hasI f 32) then 1 else if hasI f 16 && hasI f 1024 then 1 else 0) := rfl
  have hon : (knownI f (flagsOf clsP) != f) = !onlyB f clsP := by unfold onlyB; rw [Bool.eq_iff_iff]; simp
  generalize chkC f = r at *
  cases ho : onlyB f clsP with
  | false =>
    have HR : Hid (r = 1) := by rw [Hid, HC.out, ho]; rfl
    rw [ho] at hon
    go_enter Tryz.func27, Tryz.ntmps27
    go_wp2_with (first
      | (go_at_call 61; refine (HL.out _).mono ?_; rintro e w1 ⟨⟨v, rfl, hv⟩, hb1⟩)
      | (go_at_call 60; refine (HK.out _ _ hv).mono ?_; rintro e w2 ⟨rfl, rfl⟩))
    go_ret
    exact ⟨fret_int HR.out.symm, hb1⟩
  | true =>
    rw [ho] at hon HC
    clear ho
    cases h512 : hasI f 512 with
    | true =>
      cases h1024 : hasI f 1024 with
      | true =>
        cases h16 : hasI f 16 with
        | true =>
          go_enter Tryz.func27, Tryz.ntmps27
          go_wp2_with (first
            | (go_at_call 61; refine (HL.out _).mono ?_; rintro e w1 ⟨⟨v, rfl, hv⟩, hb1⟩)
            | (go_at_call 60; refine (HK.out _ _ hv).mono ?_; rintro e w2 ⟨rfl, rfl⟩)
            | (go_at_call 29; refine (HH.out _ _).mono ?_; rintro e w3 ⟨rfl, rfl⟩; first | rw [h512] | rw [h1024] | rw [h16]))
          go_ret
          exact ⟨fret_int (by rw [HC.out]; simp [h512, h1024, h16]), hb1⟩
        | false =>
          cases h32 : hasI f 32 with
          | true =>
            go_enter Tryz.func27, Tryz.ntmps27
            go_wp2_with (first
              | (go_at_call 61; refine (HL.out _).mono ?_; rintro e w1 ⟨⟨v, rfl, hv⟩, hb1⟩)
              | (go_at_call 60; refine (HK.out _ _ hv).mono ?_; rintro e w2 ⟨rfl, rfl⟩)
              | (go_at_call 29; refine (HH.out _ _).mono ?_; rintro e w3 ⟨rfl, rfl⟩; first | rw [h512] | rw [h1024] | rw [h16] | rw [h32]))
            go_ret
            exact ⟨fret_int (by rw [HC.out]; simp [h512, h1024, h16, h32]), hb1⟩
          | false =>
            go_enter Tryz.func27, Tryz.ntmps27
            go_wp2_with (first
              | (go_at_call 61; refine (HL.out _).mono ?_; rintro e w1 ⟨⟨v, rfl, hv⟩, hb1⟩)
              | (go_at_call 60; refine (HK.out _ _ hv).mono ?_; rintro e w2 ⟨rfl, rfl⟩)
              | (go_at_call 29; refine (HH.out _ _).mono ?_; rintro e w3 ⟨rfl, rfl⟩; first | rw [h512] | rw [h1024] | rw [h16] | rw [h32]))
            go_ret
            exact ⟨fret_int (by rw [HC.out]; simp [h512, h1024, h16, h32]), hb1⟩
      | false =>
        go_enter Tryz.func27, Tryz.ntmps27
        go_wp2_with (first
          | (go_at_call 61; refine (HL.out _).mono ?_; rintro e w1 ⟨⟨v, rfl, hv⟩, hb1⟩)
          | (go_at_call 60; refine (HK.out _ _ hv).mono ?_; rintro e w2 ⟨rfl, rfl⟩)
          | (go_at_call 29; refine (HH.out _ _).mono ?_; rintro e w3 ⟨rfl, rfl⟩; first | rw [h512] | rw [h1024]))
        go_ret
        exact ⟨fret_int (by rw [HC.out]; simp [h512, h1024]), hb1⟩
    | false =>
      cases h16 : hasI f 16 with
      | true =>
        cases h1024 : hasI f 1024 with
        | true =>
          go_enter Tryz.func27, Tryz.ntmps27
          go_wp2_with (first
            | (go_at_call 61; refine (HL.out _).mono ?_; rintro e w1 ⟨⟨v, rfl, hv⟩, hb1⟩)
            | (go_at_call 60; refine (HK.out _ _ hv).mono ?_; rintro e w2 ⟨rfl, rfl⟩)
            | (go_at_call 29; refine (HH.out _ _).mono ?_; rintro e w3 ⟨rfl, rfl⟩; first | rw [h512] | rw [h16] | rw [h1024]))
          go_ret
          exact ⟨fret_int (by rw [HC.out]; simp [h512, h16, h1024]), hb1⟩
        | false =>
          go_enter Tryz.func27, Tryz.ntmps27
          go_wp2_with (first
            | (go_at_call 61; refine (HL.out _).mono ?_; rintro e w1 ⟨⟨v, rfl, hv⟩, hb1⟩)
            | (go_at_call 60; refine (HK.out _ _ hv).mono ?_; rintro e w2 ⟨rfl, rfl⟩)
            | (go_at_call 29; refine (HH.out _ _).mono ?_; rintro e w3 ⟨rfl, rfl⟩; first | rw [h512] | rw [h16] | rw [h1024]))
          go_ret
          exact ⟨fret_int (by rw [HC.out]; simp [h512, h16, h1024]), hb1⟩
      | false =>
        go_enter Tryz.func27, Tryz.ntmps27
        go_wp2_with (first
          | (go_at_call 61; refine (HL.out _).mono ?_; rintro e w1 ⟨⟨v, rfl, hv⟩, hb1⟩)
          | (go_at_call 60; refine (HK.out _ _ hv).mono ?_; rintro e w2 ⟨rfl, rfl⟩)
          | (go_at_call 29; refine (HH.out _ _).mono ?_; rintro e w3 ⟨rfl, rfl⟩; first | rw [h512] | rw [h16]))
        go_ret
        exact ⟨fret_int (by rw [HC.out]; simp [h512, h16]), hb1⟩

set_option maxRecDepth 10000 in
set_option maxHeartbeats 16000000 in
theorem rCheckMethod_any (f : Int) (iface : Bool) (nm : ByteArray) (w : World) : Calls Tryz.prog 63 #[.int .i64 f, .bool iface, .string nm] w fun e w' => e = .returned (.int .i64 (chkM f iface (nm.toList == [60, 105, 110, 105, 116, 62]))) ∧ Below w.heap.size w w' := by
  have HL : Hid (∀ w, _) := methodFlags_any
  have HK : Hid (∀ (v : Value) (w : World), IsRow w v ((flagsOf mthP).map intV) → _) := fun v w => known_any f (flagsOf mthP) small_mth (by decide) v w
  have HH : Hid (∀ (x : Int) (w : World), _) := has_any f
  have HC : Hid (∀ b, chkM f iface b = if !onlyB f mthP then 1 else if decide (1 < visN f) then 1 else if hasI f 1024 && (hasI f 2 || hasI f 8 || hasI f 16) then 1
    else if iface && (hasI f 4 || hasI f 16 || decide (visN f = 0) || b) then 1 else if b && (hasI f 8 || hasI f 16 || hasI f 1024) then 1 else 0) := fun _ => rfl
  have hon : (knownI f (flagsOf mthP) != f) = !onlyB f mthP := by unfold onlyB; rw [Bool.eq_iff_iff]; simp
  cases ho : onlyB f mthP with
  | false =>
    have HR : Hid (∀ b, chkM f iface b = 1) := fun b => by rw [HC.out, ho]; rfl
    rw [ho] at hon
    go_enter Tryz.func63, Tryz.ntmps63
    go_wp2_with (first
      | (go_at_call 80; refine (HL.out _).mono ?_; rintro e w1 ⟨⟨v, rfl, hv⟩, hb1⟩)
      | (go_at_call 60; refine (HK.out _ _ hv).mono ?_; rintro e w2 ⟨rfl, rfl⟩))
    go_ret
    exact ⟨fret_int (HR.out _).symm, hb1⟩
  | true =>
    rw [ho] at hon HC
    clear ho
    cases h1 : hasI f 1 with
    | true =>
      cases h2 : hasI f 2 with
      | true =>
        cases h4 : hasI f 4 with
        | true =>
          go_enter Tryz.func63, Tryz.ntmps63
          go_wp2_with (first
            | (go_at_call 80; refine (HL.out _).mono ?_; rintro e w1 ⟨⟨v, rfl, hv⟩, hb1⟩)
            | (go_at_call 60; refine (HK.out _ _ hv).mono ?_; rintro e w2 ⟨rfl, rfl⟩)
            | (go_at_call 29; refine (HH.out _ _).mono ?_; rintro e w3 ⟨rfl, rfl⟩; first | rw [h1] | rw [h2] | rw [h4]))
          go_ret
          exact ⟨fret_int (by rw [HC.out _]; simp [visN, h1, h2, h4]), hb1⟩
        | false =>
          go_enter Tryz.func63, Tryz.ntmps63
          go_wp2_with (first
            | (go_at_call 80; refine (HL.out _).mono ?_; rintro e w1 ⟨⟨v, rfl, hv⟩, hb1⟩)
            | (go_at_call 60; refine (HK.out _ _ hv).mono ?_; rintro e w2 ⟨rfl, rfl⟩)
            | (go_at_call 29; refine (HH.out _ _).mono ?_; rintro e w3 ⟨rfl, rfl⟩; first | rw [h1] | rw [h2] | rw [h4]))
          go_ret
          exact ⟨fret_int (by rw [HC.out _]; simp [visN, h1, h2, h4]), hb1⟩
      | false =>
        cases h4 : hasI f 4 with
        | true =>
          go_enter Tryz.func63, Tryz.ntmps63
          go_wp2_with (first
            | (go_at_call 80; refine (HL.out _).mono ?_; rintro e w1 ⟨⟨v, rfl, hv⟩, hb1⟩)
            | (go_at_call 60; refine (HK.out _ _ hv).mono ?_; rintro e w2 ⟨rfl, rfl⟩)
            | (go_at_call 29; refine (HH.out _ _).mono ?_; rintro e w3 ⟨rfl, rfl⟩; first | rw [h1] | rw [h2] | rw [h4]))
          go_ret
          exact ⟨fret_int (by rw [HC.out _]; simp [visN, h1, h2, h4]), hb1⟩
        | false =>
          cases h1024 : hasI f 1024 with
          | true =>
            cases h8 : hasI f 8 with
            | true =>
              go_enter Tryz.func63, Tryz.ntmps63
              go_wp2_with (first
                | (go_at_call 80; refine (HL.out _).mono ?_; rintro e w1 ⟨⟨v, rfl, hv⟩, hb1⟩)
                | (go_at_call 60; refine (HK.out _ _ hv).mono ?_; rintro e w2 ⟨rfl, rfl⟩)
                | (go_at_call 29; refine (HH.out _ _).mono ?_; rintro e w3 ⟨rfl, rfl⟩; first | rw [h1] | rw [h2] | rw [h4] | rw [h1024] | rw [h8]))
              go_ret
              exact ⟨fret_int (by rw [HC.out _]; simp [visN, h1, h2, h4, h1024, h8]), hb1⟩
            | false =>
              cases h16 : hasI f 16 with
              | true =>
                go_enter Tryz.func63, Tryz.ntmps63
                go_wp2_with (first
                  | (go_at_call 80; refine (HL.out _).mono ?_; rintro e w1 ⟨⟨v, rfl, hv⟩, hb1⟩)
                  | (go_at_call 60; refine (HK.out _ _ hv).mono ?_; rintro e w2 ⟨rfl, rfl⟩)
                  | (go_at_call 29; refine (HH.out _ _).mono ?_; rintro e w3 ⟨rfl, rfl⟩; first | rw [h1] | rw [h2] | rw [h4] | rw [h1024] | rw [h8] | rw [h16]))
                go_ret
                exact ⟨fret_int (by rw [HC.out _]; simp [visN, h1, h2, h4, h1024, h8, h16]), hb1⟩
              | false =>
                cases iface with
                | true =>
                  cases hini : (nm.toList == [60, 105, 110, 105, 116, 62]) with
                  | true =>
                    go_enter Tryz.func63, Tryz.ntmps63
                    go_wp2_with (first
                      | (go_at_call 80; refine (HL.out _).mono ?_; rintro e w1 ⟨⟨v, rfl, hv⟩, hb1⟩)
                      | (go_at_call 60; refine (HK.out _ _ hv).mono ?_; rintro e w2 ⟨rfl, rfl⟩)
                      | (go_at_call 29; refine (HH.out _ _).mono ?_; rintro e w3 ⟨rfl, rfl⟩; first | rw [h1] | rw [h2] | rw [h4] | rw [h1024] | rw [h8] | rw [h16]))
                    go_ret
                    exact ⟨fret_int (by rw [HC.out _]; simp [visN, h1, h2, h4, h1024, h8, h16]), hb1⟩
                  | false =>
                    go_enter Tryz.func63, Tryz.ntmps63
                    go_wp2_with (first
                      | (go_at_call 80; refine (HL.out _).mono ?_; rintro e w1 ⟨⟨v, rfl, hv⟩, hb1⟩)
                      | (go_at_call 60; refine (HK.out _ _ hv).mono ?_; rintro e w2 ⟨rfl, rfl⟩)
                      | (go_at_call 29; refine (HH.out _ _).mono ?_; rintro e w3 ⟨rfl, rfl⟩; first | rw [h1] | rw [h2] | rw [h4] | rw [h1024] | rw [h8] | rw [h16]))
                    go_ret
                    exact ⟨fret_int (by rw [HC.out _]; simp [visN, h1, h2, h4, h1024, h8, h16]), hb1⟩
                | false =>
                  cases hini : (nm.toList == [60, 105, 110, 105, 116, 62]) with
                  | true =>
                    go_enter Tryz.func63, Tryz.ntmps63
                    go_wp2_with (first
                      | (go_at_call 80; refine (HL.out _).mono ?_; rintro e w1 ⟨⟨v, rfl, hv⟩, hb1⟩)
                      | (go_at_call 60; refine (HK.out _ _ hv).mono ?_; rintro e w2 ⟨rfl, rfl⟩)
                      | (go_at_call 29; refine (HH.out _ _).mono ?_; rintro e w3 ⟨rfl, rfl⟩; first | rw [h1] | rw [h2] | rw [h4] | rw [h1024] | rw [h8] | rw [h16]))
                    go_ret
                    exact ⟨fret_int (by rw [HC.out _]; simp [visN, h1, h2, h4, h1024, h8, h16]), hb1⟩
                  | false =>
                    go_enter Tryz.func63, Tryz.ntmps63
                    go_wp2_with (first
                      | (go_at_call 80; refine (HL.out _).mono ?_; rintro e w1 ⟨⟨v, rfl, hv⟩, hb1⟩)
                      | (go_at_call 60; refine (HK.out _ _ hv).mono ?_; rintro e w2 ⟨rfl, rfl⟩)
                      | (go_at_call 29; refine (HH.out _ _).mono ?_; rintro e w3 ⟨rfl, rfl⟩; first | rw [h1] | rw [h2] | rw [h4] | rw [h1024] | rw [h8] | rw [h16]))
                    go_ret
                    exact ⟨fret_int (by rw [HC.out _]; simp [visN, h1, h2, h4, h1024, h8, h16]), hb1⟩
          | false =>
            cases iface with
            | true =>
              cases h16 : hasI f 16 with
              | true =>
                go_enter Tryz.func63, Tryz.ntmps63
                go_wp2_with (first
                  | (go_at_call 80; refine (HL.out _).mono ?_; rintro e w1 ⟨⟨v, rfl, hv⟩, hb1⟩)
                  | (go_at_call 60; refine (HK.out _ _ hv).mono ?_; rintro e w2 ⟨rfl, rfl⟩)
                  | (go_at_call 29; refine (HH.out _ _).mono ?_; rintro e w3 ⟨rfl, rfl⟩; first | rw [h1] | rw [h2] | rw [h4] | rw [h1024] | rw [h16]))
                go_ret
                exact ⟨fret_int (by rw [HC.out _]; simp [visN, h1, h2, h4, h1024, h16]), hb1⟩
              | false =>
                cases hini : (nm.toList == [60, 105, 110, 105, 116, 62]) with
                | true =>
                  go_enter Tryz.func63, Tryz.ntmps63
                  go_wp2_with (first
                    | (go_at_call 80; refine (HL.out _).mono ?_; rintro e w1 ⟨⟨v, rfl, hv⟩, hb1⟩)
                    | (go_at_call 60; refine (HK.out _ _ hv).mono ?_; rintro e w2 ⟨rfl, rfl⟩)
                    | (go_at_call 29; refine (HH.out _ _).mono ?_; rintro e w3 ⟨rfl, rfl⟩; first | rw [h1] | rw [h2] | rw [h4] | rw [h1024] | rw [h16]))
                  go_ret
                  exact ⟨fret_int (by rw [HC.out _]; simp [visN, h1, h2, h4, h1024, h16]), hb1⟩
                | false =>
                  go_enter Tryz.func63, Tryz.ntmps63
                  go_wp2_with (first
                    | (go_at_call 80; refine (HL.out _).mono ?_; rintro e w1 ⟨⟨v, rfl, hv⟩, hb1⟩)
                    | (go_at_call 60; refine (HK.out _ _ hv).mono ?_; rintro e w2 ⟨rfl, rfl⟩)
                    | (go_at_call 29; refine (HH.out _ _).mono ?_; rintro e w3 ⟨rfl, rfl⟩; first | rw [h1] | rw [h2] | rw [h4] | rw [h1024] | rw [h16]))
                  go_ret
                  exact ⟨fret_int (by rw [HC.out _]; simp [visN, h1, h2, h4, h1024, h16]), hb1⟩
            | false =>
              cases hini : (nm.toList == [60, 105, 110, 105, 116, 62]) with
              | true =>
                cases h8 : hasI f 8 with
                | true =>
                  go_enter Tryz.func63, Tryz.ntmps63
                  go_wp2_with (first
                    | (go_at_call 80; refine (HL.out _).mono ?_; rintro e w1 ⟨⟨v, rfl, hv⟩, hb1⟩)
                    | (go_at_call 60; refine (HK.out _ _ hv).mono ?_; rintro e w2 ⟨rfl, rfl⟩)
                    | (go_at_call 29; refine (HH.out _ _).mono ?_; rintro e w3 ⟨rfl, rfl⟩; first | rw [h1] | rw [h2] | rw [h4] | rw [h1024] | rw [h8]))
                  go_ret
                  exact ⟨fret_int (by rw [HC.out _]; simp [visN, h1, h2, h4, h1024, h8]), hb1⟩
                | false =>
                  cases h16 : hasI f 16 with
                  | true =>
                    go_enter Tryz.func63, Tryz.ntmps63
                    go_wp2_with (first
                      | (go_at_call 80; refine (HL.out _).mono ?_; rintro e w1 ⟨⟨v, rfl, hv⟩, hb1⟩)
                      | (go_at_call 60; refine (HK.out _ _ hv).mono ?_; rintro e w2 ⟨rfl, rfl⟩)
                      | (go_at_call 29; refine (HH.out _ _).mono ?_; rintro e w3 ⟨rfl, rfl⟩; first | rw [h1] | rw [h2] | rw [h4] | rw [h1024] | rw [h8] | rw [h16]))
                    go_ret
                    exact ⟨fret_int (by rw [HC.out _]; simp [visN, h1, h2, h4, h1024, h8, h16]), hb1⟩
                  | false =>
                    go_enter Tryz.func63, Tryz.ntmps63
                    go_wp2_with (first
                      | (go_at_call 80; refine (HL.out _).mono ?_; rintro e w1 ⟨⟨v, rfl, hv⟩, hb1⟩)
                      | (go_at_call 60; refine (HK.out _ _ hv).mono ?_; rintro e w2 ⟨rfl, rfl⟩)
                      | (go_at_call 29; refine (HH.out _ _).mono ?_; rintro e w3 ⟨rfl, rfl⟩; first | rw [h1] | rw [h2] | rw [h4] | rw [h1024] | rw [h8] | rw [h16]))
                    go_ret
                    exact ⟨fret_int (by rw [HC.out _]; simp [visN, h1, h2, h4, h1024, h8, h16]), hb1⟩
              | false =>
                go_enter Tryz.func63, Tryz.ntmps63
                go_wp2_with (first
                  | (go_at_call 80; refine (HL.out _).mono ?_; rintro e w1 ⟨⟨v, rfl, hv⟩, hb1⟩)
                  | (go_at_call 60; refine (HK.out _ _ hv).mono ?_; rintro e w2 ⟨rfl, rfl⟩)
                  | (go_at_call 29; refine (HH.out _ _).mono ?_; rintro e w3 ⟨rfl, rfl⟩; first | rw [h1] | rw [h2] | rw [h4] | rw [h1024]))
                go_ret
                exact ⟨fret_int (by rw [HC.out _]; simp [visN, h1, h2, h4, h1024]), hb1⟩
    | false =>
      cases h2 : hasI f 2 with
      | true =>
        cases h4 : hasI f 4 with
        | true =>
          go_enter Tryz.func63, Tryz.ntmps63
          go_wp2_with (first
            | (go_at_call 80; refine (HL.out _).mono ?_; rintro e w1 ⟨⟨v, rfl, hv⟩, hb1⟩)
            | (go_at_call 60; refine (HK.out _ _ hv).mono ?_; rintro e w2 ⟨rfl, rfl⟩)
            | (go_at_call 29; refine (HH.out _ _).mono ?_; rintro e w3 ⟨rfl, rfl⟩; first | rw [h1] | rw [h2] | rw [h4]))
          go_ret
          exact ⟨fret_int (by rw [HC.out _]; simp [visN, h1, h2, h4]), hb1⟩
        | false =>
          cases h1024 : hasI f 1024 with
          | true =>
            go_enter Tryz.func63, Tryz.ntmps63
            go_wp2_with (first
              | (go_at_call 80; refine (HL.out _).mono ?_; rintro e w1 ⟨⟨v, rfl, hv⟩, hb1⟩)
              | (go_at_call 60; refine (HK.out _ _ hv).mono ?_; rintro e w2 ⟨rfl, rfl⟩)
              | (go_at_call 29; refine (HH.out _ _).mono ?_; rintro e w3 ⟨rfl, rfl⟩; first | rw [h1] | rw [h2] | rw [h4] | rw [h1024]))
            go_ret
            exact ⟨fret_int (by rw [HC.out _]; simp [visN, h1, h2, h4, h1024]), hb1⟩
          | false =>
            cases iface with
            | true =>
              cases h16 : hasI f 16 with
              | true =>
                go_enter Tryz.func63, Tryz.ntmps63
                go_wp2_with (first
                  | (go_at_call 80; refine (HL.out _).mono ?_; rintro e w1 ⟨⟨v, rfl, hv⟩, hb1⟩)
                  | (go_at_call 60; refine (HK.out _ _ hv).mono ?_; rintro e w2 ⟨rfl, rfl⟩)
                  | (go_at_call 29; refine (HH.out _ _).mono ?_; rintro e w3 ⟨rfl, rfl⟩; first | rw [h1] | rw [h2] | rw [h4] | rw [h1024] | rw [h16]))
                go_ret
                exact ⟨fret_int (by rw [HC.out _]; simp [visN, h1, h2, h4, h1024, h16]), hb1⟩
              | false =>
                cases hini : (nm.toList == [60, 105, 110, 105, 116, 62]) with
                | true =>
                  go_enter Tryz.func63, Tryz.ntmps63
                  go_wp2_with (first
                    | (go_at_call 80; refine (HL.out _).mono ?_; rintro e w1 ⟨⟨v, rfl, hv⟩, hb1⟩)
                    | (go_at_call 60; refine (HK.out _ _ hv).mono ?_; rintro e w2 ⟨rfl, rfl⟩)
                    | (go_at_call 29; refine (HH.out _ _).mono ?_; rintro e w3 ⟨rfl, rfl⟩; first | rw [h1] | rw [h2] | rw [h4] | rw [h1024] | rw [h16]))
                  go_ret
                  exact ⟨fret_int (by rw [HC.out _]; simp [visN, h1, h2, h4, h1024, h16]), hb1⟩
                | false =>
                  go_enter Tryz.func63, Tryz.ntmps63
                  go_wp2_with (first
                    | (go_at_call 80; refine (HL.out _).mono ?_; rintro e w1 ⟨⟨v, rfl, hv⟩, hb1⟩)
                    | (go_at_call 60; refine (HK.out _ _ hv).mono ?_; rintro e w2 ⟨rfl, rfl⟩)
                    | (go_at_call 29; refine (HH.out _ _).mono ?_; rintro e w3 ⟨rfl, rfl⟩; first | rw [h1] | rw [h2] | rw [h4] | rw [h1024] | rw [h16]))
                  go_ret
                  exact ⟨fret_int (by rw [HC.out _]; simp [visN, h1, h2, h4, h1024, h16]), hb1⟩
            | false =>
              cases hini : (nm.toList == [60, 105, 110, 105, 116, 62]) with
              | true =>
                cases h8 : hasI f 8 with
                | true =>
                  go_enter Tryz.func63, Tryz.ntmps63
                  go_wp2_with (first
                    | (go_at_call 80; refine (HL.out _).mono ?_; rintro e w1 ⟨⟨v, rfl, hv⟩, hb1⟩)
                    | (go_at_call 60; refine (HK.out _ _ hv).mono ?_; rintro e w2 ⟨rfl, rfl⟩)
                    | (go_at_call 29; refine (HH.out _ _).mono ?_; rintro e w3 ⟨rfl, rfl⟩; first | rw [h1] | rw [h2] | rw [h4] | rw [h1024] | rw [h8]))
                  go_ret
                  exact ⟨fret_int (by rw [HC.out _]; simp [visN, h1, h2, h4, h1024, h8]), hb1⟩
                | false =>
                  cases h16 : hasI f 16 with
                  | true =>
                    go_enter Tryz.func63, Tryz.ntmps63
                    go_wp2_with (first
                      | (go_at_call 80; refine (HL.out _).mono ?_; rintro e w1 ⟨⟨v, rfl, hv⟩, hb1⟩)
                      | (go_at_call 60; refine (HK.out _ _ hv).mono ?_; rintro e w2 ⟨rfl, rfl⟩)
                      | (go_at_call 29; refine (HH.out _ _).mono ?_; rintro e w3 ⟨rfl, rfl⟩; first | rw [h1] | rw [h2] | rw [h4] | rw [h1024] | rw [h8] | rw [h16]))
                    go_ret
                    exact ⟨fret_int (by rw [HC.out _]; simp [visN, h1, h2, h4, h1024, h8, h16]), hb1⟩
                  | false =>
                    go_enter Tryz.func63, Tryz.ntmps63
                    go_wp2_with (first
                      | (go_at_call 80; refine (HL.out _).mono ?_; rintro e w1 ⟨⟨v, rfl, hv⟩, hb1⟩)
                      | (go_at_call 60; refine (HK.out _ _ hv).mono ?_; rintro e w2 ⟨rfl, rfl⟩)
                      | (go_at_call 29; refine (HH.out _ _).mono ?_; rintro e w3 ⟨rfl, rfl⟩; first | rw [h1] | rw [h2] | rw [h4] | rw [h1024] | rw [h8] | rw [h16]))
                    go_ret
                    exact ⟨fret_int (by rw [HC.out _]; simp [visN, h1, h2, h4, h1024, h8, h16]), hb1⟩
              | false =>
                go_enter Tryz.func63, Tryz.ntmps63
                go_wp2_with (first
                  | (go_at_call 80; refine (HL.out _).mono ?_; rintro e w1 ⟨⟨v, rfl, hv⟩, hb1⟩)
                  | (go_at_call 60; refine (HK.out _ _ hv).mono ?_; rintro e w2 ⟨rfl, rfl⟩)
                  | (go_at_call 29; refine (HH.out _ _).mono ?_; rintro e w3 ⟨rfl, rfl⟩; first | rw [h1] | rw [h2] | rw [h4] | rw [h1024]))
                go_ret
                exact ⟨fret_int (by rw [HC.out _]; simp [visN, h1, h2, h4, h1024]), hb1⟩
      | false =>
        cases h4 : hasI f 4 with
        | true =>
          cases h1024 : hasI f 1024 with
          | true =>
            cases h8 : hasI f 8 with
            | true =>
              go_enter Tryz.func63, Tryz.ntmps63
              go_wp2_with (first
                | (go_at_call 80; refine (HL.out _).mono ?_; rintro e w1 ⟨⟨v, rfl, hv⟩, hb1⟩)
                | (go_at_call 60; refine (HK.out _ _ hv).mono ?_; rintro e w2 ⟨rfl, rfl⟩)
                | (go_at_call 29; refine (HH.out _ _).mono ?_; rintro e w3 ⟨rfl, rfl⟩; first | rw [h1] | rw [h2] | rw [h4] | rw [h1024] | rw [h8]))
              go_ret
              exact ⟨fret_int (by rw [HC.out _]; simp [visN, h1, h2, h4, h1024, h8]), hb1⟩
            | false =>
              cases h16 : hasI f 16 with
              | true =>
                go_enter Tryz.func63, Tryz.ntmps63
                go_wp2_with (first
                  | (go_at_call 80; refine (HL.out _).mono ?_; rintro e w1 ⟨⟨v, rfl, hv⟩, hb1⟩)
                  | (go_at_call 60; refine (HK.out _ _ hv).mono ?_; rintro e w2 ⟨rfl, rfl⟩)
                  | (go_at_call 29; refine (HH.out _ _).mono ?_; rintro e w3 ⟨rfl, rfl⟩; first | rw [h1] | rw [h2] | rw [h4] | rw [h1024] | rw [h8] | rw [h16]))
                go_ret
                exact ⟨fret_int (by rw [HC.out _]; simp [visN, h1, h2, h4, h1024, h8, h16]), hb1⟩
              | false =>
                cases iface with
                | true =>
                  go_enter Tryz.func63, Tryz.ntmps63
                  go_wp2_with (first
                    | (go_at_call 80; refine (HL.out _).mono ?_; rintro e w1 ⟨⟨v, rfl, hv⟩, hb1⟩)
                    | (go_at_call 60; refine (HK.out _ _ hv).mono ?_; rintro e w2 ⟨rfl, rfl⟩)
                    | (go_at_call 29; refine (HH.out _ _).mono ?_; rintro e w3 ⟨rfl, rfl⟩; first | rw [h1] | rw [h2] | rw [h4] | rw [h1024] | rw [h8] | rw [h16]))
                  go_ret
                  exact ⟨fret_int (by rw [HC.out _]; simp [visN, h1, h2, h4, h1024, h8, h16]), hb1⟩
                | false =>
                  cases hini : (nm.toList == [60, 105, 110, 105, 116, 62]) with
                  | true =>
                    go_enter Tryz.func63, Tryz.ntmps63
                    go_wp2_with (first
                      | (go_at_call 80; refine (HL.out _).mono ?_; rintro e w1 ⟨⟨v, rfl, hv⟩, hb1⟩)
                      | (go_at_call 60; refine (HK.out _ _ hv).mono ?_; rintro e w2 ⟨rfl, rfl⟩)
                      | (go_at_call 29; refine (HH.out _ _).mono ?_; rintro e w3 ⟨rfl, rfl⟩; first | rw [h1] | rw [h2] | rw [h4] | rw [h1024] | rw [h8] | rw [h16]))
                    go_ret
                    exact ⟨fret_int (by rw [HC.out _]; simp [visN, h1, h2, h4, h1024, h8, h16]), hb1⟩
                  | false =>
                    go_enter Tryz.func63, Tryz.ntmps63
                    go_wp2_with (first
                      | (go_at_call 80; refine (HL.out _).mono ?_; rintro e w1 ⟨⟨v, rfl, hv⟩, hb1⟩)
                      | (go_at_call 60; refine (HK.out _ _ hv).mono ?_; rintro e w2 ⟨rfl, rfl⟩)
                      | (go_at_call 29; refine (HH.out _ _).mono ?_; rintro e w3 ⟨rfl, rfl⟩; first | rw [h1] | rw [h2] | rw [h4] | rw [h1024] | rw [h8] | rw [h16]))
                    go_ret
                    exact ⟨fret_int (by rw [HC.out _]; simp [visN, h1, h2, h4, h1024, h8, h16]), hb1⟩
          | false =>
            cases iface with
            | true =>
              go_enter Tryz.func63, Tryz.ntmps63
              go_wp2_with (first
                | (go_at_call 80; refine (HL.out _).mono ?_; rintro e w1 ⟨⟨v, rfl, hv⟩, hb1⟩)
                | (go_at_call 60; refine (HK.out _ _ hv).mono ?_; rintro e w2 ⟨rfl, rfl⟩)
                | (go_at_call 29; refine (HH.out _ _).mono ?_; rintro e w3 ⟨rfl, rfl⟩; first | rw [h1] | rw [h2] | rw [h4] | rw [h1024]))
              go_ret
              exact ⟨fret_int (by rw [HC.out _]; simp [visN, h1, h2, h4, h1024]), hb1⟩
            | false =>
              cases hini : (nm.toList == [60, 105, 110, 105, 116, 62]) with
              | true =>
                cases h8 : hasI f 8 with
                | true =>
                  go_enter Tryz.func63, Tryz.ntmps63
                  go_wp2_with (first
                    | (go_at_call 80; refine (HL.out _).mono ?_; rintro e w1 ⟨⟨v, rfl, hv⟩, hb1⟩)
                    | (go_at_call 60; refine (HK.out _ _ hv).mono ?_; rintro e w2 ⟨rfl, rfl⟩)
                    | (go_at_call 29; refine (HH.out _ _).mono ?_; rintro e w3 ⟨rfl, rfl⟩; first | rw [h1] | rw [h2] | rw [h4] | rw [h1024] | rw [h8]))
                  go_ret
                  exact ⟨fret_int (by rw [HC.out _]; simp [visN, h1, h2, h4, h1024, h8]), hb1⟩
                | false =>
                  cases h16 : hasI f 16 with
                  | true =>
                    go_enter Tryz.func63, Tryz.ntmps63
                    go_wp2_with (first
                      | (go_at_call 80; refine (HL.out _).mono ?_; rintro e w1 ⟨⟨v, rfl, hv⟩, hb1⟩)
                      | (go_at_call 60; refine (HK.out _ _ hv).mono ?_; rintro e w2 ⟨rfl, rfl⟩)
                      | (go_at_call 29; refine (HH.out _ _).mono ?_; rintro e w3 ⟨rfl, rfl⟩; first | rw [h1] | rw [h2] | rw [h4] | rw [h1024] | rw [h8] | rw [h16]))
                    go_ret
                    exact ⟨fret_int (by rw [HC.out _]; simp [visN, h1, h2, h4, h1024, h8, h16]), hb1⟩
                  | false =>
                    go_enter Tryz.func63, Tryz.ntmps63
                    go_wp2_with (first
                      | (go_at_call 80; refine (HL.out _).mono ?_; rintro e w1 ⟨⟨v, rfl, hv⟩, hb1⟩)
                      | (go_at_call 60; refine (HK.out _ _ hv).mono ?_; rintro e w2 ⟨rfl, rfl⟩)
                      | (go_at_call 29; refine (HH.out _ _).mono ?_; rintro e w3 ⟨rfl, rfl⟩; first | rw [h1] | rw [h2] | rw [h4] | rw [h1024] | rw [h8] | rw [h16]))
                    go_ret
                    exact ⟨fret_int (by rw [HC.out _]; simp [visN, h1, h2, h4, h1024, h8, h16]), hb1⟩
              | false =>
                go_enter Tryz.func63, Tryz.ntmps63
                go_wp2_with (first
                  | (go_at_call 80; refine (HL.out _).mono ?_; rintro e w1 ⟨⟨v, rfl, hv⟩, hb1⟩)
                  | (go_at_call 60; refine (HK.out _ _ hv).mono ?_; rintro e w2 ⟨rfl, rfl⟩)
                  | (go_at_call 29; refine (HH.out _ _).mono ?_; rintro e w3 ⟨rfl, rfl⟩; first | rw [h1] | rw [h2] | rw [h4] | rw [h1024]))
                go_ret
                exact ⟨fret_int (by rw [HC.out _]; simp [visN, h1, h2, h4, h1024]), hb1⟩
        | false =>
          cases h1024 : hasI f 1024 with
          | true =>
            cases h8 : hasI f 8 with
            | true =>
              go_enter Tryz.func63, Tryz.ntmps63
              go_wp2_with (first
                | (go_at_call 80; refine (HL.out _).mono ?_; rintro e w1 ⟨⟨v, rfl, hv⟩, hb1⟩)
                | (go_at_call 60; refine (HK.out _ _ hv).mono ?_; rintro e w2 ⟨rfl, rfl⟩)
                | (go_at_call 29; refine (HH.out _ _).mono ?_; rintro e w3 ⟨rfl, rfl⟩; first | rw [h1] | rw [h2] | rw [h4] | rw [h1024] | rw [h8]))
              go_ret
              exact ⟨fret_int (by rw [HC.out _]; simp [visN, h1, h2, h4, h1024, h8]), hb1⟩
            | false =>
              cases h16 : hasI f 16 with
              | true =>
                go_enter Tryz.func63, Tryz.ntmps63
                go_wp2_with (first
                  | (go_at_call 80; refine (HL.out _).mono ?_; rintro e w1 ⟨⟨v, rfl, hv⟩, hb1⟩)
                  | (go_at_call 60; refine (HK.out _ _ hv).mono ?_; rintro e w2 ⟨rfl, rfl⟩)
                  | (go_at_call 29; refine (HH.out _ _).mono ?_; rintro e w3 ⟨rfl, rfl⟩; first | rw [h1] | rw [h2] | rw [h4] | rw [h1024] | rw [h8] | rw [h16]))
                go_ret
                exact ⟨fret_int (by rw [HC.out _]; simp [visN, h1, h2, h4, h1024, h8, h16]), hb1⟩
              | false =>
                cases iface with
                | true =>
                  go_enter Tryz.func63, Tryz.ntmps63
                  go_wp2_with (first
                    | (go_at_call 80; refine (HL.out _).mono ?_; rintro e w1 ⟨⟨v, rfl, hv⟩, hb1⟩)
                    | (go_at_call 60; refine (HK.out _ _ hv).mono ?_; rintro e w2 ⟨rfl, rfl⟩)
                    | (go_at_call 29; refine (HH.out _ _).mono ?_; rintro e w3 ⟨rfl, rfl⟩; first | rw [h1] | rw [h2] | rw [h4] | rw [h1024] | rw [h8] | rw [h16]))
                  go_ret
                  exact ⟨fret_int (by rw [HC.out _]; simp [visN, h1, h2, h4, h1024, h8, h16]), hb1⟩
                | false =>
                  cases hini : (nm.toList == [60, 105, 110, 105, 116, 62]) with
                  | true =>
                    go_enter Tryz.func63, Tryz.ntmps63
                    go_wp2_with (first
                      | (go_at_call 80; refine (HL.out _).mono ?_; rintro e w1 ⟨⟨v, rfl, hv⟩, hb1⟩)
                      | (go_at_call 60; refine (HK.out _ _ hv).mono ?_; rintro e w2 ⟨rfl, rfl⟩)
                      | (go_at_call 29; refine (HH.out _ _).mono ?_; rintro e w3 ⟨rfl, rfl⟩; first | rw [h1] | rw [h2] | rw [h4] | rw [h1024] | rw [h8] | rw [h16]))
                    go_ret
                    exact ⟨fret_int (by rw [HC.out _]; simp [visN, h1, h2, h4, h1024, h8, h16]), hb1⟩
                  | false =>
                    go_enter Tryz.func63, Tryz.ntmps63
                    go_wp2_with (first
                      | (go_at_call 80; refine (HL.out _).mono ?_; rintro e w1 ⟨⟨v, rfl, hv⟩, hb1⟩)
                      | (go_at_call 60; refine (HK.out _ _ hv).mono ?_; rintro e w2 ⟨rfl, rfl⟩)
                      | (go_at_call 29; refine (HH.out _ _).mono ?_; rintro e w3 ⟨rfl, rfl⟩; first | rw [h1] | rw [h2] | rw [h4] | rw [h1024] | rw [h8] | rw [h16]))
                    go_ret
                    exact ⟨fret_int (by rw [HC.out _]; simp [visN, h1, h2, h4, h1024, h8, h16]), hb1⟩
          | false =>
            cases iface with
            | true =>
              cases h16 : hasI f 16 with
              | true =>
                go_enter Tryz.func63, Tryz.ntmps63
                go_wp2_with (first
                  | (go_at_call 80; refine (HL.out _).mono ?_; rintro e w1 ⟨⟨v, rfl, hv⟩, hb1⟩)
                  | (go_at_call 60; refine (HK.out _ _ hv).mono ?_; rintro e w2 ⟨rfl, rfl⟩)
                  | (go_at_call 29; refine (HH.out _ _).mono ?_; rintro e w3 ⟨rfl, rfl⟩; first | rw [h1] | rw [h2] | rw [h4] | rw [h1024] | rw [h16]))
                go_ret
                exact ⟨fret_int (by rw [HC.out _]; simp [visN, h1, h2, h4, h1024, h16]), hb1⟩
              | false =>
                go_enter Tryz.func63, Tryz.ntmps63
                go_wp2_with (first
                  | (go_at_call 80; refine (HL.out _).mono ?_; rintro e w1 ⟨⟨v, rfl, hv⟩, hb1⟩)
                  | (go_at_call 60; refine (HK.out _ _ hv).mono ?_; rintro e w2 ⟨rfl, rfl⟩)
                  | (go_at_call 29; refine (HH.out _ _).mono ?_; rintro e w3 ⟨rfl, rfl⟩; first | rw [h1] | rw [h2] | rw [h4] | rw [h1024] | rw [h16]))
                go_ret
                exact ⟨fret_int (by rw [HC.out _]; simp [visN, h1, h2, h4, h1024, h16]), hb1⟩
            | false =>
              cases hini : (nm.toList == [60, 105, 110, 105, 116, 62]) with
              | true =>
                cases h8 : hasI f 8 with
                | true =>
                  go_enter Tryz.func63, Tryz.ntmps63
                  go_wp2_with (first
                    | (go_at_call 80; refine (HL.out _).mono ?_; rintro e w1 ⟨⟨v, rfl, hv⟩, hb1⟩)
                    | (go_at_call 60; refine (HK.out _ _ hv).mono ?_; rintro e w2 ⟨rfl, rfl⟩)
                    | (go_at_call 29; refine (HH.out _ _).mono ?_; rintro e w3 ⟨rfl, rfl⟩; first | rw [h1] | rw [h2] | rw [h4] | rw [h1024] | rw [h8]))
                  go_ret
                  exact ⟨fret_int (by rw [HC.out _]; simp [visN, h1, h2, h4, h1024, h8]), hb1⟩
                | false =>
                  cases h16 : hasI f 16 with
                  | true =>
                    go_enter Tryz.func63, Tryz.ntmps63
                    go_wp2_with (first
                      | (go_at_call 80; refine (HL.out _).mono ?_; rintro e w1 ⟨⟨v, rfl, hv⟩, hb1⟩)
                      | (go_at_call 60; refine (HK.out _ _ hv).mono ?_; rintro e w2 ⟨rfl, rfl⟩)
                      | (go_at_call 29; refine (HH.out _ _).mono ?_; rintro e w3 ⟨rfl, rfl⟩; first | rw [h1] | rw [h2] | rw [h4] | rw [h1024] | rw [h8] | rw [h16]))
                    go_ret
                    exact ⟨fret_int (by rw [HC.out _]; simp [visN, h1, h2, h4, h1024, h8, h16]), hb1⟩
                  | false =>
                    go_enter Tryz.func63, Tryz.ntmps63
                    go_wp2_with (first
                      | (go_at_call 80; refine (HL.out _).mono ?_; rintro e w1 ⟨⟨v, rfl, hv⟩, hb1⟩)
                      | (go_at_call 60; refine (HK.out _ _ hv).mono ?_; rintro e w2 ⟨rfl, rfl⟩)
                      | (go_at_call 29; refine (HH.out _ _).mono ?_; rintro e w3 ⟨rfl, rfl⟩; first | rw [h1] | rw [h2] | rw [h4] | rw [h1024] | rw [h8] | rw [h16]))
                    go_ret
                    exact ⟨fret_int (by rw [HC.out _]; simp [visN, h1, h2, h4, h1024, h8, h16]), hb1⟩
              | false =>
                go_enter Tryz.func63, Tryz.ntmps63
                go_wp2_with (first
                  | (go_at_call 80; refine (HL.out _).mono ?_; rintro e w1 ⟨⟨v, rfl, hv⟩, hb1⟩)
                  | (go_at_call 60; refine (HK.out _ _ hv).mono ?_; rintro e w2 ⟨rfl, rfl⟩)
                  | (go_at_call 29; refine (HH.out _ _).mono ?_; rintro e w3 ⟨rfl, rfl⟩; first | rw [h1] | rw [h2] | rw [h4] | rw [h1024]))
                go_ret
                exact ⟨fret_int (by rw [HC.out _]; simp [visN, h1, h2, h4, h1024]), hb1⟩

end Go.Proofs.YtfbhjfpkhofifaaGreatDoor
