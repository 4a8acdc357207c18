/- The walk of the document's Parse (arbiterref04): an instruction from its line; what was there before stays. -/
import Derived.Test.YtfbhjfpkhofifaaGreatDoorCodeG
import Derived.Test.YtfbhjfpkhofifaaGreatDoorCodeH
import Derived.Test.YtfbhjfpkhofifaaGreatDoorCodeI
import Derived.Test.YtfbhjfpkhofifaaGreatDoorCodeL
namespace Go.Proofs.YtfbhjfpkhofifaaGreatDoor
open Go.RowKit

def zero7 : Array Value := #[.int .i64 0, .int .i64 0, .string ⟨#[]⟩, .bool false, .string ⟨#[]⟩, .string ⟨#[]⟩, .string ⟨#[]⟩]
/-- a block that holds the zero instruction -/
def ZB (w : World) (b : Nat) : Prop := w.heap[b]? = some (.cells zero7 73 (0, 0))

theorem ZB.keep {w w' : World} {N b : Nat} (h : ZB w b) (hb : Below N w w') (hlt : b < N) : ZB w' b := by
  unfold ZB; rw [hb.block _ hlt]; exact h

theorem ZB.facts {w : World} {b : Nat} (h : ZB w b) : w.cell? ⟨b, 0, none⟩ = some (.int .i64 0) ∧ w.cell? ⟨b, 1, none⟩ = some (.int .i64 0) ∧ w.cell? ⟨b, 2, none⟩ = some (.string ⟨#[]⟩) ∧ w.cell? ⟨b, 3, none⟩ = some (.bool false) ∧ w.cell? ⟨b, 4, none⟩ = some (.string ⟨#[]⟩) ∧ w.cell? ⟨b, 5, none⟩ = some (.string ⟨#[]⟩) ∧ w.cell? ⟨b, 6, none⟩ = some (.string ⟨#[]⟩) ∧
    w.frozen? ⟨b, 0, none⟩ = false ∧ w.frozen? ⟨b, 1, none⟩ = false ∧ w.frozen? ⟨b, 2, none⟩ = false ∧ w.frozen? ⟨b, 3, none⟩ = false ∧ w.frozen? ⟨b, 4, none⟩ = false ∧ w.frozen? ⟨b, 5, none⟩ = false ∧ w.frozen? ⟨b, 6, none⟩ = false := by
  unfold ZB at h
  refine ⟨?_, ?_, ?_, ?_, ?_, ?_, ?_, ?_, ?_, ?_, ?_, ?_, ?_, ?_⟩
  · rw [cell_of_row _ b 0 _ 73 (0, 0) h]; rfl
  · rw [cell_of_row _ b 1 _ 73 (0, 0) h]; rfl
  · rw [cell_of_row _ b 2 _ 73 (0, 0) h]; rfl
  · rw [cell_of_row _ b 3 _ 73 (0, 0) h]; rfl
  · rw [cell_of_row _ b 4 _ 73 (0, 0) h]; rfl
  · rw [cell_of_row _ b 5 _ 73 (0, 0) h]; rfl
  · rw [cell_of_row _ b 6 _ 73 (0, 0) h]; rfl
  all_goals simp [World.frozen?, h]

theorem own_words {w : World} {base : Nat} {v : Value} {ps : List (List UInt8)} (h : w.ownsRow base 9 1 v ps.length (ps.map strV)) (hne : ps ≠ []) :
    ∃ g cap, v = .slice (some ⟨g, 0, none⟩) ps.length cap ∧ ps.length ≤ cap ∧ cap ≤ maxLen ∧ base ≤ g ∧ g < w.heap.size ∧ ∀ j p, ps[j]? = some p → w.cell? ⟨g, j, none⟩ = some (.string ⟨p.toArray⟩) := by
  have h' := h
  rcases h.2 with ⟨rfl, h0⟩ | ⟨g, cap, cur, rfl, hb, hg, hn, hm, _, _⟩
  · exact absurd (List.length_eq_zero_iff.1 h0) hne
  · refine ⟨g, cap, rfl, hn, hm, hb, (Array.getElem?_eq_some_iff.1 hg).1, fun j p hj => ?_⟩
    have hlt : j < ps.length := (List.getElem?_eq_some_iff.1 hj).1
    rw [h'.cellAt j (by omega), List.getElem?_map, hj]; rfl

def zeroI : Ins := ⟨0, 0, ⟨#[]⟩, false, ⟨#[]⟩, ⟨#[]⟩, ⟨#[]⟩⟩
/-- the instruction that a line's words give, by the kind of its operand -/
def candI (k : Int) (o : Nat) (ps : List (List UInt8)) : Option Ins :=
  if k = -1 ∨ k = 0 then (if ps.length = 1 then some ⟨o, 0, ⟨#[]⟩, false, ⟨#[]⟩, ⟨#[]⟩, ⟨#[]⟩⟩ else none)
  else if k = 1 ∨ k = 2 ∨ k = 3 then (if ps.length = 2 ∧ (numR (ps.getD 1 [])).2 = true then some ⟨o, (numR (ps.getD 1 [])).1, ⟨#[]⟩, false, ⟨#[]⟩, ⟨#[]⟩, ⟨#[]⟩⟩ else none)
  else if k = 4 ∨ k = 5 ∨ k = 6 then (if ps.length = 2 then some ⟨o, 0, ⟨(ps.getD 1 []).toArray⟩, false, ⟨#[]⟩, ⟨#[]⟩, ⟨#[]⟩⟩ else none)
  else if k = 7 then (if ps.length = 3 ∧ (numR (ps.getD 1 [])).2 = true then some ⟨o, (numR (ps.getD 1 [])).1, ⟨(ps.getD 2 []).toArray⟩, false, ⟨#[]⟩, ⟨#[]⟩, ⟨#[]⟩⟩ else none)
  else (if ps.length = 2 ∧ rfOK (ps.getD 1 []) = true then some ⟨o, 0, ⟨#[]⟩, rfB (ps.getD 1 []), ⟨(rfC (ps.getD 1 [])).toArray⟩, ⟨(rfN (ps.getD 1 [])).toArray⟩, ⟨(rfD (ps.getD 1 [])).toArray⟩⟩ else none)
def parI (k : Int) (o : Nat) (ps : List (List UInt8)) : Option Ins := match candI k o ps with
  | some i => if ickI i = 0 then some i else none
  | none => none
def outI : Option Ins → Value
  | some i => .tuple #[insV i, .int .i64 0]
  | none => .tuple #[insV zeroI, .int .i64 4]

theorem parI_no {k : Int} {o : Nat} {ps : List (List UInt8)} (h : candI k o ps = none) : outI (parI k o ps) = .tuple #[insV zeroI, .int .i64 4] := by rw [parI, h]; rfl
theorem parI_bad {k : Int} {o : Nat} {ps : List (List UInt8)} {i : Ins} (h : candI k o ps = some i) (hi : ickI i ≠ 0) : outI (parI k o ps) = .tuple #[insV zeroI, .int .i64 4] := by rw [parI, h]; simp only; rw [if_neg hi]; rfl
theorem parI_yes {k : Int} {o : Nat} {ps : List (List UInt8)} {i : Ins} (h : candI k o ps = some i) (hi : ickI i = 0) : outI (parI k o ps) = .tuple #[insV i, .int .i64 0] := by rw [parI, h]; simp only; rw [if_pos hi]; rfl

theorem opFrom_le (l : List UInt8) : ∀ (ws : List (List UInt8)) (i : Nat), opFrom l i ws ≤ i + ws.length := by
  intro ws
  induction ws with
  | nil => intro i; simp [opFrom]
  | cons x r ih =>
    intro i
    rw [opFrom]
    split
    · omega
    · have := ih (i + 1); rw [List.length_cons]; omega
theorem op_le (l : List UInt8) : opOf l ≤ 41 := by
  have := opFrom_le l (wordsL.drop 1) 1
  rw [List.length_drop, words_size] at this
  exact this

set_option maxRecDepth 100000 in
set_option maxHeartbeats 800000 in
theorem parse_0_cnt (s : ByteArray) (hs : s.size ≤ 1099511627776) (p0 : List UInt8) (rest : List (List UInt8)) (hps : cutL 32 s.data.toList = p0 :: rest) (hk : opdI (opOf p0) = 0) (hc : (p0 :: rest).length ≠ 1) (w : World) : Calls Tryz.prog 49 #[.string s] w fun e w' => e = .returned (outI (parI (0) (opOf p0) (p0 :: rest))) ∧ Below w.heap.size w w' := by
  have HCUT0 := rCut_any 32 s hs
  rw [hps] at HCUT0
  have HOP0 := rOp_any ⟨p0.toArray⟩
  have HO0 := rOperand_any (opOf p0)
  rw [hk] at HO0
  have hob : opOf p0 ≤ 41 := op_le p0
  obtain ⟨P0, hP0⟩ : ∃ P : ByteArray, P = ⟨p0.toArray⟩ := ⟨_, rfl⟩
  obtain ⟨o, ho⟩ : ∃ o, o = opOf p0 := ⟨_, rfl⟩
  simp only at HOP0
  rw [← ho] at HOP0 HO0 hob ⊢
  rw [← hP0] at HOP0
  have HO : Hid (∀ w, _) := HO0
  have HOP : Hid (∀ w, _) := HOP0
  clear HO0 HOP0
  obtain ⟨ps, hpe⟩ : ∃ ps, ps = p0 :: rest := ⟨_, rfl⟩
  have hpn : ps ≠ [] := by rw [hpe]; simp
  have hp0 : ps[0]? = some p0 := by rw [hpe]; rfl
  rw [← hpe] at HCUT0 ⊢
  obtain ⟨cnt, hcnt⟩ : ∃ cnt, ps.length = cnt := ⟨_, rfl⟩
  have hcnt0 : 0 < cnt := by rw [← hcnt, hpe]; simp
  rw [← hpe, hcnt] at hc
  have HR : Hid _ := parI_no (k := 0) (o := o) (ps := ps) (by rw [candI, if_pos (by decide), if_neg (by rw [hcnt]; exact hc)])
  have HCUT : Hid (∀ w, Calls Tryz.prog 45 #[.string s, .int .u8 32] w fun e w' => ∃ g cap, e = .returned (.slice (some ⟨g, 0, none⟩) cnt cap) ∧ cnt ≤ cap ∧ cap ≤ 9223372036854775807 ∧ w.heap.size ≤ g ∧ g < w'.heap.size ∧ w'.cell? ⟨g, 0, none⟩ = some (.string P0) ∧ Hid (True) ∧ Below w.heap.size w w') := fun w => (HCUT0 w).mono fun e w' ⟨v, he, ho1, hb⟩ => by
    obtain ⟨g, cap, rfl, h1, h2, h3, h4, h5⟩ := own_words ho1 hpn
    rw [hcnt] at he h1
    unfold maxLen at h2
    exact ⟨g, cap, he, h1, h2, h3, h4, by rw [hP0]; exact h5 0 p0 hp0, trivial, hb⟩
  clear HCUT0 hP0 hpe
  have hcn : ((cnt : Int) != 1) = true := by rw [bne_iff_ne]; omega
  clear hk hps ho hpn hp0 hcnt
  go_enter Tryz.func49, Tryz.ntmps49
  go_wp2_with (first
    | (go_at_call 45; refine (HCUT.out _).mono ?_; rintro e w1 ⟨g, cap, rfl, hcap1, hcap2, hg0, hg1, hc0, HJ, hb1⟩; simp at hg0; have hs1 : w.heap.size < w1.heap.size := (by have := hb1.size; simp at this; omega); have zb1 : Hid (ZB w1 w.heap.size) := ZB.keep (heap_alloc_new w _) hb1 (by simp); have hB1 : Hid (Below w.heap.size w w1) := Below.step ((Below.refl _ _).alloc (Nat.le_refl _) _) hb1; clear hb1 HCUT)
    | (go_at_call 96; refine (HOP.out _).mono ?_; rintro e w2 ⟨rfl, hb2⟩; have hs2 : w.heap.size < w2.heap.size := (by have := hb2.size; omega); have hg2 : g < w2.heap.size := (by have := hb2.size; omega); have zb2 : Hid (ZB w2 w.heap.size) := zb1.out.keep hb2 hs1; obtain ⟨z0, z1, z2, z3, z4, z5, z6, zf0, zf1, zf2, zf3, zf4, zf5, zf6⟩ := zb2.out.facts; have hB2 : Hid (Below w.heap.size w w2) := Below.step hB1.out hb2; clear hb2 HOP)
    | (go_at_call 84; refine (HO.out _).mono ?_; rintro e w9 ⟨rfl, hw9⟩; rw [hw9]; clear hw9 HO))
  refine bodyPost_ret (v := .tuple #[.agg #[.int .i64 0, .int .i64 0, .string ⟨#[]⟩, .bool false, .string ⟨#[]⟩, .string ⟨#[]⟩, .string ⟨#[]⟩], .int .i64 4]) (by simp [results, Tryz.results49, go_sem, *]) rfl ⟨by rw [HR.out]; rfl, Below.alloc ?_ ?_ _⟩
  · exact ((((((hB2.out.setCell (Nat.le_refl _) _).setCell (Nat.le_refl _) _).setCell (Nat.le_refl _) _).setCell (Nat.le_refl _) _).setCell (Nat.le_refl _) _).setCell (Nat.le_refl _) _).setCell (Nat.le_refl _) _
  · exact (((((((hB2.out.setCell (Nat.le_refl _) _).setCell (Nat.le_refl _) _).setCell (Nat.le_refl _) _).setCell (Nat.le_refl _) _).setCell (Nat.le_refl _) _).setCell (Nat.le_refl _) _).setCell (Nat.le_refl _) _).size

set_option maxRecDepth 100000 in
set_option maxHeartbeats 800000 in
theorem parse_0_yes (s : ByteArray) (hs : s.size ≤ 1099511627776) (p0 : List UInt8) (rest : List (List UInt8)) (hps : cutL 32 s.data.toList = p0 :: rest) (hk : opdI (opOf p0) = 0) (hc : (p0 :: rest).length = 1) (hi : ickI ⟨opOf p0, 0, ⟨#[]⟩, false, ⟨#[]⟩, ⟨#[]⟩, ⟨#[]⟩⟩ = 0) (w : World) : Calls Tryz.prog 49 #[.string s] w fun e w' => e = .returned (outI (parI (0) (opOf p0) (p0 :: rest))) ∧ Below w.heap.size w w' := by
  have HCUT0 := rCut_any 32 s hs
  rw [hps] at HCUT0
  have HOP0 := rOp_any ⟨p0.toArray⟩
  have HO0 := rOperand_any (opOf p0)
  rw [hk] at HO0
  have hob : opOf p0 ≤ 41 := op_le p0
  obtain ⟨P0, hP0⟩ : ∃ P : ByteArray, P = ⟨p0.toArray⟩ := ⟨_, rfl⟩
  obtain ⟨o, ho⟩ : ∃ o, o = opOf p0 := ⟨_, rfl⟩
  simp only at HOP0
  rw [← ho] at HOP0 HO0 hob ⊢
  rw [← hP0] at HOP0
  have HO : Hid (∀ w, _) := HO0
  have HOP : Hid (∀ w, _) := HOP0
  clear HO0 HOP0
  obtain ⟨ps, hpe⟩ : ∃ ps, ps = p0 :: rest := ⟨_, rfl⟩
  have hpn : ps ≠ [] := by rw [hpe]; simp
  have hp0 : ps[0]? = some p0 := by rw [hpe]; rfl
  rw [← hpe] at HCUT0 ⊢
  obtain ⟨cnt, hcnt⟩ : ∃ cnt, ps.length = cnt := ⟨_, rfl⟩
  have hcnt0 : 0 < cnt := by rw [← hcnt, hpe]; simp
  rw [← hpe, hcnt] at hc
  rw [← ho] at hi
  have hcd : candI (0) o ps = some ⟨o, 0, ⟨#[]⟩, false, ⟨#[]⟩, ⟨#[]⟩, ⟨#[]⟩⟩ := by rw [candI, if_pos (by decide), if_pos (by rw [hcnt]; exact hc)]
  have HR : Hid _ := parI_yes hcd hi
  have HCK0 := rCheck_any o 0 ⟨#[]⟩ false ⟨#[]⟩ ⟨#[]⟩ ⟨#[]⟩ (by decide) (by decide) (by decide) (by decide)
  rw [show ickE (o : Int) 0 ⟨#[]⟩ false ⟨#[]⟩ ⟨#[]⟩ ⟨#[]⟩ = 0 from hi] at HCK0
  have HCK : Hid (∀ w, _) := HCK0
  clear HCK0
  have HCUT : Hid (∀ w, Calls Tryz.prog 45 #[.string s, .int .u8 32] w fun e w' => ∃ g cap, e = .returned (.slice (some ⟨g, 0, none⟩) cnt cap) ∧ cnt ≤ cap ∧ cap ≤ 9223372036854775807 ∧ w.heap.size ≤ g ∧ g < w'.heap.size ∧ w'.cell? ⟨g, 0, none⟩ = some (.string P0) ∧ Hid (True) ∧ Below w.heap.size w w') := fun w => (HCUT0 w).mono fun e w' ⟨v, he, ho1, hb⟩ => by
    obtain ⟨g, cap, rfl, h1, h2, h3, h4, h5⟩ := own_words ho1 hpn
    rw [hcnt] at he h1
    unfold maxLen at h2
    exact ⟨g, cap, he, h1, h2, h3, h4, by rw [hP0]; exact h5 0 p0 hp0, trivial, hb⟩
  clear HCUT0 hP0 hpe
  have hcn : ((cnt : Int) != 1) = false := by rw [hc]; rfl
  clear hk hps ho hpn hp0 hcnt hcd hi
  go_enter Tryz.func49, Tryz.ntmps49
  go_wp2_with (first
    | (go_at_call 45; refine (HCUT.out _).mono ?_; rintro e w1 ⟨g, cap, rfl, hcap1, hcap2, hg0, hg1, hc0, HJ, hb1⟩; simp at hg0; have hs1 : w.heap.size < w1.heap.size := (by have := hb1.size; simp at this; omega); have zb1 : Hid (ZB w1 w.heap.size) := ZB.keep (heap_alloc_new w _) hb1 (by simp); have hB1 : Hid (Below w.heap.size w w1) := Below.step ((Below.refl _ _).alloc (Nat.le_refl _) _) hb1; clear hb1 HCUT)
    | (go_at_call 96; refine (HOP.out _).mono ?_; rintro e w2 ⟨rfl, hb2⟩; have hs2 : w.heap.size < w2.heap.size := (by have := hb2.size; omega); have hg2 : g < w2.heap.size := (by have := hb2.size; omega); have zb2 : Hid (ZB w2 w.heap.size) := zb1.out.keep hb2 hs1; obtain ⟨z0, z1, z2, z3, z4, z5, z6, zf0, zf1, zf2, zf3, zf4, zf5, zf6⟩ := zb2.out.facts; have hB2 : Hid (Below w.heap.size w w2) := Below.step hB1.out hb2; clear hb2 HOP)
    | (go_at_call 84; refine (HO.out _).mono ?_; rintro e w9 ⟨rfl, hw9⟩; rw [hw9]; clear hw9 HO)
    | (go_at_call 82; refine (HCK.out _).mono ?_; rintro e w4 ⟨rfl, hb4⟩; have hi0 : w4.cell? ⟨w2.heap.size, 0, none⟩ = some (.int .i64 (o : Int)) := (hb4.cell (p := ⟨w2.heap.size, 0, none⟩) (by simp [*])).trans (by simp [go_sem, *]); have hi1 : w4.cell? ⟨w2.heap.size, 1, none⟩ = some (.int .i64 0) := (hb4.cell (p := ⟨w2.heap.size, 1, none⟩) (by simp [*])).trans (by simp [go_sem, *]); have hi2 : w4.cell? ⟨w2.heap.size, 2, none⟩ = some (.string ⟨#[]⟩) := (hb4.cell (p := ⟨w2.heap.size, 2, none⟩) (by simp [*])).trans (by simp [go_sem, *]); have hi3 : w4.cell? ⟨w2.heap.size, 3, none⟩ = some (.bool false) := (hb4.cell (p := ⟨w2.heap.size, 3, none⟩) (by simp [*])).trans (by simp [go_sem, *]); have hi4 : w4.cell? ⟨w2.heap.size, 4, none⟩ = some (.string ⟨#[]⟩) := (hb4.cell (p := ⟨w2.heap.size, 4, none⟩) (by simp [*])).trans (by simp [go_sem, *]); have hi5 : w4.cell? ⟨w2.heap.size, 5, none⟩ = some (.string ⟨#[]⟩) := (hb4.cell (p := ⟨w2.heap.size, 5, none⟩) (by simp [*])).trans (by simp [go_sem, *]); have hi6 : w4.cell? ⟨w2.heap.size, 6, none⟩ = some (.string ⟨#[]⟩) := (hb4.cell (p := ⟨w2.heap.size, 6, none⟩) (by simp [*])).trans (by simp [go_sem, *]); have zb4 : Hid (ZB w4 w.heap.size) := ZB.keep (zb2.out.keep ((Below.refl _ _).alloc (Nat.le_refl _) _) hs2) hb4 (by simp [*]; omega); clear z0 z1 z2 z3 z4 z5 z6 zf0 zf1 zf2 zf3 zf4 zf5 zf6; obtain ⟨y0, y1, y2, y3, y4, y5, y6, yf0, yf1, yf2, yf3, yf4, yf5, yf6⟩ := zb4.out.facts; have hB4 : Hid (Below w.heap.size w w4) := Below.step (hB2.out.alloc hB2.out.size _) hb4; clear hb4 HCK))
  refine bodyPost_ret (v := .tuple #[.agg #[.int .i64 (o : Int), .int .i64 0, .string ⟨#[]⟩, .bool false, .string ⟨#[]⟩, .string ⟨#[]⟩, .string ⟨#[]⟩], .int .i64 0]) (by simp [results, Tryz.results49, go_sem, *]) rfl ⟨by rw [HR.out]; rfl, ?_⟩
  exact ((((((hB4.out.setCell (Nat.le_refl _) _).setCell (Nat.le_refl _) _).setCell (Nat.le_refl _) _).setCell (Nat.le_refl _) _).setCell (Nat.le_refl _) _).setCell (Nat.le_refl _) _).setCell (Nat.le_refl _) _

set_option maxRecDepth 100000 in
set_option maxHeartbeats 800000 in
theorem parse_0_bad (s : ByteArray) (hs : s.size ≤ 1099511627776) (p0 : List UInt8) (rest : List (List UInt8)) (hps : cutL 32 s.data.toList = p0 :: rest) (hk : opdI (opOf p0) = 0) (hc : (p0 :: rest).length = 1) (hi : ickI ⟨opOf p0, 0, ⟨#[]⟩, false, ⟨#[]⟩, ⟨#[]⟩, ⟨#[]⟩⟩ ≠ 0) (w : World) : Calls Tryz.prog 49 #[.string s] w fun e w' => e = .returned (outI (parI (0) (opOf p0) (p0 :: rest))) ∧ Below w.heap.size w w' := by
  have HCUT0 := rCut_any 32 s hs
  rw [hps] at HCUT0
  have HOP0 := rOp_any ⟨p0.toArray⟩
  have HO0 := rOperand_any (opOf p0)
  rw [hk] at HO0
  have hob : opOf p0 ≤ 41 := op_le p0
  obtain ⟨P0, hP0⟩ : ∃ P : ByteArray, P = ⟨p0.toArray⟩ := ⟨_, rfl⟩
  obtain ⟨o, ho⟩ : ∃ o, o = opOf p0 := ⟨_, rfl⟩
  simp only at HOP0
  rw [← ho] at HOP0 HO0 hob ⊢
  rw [← hP0] at HOP0
  have HO : Hid (∀ w, _) := HO0
  have HOP : Hid (∀ w, _) := HOP0
  clear HO0 HOP0
  obtain ⟨ps, hpe⟩ : ∃ ps, ps = p0 :: rest := ⟨_, rfl⟩
  have hpn : ps ≠ [] := by rw [hpe]; simp
  have hp0 : ps[0]? = some p0 := by rw [hpe]; rfl
  rw [← hpe] at HCUT0 ⊢
  obtain ⟨cnt, hcnt⟩ : ∃ cnt, ps.length = cnt := ⟨_, rfl⟩
  have hcnt0 : 0 < cnt := by rw [← hcnt, hpe]; simp
  rw [← hpe, hcnt] at hc
  rw [← ho] at hi
  have hcd : candI (0) o ps = some ⟨o, 0, ⟨#[]⟩, false, ⟨#[]⟩, ⟨#[]⟩, ⟨#[]⟩⟩ := by rw [candI, if_pos (by decide), if_pos (by rw [hcnt]; exact hc)]
  have HR : Hid _ := parI_bad hcd hi
  have HCK0 := rCheck_any o 0 ⟨#[]⟩ false ⟨#[]⟩ ⟨#[]⟩ ⟨#[]⟩ (by decide) (by decide) (by decide) (by decide)
  rw [show ickE (o : Int) 0 ⟨#[]⟩ false ⟨#[]⟩ ⟨#[]⟩ ⟨#[]⟩ = 1 from (ick_01 _ _ _ _ _ _ _).resolve_left hi] at HCK0
  have HCK : Hid (∀ w, _) := HCK0
  clear HCK0
  have HCUT : Hid (∀ w, Calls Tryz.prog 45 #[.string s, .int .u8 32] w fun e w' => ∃ g cap, e = .returned (.slice (some ⟨g, 0, none⟩) cnt cap) ∧ cnt ≤ cap ∧ cap ≤ 9223372036854775807 ∧ w.heap.size ≤ g ∧ g < w'.heap.size ∧ w'.cell? ⟨g, 0, none⟩ = some (.string P0) ∧ Hid (True) ∧ Below w.heap.size w w') := fun w => (HCUT0 w).mono fun e w' ⟨v, he, ho1, hb⟩ => by
    obtain ⟨g, cap, rfl, h1, h2, h3, h4, h5⟩ := own_words ho1 hpn
    rw [hcnt] at he h1
    unfold maxLen at h2
    exact ⟨g, cap, he, h1, h2, h3, h4, by rw [hP0]; exact h5 0 p0 hp0, trivial, hb⟩
  clear HCUT0 hP0 hpe
  have hcn : ((cnt : Int) != 1) = false := by rw [hc]; rfl
  clear hk hps ho hpn hp0 hcnt hcd hi
  go_enter Tryz.func49, Tryz.ntmps49
  go_wp2_with (first
    | (go_at_call 45; refine (HCUT.out _).mono ?_; rintro e w1 ⟨g, cap, rfl, hcap1, hcap2, hg0, hg1, hc0, HJ, hb1⟩; simp at hg0; have hs1 : w.heap.size < w1.heap.size := (by have := hb1.size; simp at this; omega); have zb1 : Hid (ZB w1 w.heap.size) := ZB.keep (heap_alloc_new w _) hb1 (by simp); have hB1 : Hid (Below w.heap.size w w1) := Below.step ((Below.refl _ _).alloc (Nat.le_refl _) _) hb1; clear hb1 HCUT)
    | (go_at_call 96; refine (HOP.out _).mono ?_; rintro e w2 ⟨rfl, hb2⟩; have hs2 : w.heap.size < w2.heap.size := (by have := hb2.size; omega); have hg2 : g < w2.heap.size := (by have := hb2.size; omega); have zb2 : Hid (ZB w2 w.heap.size) := zb1.out.keep hb2 hs1; obtain ⟨z0, z1, z2, z3, z4, z5, z6, zf0, zf1, zf2, zf3, zf4, zf5, zf6⟩ := zb2.out.facts; have hB2 : Hid (Below w.heap.size w w2) := Below.step hB1.out hb2; clear hb2 HOP)
    | (go_at_call 84; refine (HO.out _).mono ?_; rintro e w9 ⟨rfl, hw9⟩; rw [hw9]; clear hw9 HO)
    | (go_at_call 82; refine (HCK.out _).mono ?_; rintro e w4 ⟨rfl, hb4⟩; have hi0 : w4.cell? ⟨w2.heap.size, 0, none⟩ = some (.int .i64 (o : Int)) := (hb4.cell (p := ⟨w2.heap.size, 0, none⟩) (by simp [*])).trans (by simp [go_sem, *]); have hi1 : w4.cell? ⟨w2.heap.size, 1, none⟩ = some (.int .i64 0) := (hb4.cell (p := ⟨w2.heap.size, 1, none⟩) (by simp [*])).trans (by simp [go_sem, *]); have hi2 : w4.cell? ⟨w2.heap.size, 2, none⟩ = some (.string ⟨#[]⟩) := (hb4.cell (p := ⟨w2.heap.size, 2, none⟩) (by simp [*])).trans (by simp [go_sem, *]); have hi3 : w4.cell? ⟨w2.heap.size, 3, none⟩ = some (.bool false) := (hb4.cell (p := ⟨w2.heap.size, 3, none⟩) (by simp [*])).trans (by simp [go_sem, *]); have hi4 : w4.cell? ⟨w2.heap.size, 4, none⟩ = some (.string ⟨#[]⟩) := (hb4.cell (p := ⟨w2.heap.size, 4, none⟩) (by simp [*])).trans (by simp [go_sem, *]); have hi5 : w4.cell? ⟨w2.heap.size, 5, none⟩ = some (.string ⟨#[]⟩) := (hb4.cell (p := ⟨w2.heap.size, 5, none⟩) (by simp [*])).trans (by simp [go_sem, *]); have hi6 : w4.cell? ⟨w2.heap.size, 6, none⟩ = some (.string ⟨#[]⟩) := (hb4.cell (p := ⟨w2.heap.size, 6, none⟩) (by simp [*])).trans (by simp [go_sem, *]); have zb4 : Hid (ZB w4 w.heap.size) := ZB.keep (zb2.out.keep ((Below.refl _ _).alloc (Nat.le_refl _) _) hs2) hb4 (by simp [*]; omega); clear z0 z1 z2 z3 z4 z5 z6 zf0 zf1 zf2 zf3 zf4 zf5 zf6; obtain ⟨y0, y1, y2, y3, y4, y5, y6, yf0, yf1, yf2, yf3, yf4, yf5, yf6⟩ := zb4.out.facts; have hB4 : Hid (Below w.heap.size w w4) := Below.step (hB2.out.alloc hB2.out.size _) hb4; clear hb4 HCK))
  refine bodyPost_ret (v := .tuple #[.agg #[.int .i64 0, .int .i64 0, .string ⟨#[]⟩, .bool false, .string ⟨#[]⟩, .string ⟨#[]⟩, .string ⟨#[]⟩], .int .i64 4]) (by simp [results, Tryz.results49, go_sem, *]) rfl ⟨by rw [HR.out]; rfl, ?_⟩
  exact ((((((hB4.out.setCell (Nat.le_refl _) _).setCell (Nat.le_refl _) _).setCell (Nat.le_refl _) _).setCell (Nat.le_refl _) _).setCell (Nat.le_refl _) _).setCell (Nat.le_refl _) _).setCell (Nat.le_refl _) _

set_option maxRecDepth 100000 in
set_option maxHeartbeats 800000 in
theorem parse_none_cnt (s : ByteArray) (hs : s.size ≤ 1099511627776) (p0 : List UInt8) (rest : List (List UInt8)) (hps : cutL 32 s.data.toList = p0 :: rest) (hk : opdI (opOf p0) = -1) (hc : (p0 :: rest).length ≠ 1) (w : World) : Calls Tryz.prog 49 #[.string s] w fun e w' => e = .returned (outI (parI (-1) (opOf p0) (p0 :: rest))) ∧ Below w.heap.size w w' := by
  have HCUT0 := rCut_any 32 s hs
  rw [hps] at HCUT0
  have HOP0 := rOp_any ⟨p0.toArray⟩
  have HO0 := rOperand_any (opOf p0)
  rw [hk] at HO0
  have hob : opOf p0 ≤ 41 := op_le p0
  obtain ⟨P0, hP0⟩ : ∃ P : ByteArray, P = ⟨p0.toArray⟩ := ⟨_, rfl⟩
  obtain ⟨o, ho⟩ : ∃ o, o = opOf p0 := ⟨_, rfl⟩
  simp only at HOP0
  rw [← ho] at HOP0 HO0 hob ⊢
  rw [← hP0] at HOP0
  have HO : Hid (∀ w, _) := HO0
  have HOP : Hid (∀ w, _) := HOP0
  clear HO0 HOP0
  obtain ⟨ps, hpe⟩ : ∃ ps, ps = p0 :: rest := ⟨_, rfl⟩
  have hpn : ps ≠ [] := by rw [hpe]; simp
  have hp0 : ps[0]? = some p0 := by rw [hpe]; rfl
  rw [← hpe] at HCUT0 ⊢
  obtain ⟨cnt, hcnt⟩ : ∃ cnt, ps.length = cnt := ⟨_, rfl⟩
  have hcnt0 : 0 < cnt := by rw [← hcnt, hpe]; simp
  rw [← hpe, hcnt] at hc
  have HR : Hid _ := parI_no (k := -1) (o := o) (ps := ps) (by rw [candI, if_pos (by decide), if_neg (by rw [hcnt]; exact hc)])
  have HCUT : Hid (∀ w, Calls Tryz.prog 45 #[.string s, .int .u8 32] w fun e w' => ∃ g cap, e = .returned (.slice (some ⟨g, 0, none⟩) cnt cap) ∧ cnt ≤ cap ∧ cap ≤ 9223372036854775807 ∧ w.heap.size ≤ g ∧ g < w'.heap.size ∧ w'.cell? ⟨g, 0, none⟩ = some (.string P0) ∧ Hid (True) ∧ Below w.heap.size w w') := fun w => (HCUT0 w).mono fun e w' ⟨v, he, ho1, hb⟩ => by
    obtain ⟨g, cap, rfl, h1, h2, h3, h4, h5⟩ := own_words ho1 hpn
    rw [hcnt] at he h1
    unfold maxLen at h2
    exact ⟨g, cap, he, h1, h2, h3, h4, by rw [hP0]; exact h5 0 p0 hp0, trivial, hb⟩
  clear HCUT0 hP0 hpe
  have hcn : ((cnt : Int) != 1) = true := by rw [bne_iff_ne]; omega
  clear hk hps ho hpn hp0 hcnt
  go_enter Tryz.func49, Tryz.ntmps49
  go_wp2_with (first
    | (go_at_call 45; refine (HCUT.out _).mono ?_; rintro e w1 ⟨g, cap, rfl, hcap1, hcap2, hg0, hg1, hc0, HJ, hb1⟩; simp at hg0; have hs1 : w.heap.size < w1.heap.size := (by have := hb1.size; simp at this; omega); have zb1 : Hid (ZB w1 w.heap.size) := ZB.keep (heap_alloc_new w _) hb1 (by simp); have hB1 : Hid (Below w.heap.size w w1) := Below.step ((Below.refl _ _).alloc (Nat.le_refl _) _) hb1; clear hb1 HCUT)
    | (go_at_call 96; refine (HOP.out _).mono ?_; rintro e w2 ⟨rfl, hb2⟩; have hs2 : w.heap.size < w2.heap.size := (by have := hb2.size; omega); have hg2 : g < w2.heap.size := (by have := hb2.size; omega); have zb2 : Hid (ZB w2 w.heap.size) := zb1.out.keep hb2 hs1; obtain ⟨z0, z1, z2, z3, z4, z5, z6, zf0, zf1, zf2, zf3, zf4, zf5, zf6⟩ := zb2.out.facts; have hB2 : Hid (Below w.heap.size w w2) := Below.step hB1.out hb2; clear hb2 HOP)
    | (go_at_call 84; refine (HO.out _).mono ?_; rintro e w9 ⟨rfl, hw9⟩; rw [hw9]; clear hw9 HO))
  refine bodyPost_ret (v := .tuple #[.agg #[.int .i64 0, .int .i64 0, .string ⟨#[]⟩, .bool false, .string ⟨#[]⟩, .string ⟨#[]⟩, .string ⟨#[]⟩], .int .i64 4]) (by simp [results, Tryz.results49, go_sem, *]) rfl ⟨by rw [HR.out]; rfl, Below.alloc ?_ ?_ _⟩
  · exact ((((((hB2.out.setCell (Nat.le_refl _) _).setCell (Nat.le_refl _) _).setCell (Nat.le_refl _) _).setCell (Nat.le_refl _) _).setCell (Nat.le_refl _) _).setCell (Nat.le_refl _) _).setCell (Nat.le_refl _) _
  · exact (((((((hB2.out.setCell (Nat.le_refl _) _).setCell (Nat.le_refl _) _).setCell (Nat.le_refl _) _).setCell (Nat.le_refl _) _).setCell (Nat.le_refl _) _).setCell (Nat.le_refl _) _).setCell (Nat.le_refl _) _).size

set_option maxRecDepth 100000 in
set_option maxHeartbeats 800000 in
theorem parse_none_yes (s : ByteArray) (hs : s.size ≤ 1099511627776) (p0 : List UInt8) (rest : List (List UInt8)) (hps : cutL 32 s.data.toList = p0 :: rest) (hk : opdI (opOf p0) = -1) (hc : (p0 :: rest).length = 1) (hi : ickI ⟨opOf p0, 0, ⟨#[]⟩, false, ⟨#[]⟩, ⟨#[]⟩, ⟨#[]⟩⟩ = 0) (w : World) : Calls Tryz.prog 49 #[.string s] w fun e w' => e = .returned (outI (parI (-1) (opOf p0) (p0 :: rest))) ∧ Below w.heap.size w w' := by
  have HCUT0 := rCut_any 32 s hs
  rw [hps] at HCUT0
  have HOP0 := rOp_any ⟨p0.toArray⟩
  have HO0 := rOperand_any (opOf p0)
  rw [hk] at HO0
  have hob : opOf p0 ≤ 41 := op_le p0
  obtain ⟨P0, hP0⟩ : ∃ P : ByteArray, P = ⟨p0.toArray⟩ := ⟨_, rfl⟩
  obtain ⟨o, ho⟩ : ∃ o, o = opOf p0 := ⟨_, rfl⟩
  simp only at HOP0
  rw [← ho] at HOP0 HO0 hob ⊢
  rw [← hP0] at HOP0
  have HO : Hid (∀ w, _) := HO0
  have HOP : Hid (∀ w, _) := HOP0
  clear HO0 HOP0
  obtain ⟨ps, hpe⟩ : ∃ ps, ps = p0 :: rest := ⟨_, rfl⟩
  have hpn : ps ≠ [] := by rw [hpe]; simp
  have hp0 : ps[0]? = some p0 := by rw [hpe]; rfl
  rw [← hpe] at HCUT0 ⊢
  obtain ⟨cnt, hcnt⟩ : ∃ cnt, ps.length = cnt := ⟨_, rfl⟩
  have hcnt0 : 0 < cnt := by rw [← hcnt, hpe]; simp
  rw [← hpe, hcnt] at hc
  rw [← ho] at hi
  have hcd : candI (-1) o ps = some ⟨o, 0, ⟨#[]⟩, false, ⟨#[]⟩, ⟨#[]⟩, ⟨#[]⟩⟩ := by rw [candI, if_pos (by decide), if_pos (by rw [hcnt]; exact hc)]
  have HR : Hid _ := parI_yes hcd hi
  have HCK0 := rCheck_any o 0 ⟨#[]⟩ false ⟨#[]⟩ ⟨#[]⟩ ⟨#[]⟩ (by decide) (by decide) (by decide) (by decide)
  rw [show ickE (o : Int) 0 ⟨#[]⟩ false ⟨#[]⟩ ⟨#[]⟩ ⟨#[]⟩ = 0 from hi] at HCK0
  have HCK : Hid (∀ w, _) := HCK0
  clear HCK0
  have HCUT : Hid (∀ w, Calls Tryz.prog 45 #[.string s, .int .u8 32] w fun e w' => ∃ g cap, e = .returned (.slice (some ⟨g, 0, none⟩) cnt cap) ∧ cnt ≤ cap ∧ cap ≤ 9223372036854775807 ∧ w.heap.size ≤ g ∧ g < w'.heap.size ∧ w'.cell? ⟨g, 0, none⟩ = some (.string P0) ∧ Hid (True) ∧ Below w.heap.size w w') := fun w => (HCUT0 w).mono fun e w' ⟨v, he, ho1, hb⟩ => by
    obtain ⟨g, cap, rfl, h1, h2, h3, h4, h5⟩ := own_words ho1 hpn
    rw [hcnt] at he h1
    unfold maxLen at h2
    exact ⟨g, cap, he, h1, h2, h3, h4, by rw [hP0]; exact h5 0 p0 hp0, trivial, hb⟩
  clear HCUT0 hP0 hpe
  have hcn : ((cnt : Int) != 1) = false := by rw [hc]; rfl
  clear hk hps ho hpn hp0 hcnt hcd hi
  go_enter Tryz.func49, Tryz.ntmps49
  go_wp2_with (first
    | (go_at_call 45; refine (HCUT.out _).mono ?_; rintro e w1 ⟨g, cap, rfl, hcap1, hcap2, hg0, hg1, hc0, HJ, hb1⟩; simp at hg0; have hs1 : w.heap.size < w1.heap.size := (by have := hb1.size; simp at this; omega); have zb1 : Hid (ZB w1 w.heap.size) := ZB.keep (heap_alloc_new w _) hb1 (by simp); have hB1 : Hid (Below w.heap.size w w1) := Below.step ((Below.refl _ _).alloc (Nat.le_refl _) _) hb1; clear hb1 HCUT)
    | (go_at_call 96; refine (HOP.out _).mono ?_; rintro e w2 ⟨rfl, hb2⟩; have hs2 : w.heap.size < w2.heap.size := (by have := hb2.size; omega); have hg2 : g < w2.heap.size := (by have := hb2.size; omega); have zb2 : Hid (ZB w2 w.heap.size) := zb1.out.keep hb2 hs1; obtain ⟨z0, z1, z2, z3, z4, z5, z6, zf0, zf1, zf2, zf3, zf4, zf5, zf6⟩ := zb2.out.facts; have hB2 : Hid (Below w.heap.size w w2) := Below.step hB1.out hb2; clear hb2 HOP)
    | (go_at_call 84; refine (HO.out _).mono ?_; rintro e w9 ⟨rfl, hw9⟩; rw [hw9]; clear hw9 HO)
    | (go_at_call 82; refine (HCK.out _).mono ?_; rintro e w4 ⟨rfl, hb4⟩; have hi0 : w4.cell? ⟨w2.heap.size, 0, none⟩ = some (.int .i64 (o : Int)) := (hb4.cell (p := ⟨w2.heap.size, 0, none⟩) (by simp [*])).trans (by simp [go_sem, *]); have hi1 : w4.cell? ⟨w2.heap.size, 1, none⟩ = some (.int .i64 0) := (hb4.cell (p := ⟨w2.heap.size, 1, none⟩) (by simp [*])).trans (by simp [go_sem, *]); have hi2 : w4.cell? ⟨w2.heap.size, 2, none⟩ = some (.string ⟨#[]⟩) := (hb4.cell (p := ⟨w2.heap.size, 2, none⟩) (by simp [*])).trans (by simp [go_sem, *]); have hi3 : w4.cell? ⟨w2.heap.size, 3, none⟩ = some (.bool false) := (hb4.cell (p := ⟨w2.heap.size, 3, none⟩) (by simp [*])).trans (by simp [go_sem, *]); have hi4 : w4.cell? ⟨w2.heap.size, 4, none⟩ = some (.string ⟨#[]⟩) := (hb4.cell (p := ⟨w2.heap.size, 4, none⟩) (by simp [*])).trans (by simp [go_sem, *]); have hi5 : w4.cell? ⟨w2.heap.size, 5, none⟩ = some (.string ⟨#[]⟩) := (hb4.cell (p := ⟨w2.heap.size, 5, none⟩) (by simp [*])).trans (by simp [go_sem, *]); have hi6 : w4.cell? ⟨w2.heap.size, 6, none⟩ = some (.string ⟨#[]⟩) := (hb4.cell (p := ⟨w2.heap.size, 6, none⟩) (by simp [*])).trans (by simp [go_sem, *]); have zb4 : Hid (ZB w4 w.heap.size) := ZB.keep (zb2.out.keep ((Below.refl _ _).alloc (Nat.le_refl _) _) hs2) hb4 (by simp [*]; omega); clear z0 z1 z2 z3 z4 z5 z6 zf0 zf1 zf2 zf3 zf4 zf5 zf6; obtain ⟨y0, y1, y2, y3, y4, y5, y6, yf0, yf1, yf2, yf3, yf4, yf5, yf6⟩ := zb4.out.facts; have hB4 : Hid (Below w.heap.size w w4) := Below.step (hB2.out.alloc hB2.out.size _) hb4; clear hb4 HCK))
  refine bodyPost_ret (v := .tuple #[.agg #[.int .i64 (o : Int), .int .i64 0, .string ⟨#[]⟩, .bool false, .string ⟨#[]⟩, .string ⟨#[]⟩, .string ⟨#[]⟩], .int .i64 0]) (by simp [results, Tryz.results49, go_sem, *]) rfl ⟨by rw [HR.out]; rfl, ?_⟩
  exact ((((((hB4.out.setCell (Nat.le_refl _) _).setCell (Nat.le_refl _) _).setCell (Nat.le_refl _) _).setCell (Nat.le_refl _) _).setCell (Nat.le_refl _) _).setCell (Nat.le_refl _) _).setCell (Nat.le_refl _) _

set_option maxRecDepth 100000 in
set_option maxHeartbeats 800000 in
theorem parse_none_bad (s : ByteArray) (hs : s.size ≤ 1099511627776) (p0 : List UInt8) (rest : List (List UInt8)) (hps : cutL 32 s.data.toList = p0 :: rest) (hk : opdI (opOf p0) = -1) (hc : (p0 :: rest).length = 1) (hi : ickI ⟨opOf p0, 0, ⟨#[]⟩, false, ⟨#[]⟩, ⟨#[]⟩, ⟨#[]⟩⟩ ≠ 0) (w : World) : Calls Tryz.prog 49 #[.string s] w fun e w' => e = .returned (outI (parI (-1) (opOf p0) (p0 :: rest))) ∧ Below w.heap.size w w' := by
  have HCUT0 := rCut_any 32 s hs
  rw [hps] at HCUT0
  have HOP0 := rOp_any ⟨p0.toArray⟩
  have HO0 := rOperand_any (opOf p0)
  rw [hk] at HO0
  have hob : opOf p0 ≤ 41 := op_le p0
  obtain ⟨P0, hP0⟩ : ∃ P : ByteArray, P = ⟨p0.toArray⟩ := ⟨_, rfl⟩
  obtain ⟨o, ho⟩ : ∃ o, o = opOf p0 := ⟨_, rfl⟩
  simp only at HOP0
  rw [← ho] at HOP0 HO0 hob ⊢
  rw [← hP0] at HOP0
  have HO : Hid (∀ w, _) := HO0
  have HOP : Hid (∀ w, _) := HOP0
  clear HO0 HOP0
  obtain ⟨ps, hpe⟩ : ∃ ps, ps = p0 :: rest := ⟨_, rfl⟩
  have hpn : ps ≠ [] := by rw [hpe]; simp
  have hp0 : ps[0]? = some p0 := by rw [hpe]; rfl
  rw [← hpe] at HCUT0 ⊢
  obtain ⟨cnt, hcnt⟩ : ∃ cnt, ps.length = cnt := ⟨_, rfl⟩
  have hcnt0 : 0 < cnt := by rw [← hcnt, hpe]; simp
  rw [← hpe, hcnt] at hc
  rw [← ho] at hi
  have hcd : candI (-1) o ps = some ⟨o, 0, ⟨#[]⟩, false, ⟨#[]⟩, ⟨#[]⟩, ⟨#[]⟩⟩ := by rw [candI, if_pos (by decide), if_pos (by rw [hcnt]; exact hc)]
  have HR : Hid _ := parI_bad hcd hi
  have HCK0 := rCheck_any o 0 ⟨#[]⟩ false ⟨#[]⟩ ⟨#[]⟩ ⟨#[]⟩ (by decide) (by decide) (by decide) (by decide)
  rw [show ickE (o : Int) 0 ⟨#[]⟩ false ⟨#[]⟩ ⟨#[]⟩ ⟨#[]⟩ = 1 from (ick_01 _ _ _ _ _ _ _).resolve_left hi] at HCK0
  have HCK : Hid (∀ w, _) := HCK0
  clear HCK0
  have HCUT : Hid (∀ w, Calls Tryz.prog 45 #[.string s, .int .u8 32] w fun e w' => ∃ g cap, e = .returned (.slice (some ⟨g, 0, none⟩) cnt cap) ∧ cnt ≤ cap ∧ cap ≤ 9223372036854775807 ∧ w.heap.size ≤ g ∧ g < w'.heap.size ∧ w'.cell? ⟨g, 0, none⟩ = some (.string P0) ∧ Hid (True) ∧ Below w.heap.size w w') := fun w => (HCUT0 w).mono fun e w' ⟨v, he, ho1, hb⟩ => by
    obtain ⟨g, cap, rfl, h1, h2, h3, h4, h5⟩ := own_words ho1 hpn
    rw [hcnt] at he h1
    unfold maxLen at h2
    exact ⟨g, cap, he, h1, h2, h3, h4, by rw [hP0]; exact h5 0 p0 hp0, trivial, hb⟩
  clear HCUT0 hP0 hpe
  have hcn : ((cnt : Int) != 1) = false := by rw [hc]; rfl
  clear hk hps ho hpn hp0 hcnt hcd hi
  go_enter Tryz.func49, Tryz.ntmps49
  go_wp2_with (first
    | (go_at_call 45; refine (HCUT.out _).mono ?_; rintro e w1 ⟨g, cap, rfl, hcap1, hcap2, hg0, hg1, hc0, HJ, hb1⟩; simp at hg0; have hs1 : w.heap.size < w1.heap.size := (by have := hb1.size; simp at this; omega); have zb1 : Hid (ZB w1 w.heap.size) := ZB.keep (heap_alloc_new w _) hb1 (by simp); have hB1 : Hid (Below w.heap.size w w1) := Below.step ((Below.refl _ _).alloc (Nat.le_refl _) _) hb1; clear hb1 HCUT)
    | (go_at_call 96; refine (HOP.out _).mono ?_; rintro e w2 ⟨rfl, hb2⟩; have hs2 : w.heap.size < w2.heap.size := (by have := hb2.size; omega); have hg2 : g < w2.heap.size := (by have := hb2.size; omega); have zb2 : Hid (ZB w2 w.heap.size) := zb1.out.keep hb2 hs1; obtain ⟨z0, z1, z2, z3, z4, z5, z6, zf0, zf1, zf2, zf3, zf4, zf5, zf6⟩ := zb2.out.facts; have hB2 : Hid (Below w.heap.size w w2) := Below.step hB1.out hb2; clear hb2 HOP)
    | (go_at_call 84; refine (HO.out _).mono ?_; rintro e w9 ⟨rfl, hw9⟩; rw [hw9]; clear hw9 HO)
    | (go_at_call 82; refine (HCK.out _).mono ?_; rintro e w4 ⟨rfl, hb4⟩; have hi0 : w4.cell? ⟨w2.heap.size, 0, none⟩ = some (.int .i64 (o : Int)) := (hb4.cell (p := ⟨w2.heap.size, 0, none⟩) (by simp [*])).trans (by simp [go_sem, *]); have hi1 : w4.cell? ⟨w2.heap.size, 1, none⟩ = some (.int .i64 0) := (hb4.cell (p := ⟨w2.heap.size, 1, none⟩) (by simp [*])).trans (by simp [go_sem, *]); have hi2 : w4.cell? ⟨w2.heap.size, 2, none⟩ = some (.string ⟨#[]⟩) := (hb4.cell (p := ⟨w2.heap.size, 2, none⟩) (by simp [*])).trans (by simp [go_sem, *]); have hi3 : w4.cell? ⟨w2.heap.size, 3, none⟩ = some (.bool false) := (hb4.cell (p := ⟨w2.heap.size, 3, none⟩) (by simp [*])).trans (by simp [go_sem, *]); have hi4 : w4.cell? ⟨w2.heap.size, 4, none⟩ = some (.string ⟨#[]⟩) := (hb4.cell (p := ⟨w2.heap.size, 4, none⟩) (by simp [*])).trans (by simp [go_sem, *]); have hi5 : w4.cell? ⟨w2.heap.size, 5, none⟩ = some (.string ⟨#[]⟩) := (hb4.cell (p := ⟨w2.heap.size, 5, none⟩) (by simp [*])).trans (by simp [go_sem, *]); have hi6 : w4.cell? ⟨w2.heap.size, 6, none⟩ = some (.string ⟨#[]⟩) := (hb4.cell (p := ⟨w2.heap.size, 6, none⟩) (by simp [*])).trans (by simp [go_sem, *]); have zb4 : Hid (ZB w4 w.heap.size) := ZB.keep (zb2.out.keep ((Below.refl _ _).alloc (Nat.le_refl _) _) hs2) hb4 (by simp [*]; omega); clear z0 z1 z2 z3 z4 z5 z6 zf0 zf1 zf2 zf3 zf4 zf5 zf6; obtain ⟨y0, y1, y2, y3, y4, y5, y6, yf0, yf1, yf2, yf3, yf4, yf5, yf6⟩ := zb4.out.facts; have hB4 : Hid (Below w.heap.size w w4) := Below.step (hB2.out.alloc hB2.out.size _) hb4; clear hb4 HCK))
  refine bodyPost_ret (v := .tuple #[.agg #[.int .i64 0, .int .i64 0, .string ⟨#[]⟩, .bool false, .string ⟨#[]⟩, .string ⟨#[]⟩, .string ⟨#[]⟩], .int .i64 4]) (by simp [results, Tryz.results49, go_sem, *]) rfl ⟨by rw [HR.out]; rfl, ?_⟩
  exact ((((((hB4.out.setCell (Nat.le_refl _) _).setCell (Nat.le_refl _) _).setCell (Nat.le_refl _) _).setCell (Nat.le_refl _) _).setCell (Nat.le_refl _) _).setCell (Nat.le_refl _) _).setCell (Nat.le_refl _) _

end Go.Proofs.YtfbhjfpkhofifaaGreatDoor
