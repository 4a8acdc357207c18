/- Proved: for every line of bulk at most 1048576 (its letters, and one) the law CodeParse answers true, and leaves what it was handed as it was, where the package's variable 'words', the library's table of powers of ten and strconv's two errors hold what their own initialisers lay (the card ties them to the program's text); math/bits' two tables are listed besides, and no run reads them. The second form: of a line of 2^47 blanks the document's answer makes a list of texts that no append bears. -/
import Derived.Test.YtijlipllahfakaaGreatDoorCodeM
import Derived.Test.YtijlipllahfakaaGreatDoorCodeT
import Derived.Test.YtijlipllahfakaaGreatDoorOwnT
import Derived.Test.YtijlipllahfakaaGreatDoorOwnP
import Derived.Test.YtijlipllahfakaaGreatDoorLaid
import Derived.Test.YtijlipllahfakaaGreatDoorCards
import Derived.Test.YtijlipllahfakaaGreatDoorTie
import Derived.WalkKit
import Derived.ProofKit
import Derived.OpenShut
import Derived.Lay
import Derived.SevenTiedAt
import Derived.Stop.LaidErr
import Derived.Deep.DeepHandedRow
namespace Go.Proofs.YtijlipllahfakaaGreatDoor
open Go.RowKit

/-- a block that holds an instruction -/
def IB (w : World) (b : Nat) (i : Ins) : Prop := w.heap[b]? = some (.cells (insC i).toArray 26 (0, 0))
theorem IB.keep {w w' : World} {N b : Nat} {i : Ins} (h : IB w b i) (hb : Below N w w') (hlt : b < N) : IB w' b i := by
  unfold IB; rw [hb.block _ hlt]; exact h
theorem IB.facts {w : World} {b : Nat} {i : Ins} (h : IB w b i) : w.cell? ⟨b, 0, none⟩ = some (.int .i64 i.op) ∧ w.cell? ⟨b, 1, none⟩ = some (.int .i64 i.n) ∧ w.cell? ⟨b, 2, none⟩ = some (.string i.t) ∧ w.cell? ⟨b, 3, none⟩ = some (.bool i.b) ∧ w.cell? ⟨b, 4, none⟩ = some (.string i.c) ∧ w.cell? ⟨b, 5, none⟩ = some (.string i.m) ∧ w.cell? ⟨b, 6, none⟩ = some (.string i.d) ∧
    w.frozen? ⟨b, 0, none⟩ = false ∧ w.frozen? ⟨b, 1, none⟩ = false ∧ w.frozen? ⟨b, 2, none⟩ = false ∧ w.frozen? ⟨b, 3, none⟩ = false ∧ w.frozen? ⟨b, 4, none⟩ = false ∧ w.frozen? ⟨b, 5, none⟩ = false ∧ w.frozen? ⟨b, 6, none⟩ = false := by
  unfold IB at h
  refine ⟨?_, ?_, ?_, ?_, ?_, ?_, ?_, ?_, ?_, ?_, ?_, ?_, ?_, ?_⟩
  · rw [cell_of_row _ b 0 _ 26 (0, 0) h]; rfl
  · rw [cell_of_row _ b 1 _ 26 (0, 0) h]; rfl
  · rw [cell_of_row _ b 2 _ 26 (0, 0) h]; rfl
  · rw [cell_of_row _ b 3 _ 26 (0, 0) h]; rfl
  · rw [cell_of_row _ b 4 _ 26 (0, 0) h]; rfl
  · rw [cell_of_row _ b 5 _ 26 (0, 0) h]; rfl
  · rw [cell_of_row _ b 6 _ 26 (0, 0) h]; rfl
  all_goals simp [World.frozen?, h]
theorem set_at {w : World} {b k : Nat} {cs : Array Value} {t : TypeId} {v : Value} (h : w.heap[b]? = some (.cells cs t (0, 0))) : (w.setCell ⟨b, k, none⟩ v).heap[b]? = some (.cells (cs.setIfInBounds k v) t (0, 0)) := by
  simp only [World.setCell, Array.getElem?_modify, h, if_true]
  rfl
theorem IB.setN {w : World} {b : Nat} {i : Ins} (h : IB w b i) (n : Int) : IB (w.setCell ⟨b, 1, none⟩ (.int .i64 n)) b ⟨i.op, n, i.t, i.b, i.c, i.m, i.d⟩ := set_at h
theorem IB.setT {w : World} {b : Nat} {i : Ins} (h : IB w b i) (t : ByteArray) : IB (w.setCell ⟨b, 2, none⟩ (.string t)) b ⟨i.op, i.n, t, i.b, i.c, i.m, i.d⟩ := set_at h
theorem IB.setR {w : World} {b : Nat} {i : Ins} (h : IB w b i) (r : Bool) (c m d : ByteArray) :
    IB ((((w.setCell ⟨b, 3, none⟩ (.bool r)).setCell ⟨b, 4, none⟩ (.string c)).setCell ⟨b, 5, none⟩ (.string m)).setCell ⟨b, 6, none⟩ (.string d)) b ⟨i.op, i.n, i.t, r, c, m, d⟩ := set_at (set_at (set_at (set_at h)))
theorem ZB.set {w : World} {b p k : Nat} {v : Value} (h : ZB w b) (hne : b ≠ p) : ZB (w.setCell ⟨p, k, none⟩ v) b := (Below.heap_setCell _ _ _ _ hne).trans h
theorem ZB.new {w : World} {b : Nat} {o : Obj} (h : ZB w b) (hlt : b < w.heap.size) : ZB (w.alloc o) b := (Below.heap_alloc w o b hlt).trans h
theorem IB.new {w : World} {b : Nat} {i : Ins} {o : Obj} (h : IB w b i) (hlt : b < w.heap.size) : IB (w.alloc o) b i := (Below.heap_alloc w o b hlt).trans h

theorem cutL_mem_len (c : UInt8) (l p : List UInt8) (h : p ∈ cutL c l) : p.length ≤ l.length := by
  induction l generalizing p with
  | nil => simp [cutL] at h; simp [h]
  | cons x l ih =>
    unfold cutL at h
    split at h
    · rcases List.mem_cons.1 h with rfl | h
      · simp
      · have := ih p h; simp; omega
    · split at h
      · rename_i e
        exact absurd e (cutL_ne c l)
      · rename_i t ts e
        rcases List.mem_cons.1 h with rfl | h
        · have := ih t (by rw [e]; exact List.mem_cons_self ..); simp; omega
        · have := ih p (by rw [e]; exact List.mem_cons_of_mem _ h); simp; omega
theorem word_size {s : ByteArray} {ps : List (List UInt8)} {j : Nat} {p : List UInt8} (hs : s.size ≤ 1099511627776) (h : cutL 32 s.data.toList = ps) (hj : ps[j]? = some p) : (⟨p.toArray⟩ : ByteArray).size ≤ 1099511627776 := by
  have := cutL_mem_len 32 s.data.toList p (by rw [h]; exact List.mem_of_getElem? hj)
  have e : s.data.toList.length = s.size := by simp
  show p.toArray.size ≤ _
  simp
  omega
theorem rfOut_ok {l : List UInt8} (h : rfOK l = true) : rfOut l = .tuple #[.agg #[.bool (rfB l), .string ⟨(rfC l).toArray⟩, .string ⟨(rfN l).toArray⟩, .string ⟨(rfD l).toArray⟩], .int .i64 0] := by rw [rfOut, h]; rfl
theorem rf_len {l : List UInt8} (h : rfOK l = true) : (⟨(rfC l).toArray⟩ : ByteArray).size ≤ maxLen ∧ (⟨(rfN l).toArray⟩ : ByteArray).size ≤ maxLen ∧ (⟨(rfD l).toArray⟩ : ByteArray).size ≤ maxLen := by
  unfold rfOK at h
  simp only [Bool.and_eq_true] at h
  have := rck_len h.2
  unfold maxLen
  refine ⟨?_, ?_, ?_⟩
  · show (rfC l).toArray.size ≤ _; simp; omega
  · show (rfN l).toArray.size ≤ _; simp; omega
  · show (rfD l).toArray.size ≤ _; simp; omega
end Go.Proofs.YtijlipllahfakaaGreatDoor

namespace Go.Proofs.YtijlipllahfakaaGreatDoor
open Go.RowKit

set_option maxRecDepth 100000 in
set_option maxHeartbeats 800000 in
theorem parse_1_cnt (s : ByteArray) (hs : s.size ≤ 1099511627776) (p0 : List UInt8) (rest : List (List UInt8)) (hps : cutL 32 s.data.toList = p0 :: rest) (hk : opdI (opOf p0) = 1) (hc : (p0 :: rest).length ≠ 2) (w : World) : Calls Tryz.prog 6 #[.string s] w fun e w' => e = .returned (outI (parI (1) (opOf p0) (p0 :: rest))) ∧ Below w.heap.size w w' := by
  have HCUT0 := rCut_any 32 s hs
  rw [hps] at HCUT0
  have HOP0 := rOp_any ⟨p0.toArray⟩
  have HO0 := rOperand_any (opOf p0)
  rw [hk] at HO0
  have hob : opOf p0 ≤ 41 := op_le p0
  obtain ⟨P0, hP0⟩ : ∃ P : ByteArray, P = ⟨p0.toArray⟩ := ⟨_, rfl⟩
  obtain ⟨o, ho⟩ : ∃ o, o = opOf p0 := ⟨_, rfl⟩
  simp only at HOP0
  rw [← ho] at HOP0 HO0 hob ⊢
  rw [← hP0] at HOP0
  have HO : Hid (∀ w, _) := HO0
  have HOP : Hid (∀ w, _) := HOP0
  clear HO0 HOP0
  obtain ⟨ps, hpe⟩ : ∃ ps, ps = p0 :: rest := ⟨_, rfl⟩
  have hpn : ps ≠ [] := by rw [hpe]; simp
  have hp0 : ps[0]? = some p0 := by rw [hpe]; rfl
  rw [← hpe] at HCUT0 ⊢
  obtain ⟨cnt, hcnt⟩ : ∃ cnt, ps.length = cnt := ⟨_, rfl⟩
  have hcnt0 : 0 < cnt := by rw [← hcnt, hpe]; simp
  rw [← hpe, hcnt] at hc
  have HR : Hid _ := parI_no (k := 1) (o := o) (ps := ps) (by rw [candI, if_neg (by decide), if_pos (by decide), if_neg (by rw [hcnt]; exact fun h => hc h.1)])
  have HCUT : Hid (∀ w, Calls Tryz.prog 15 #[.string s, .int .u8 32] w fun e w' => ∃ g cap, e = .returned (.slice (some ⟨g, 0, none⟩) cnt cap) ∧ cnt ≤ cap ∧ cap ≤ 9223372036854775807 ∧ w.heap.size ≤ g ∧ g < w'.heap.size ∧ w'.cell? ⟨g, 0, none⟩ = some (.string P0) ∧ Hid (True) ∧ Below w.heap.size w w') := fun w => (HCUT0 w).mono fun e w' ⟨v, he, ho1, hb⟩ => by
    obtain ⟨g, cap, rfl, h1, h2, h3, h4, h5⟩ := own_words ho1 hpn
    rw [hcnt] at he h1
    unfold maxLen at h2
    exact ⟨g, cap, he, h1, h2, h3, h4, by rw [hP0]; exact h5 0 p0 hp0, trivial, hb⟩
  clear HCUT0 hP0 hpe
  have hcn : ((cnt : Int) == 2) = false := by rw [beq_eq_false_iff_ne]; omega
  have hcn2 : ((cnt : Int) != 2) = true := by rw [bne_iff_ne]; omega
  clear hk hps ho hpn hp0 hcnt
  go_enter Tryz.func6, Tryz.ntmps6
  go_wp2_with (first
    | (go_at_call 15; refine (HCUT.out _).mono ?_; rintro e w1 ⟨g, cap, rfl, hcap1, hcap2, hg0, hg1, hc0, HJ, hb1⟩; simp at hg0; have hs1 : w.heap.size < w1.heap.size := (by have := hb1.size; simp at this; omega); have zb1 : Hid (ZB w1 w.heap.size) := ZB.keep (heap_alloc_new w _) hb1 (by simp); have hB1 : Hid (Below w.heap.size w w1) := Below.step ((Below.refl _ _).alloc (Nat.le_refl _) _) hb1; clear hb1 HCUT)
    | (go_at_call 16; refine (HOP.out _).mono ?_; rintro e w2 ⟨rfl, hb2⟩; have hs2 : w.heap.size < w2.heap.size := (by have := hb2.size; omega); have hg2 : g < w2.heap.size := (by have := hb2.size; omega); have zb2 : Hid (ZB w2 w.heap.size) := zb1.out.keep hb2 hs1; obtain ⟨z0, z1, z2, z3, z4, z5, z6, zf0, zf1, zf2, zf3, zf4, zf5, zf6⟩ := zb2.out.facts; have hB2 : Hid (Below w.heap.size w w2) := Below.step hB1.out hb2; clear hb2 HOP)
    | (go_at_call 17; refine (HO.out _).mono ?_; rintro e w9 ⟨rfl, hw9⟩; rw [hw9]; clear hw9 HO))
  refine bodyPost_ret (v := .tuple #[.agg #[.int .i64 0, .int .i64 0, .string ⟨#[]⟩, .bool false, .string ⟨#[]⟩, .string ⟨#[]⟩, .string ⟨#[]⟩], .int .i64 4]) (by simp [results, Tryz.results6, go_sem, *]) rfl ⟨by rw [HR.out]; rfl, ?_⟩
  refine Below.alloc ?_ ?_ _
  · exact ((((((hB2.out.setCell (Nat.le_refl _) _).setCell (Nat.le_refl _) _).setCell (Nat.le_refl _) _).setCell (Nat.le_refl _) _).setCell (Nat.le_refl _) _).setCell (Nat.le_refl _) _).setCell (Nat.le_refl _) _
  · exact (((((((hB2.out.setCell (Nat.le_refl _) _).setCell (Nat.le_refl _) _).setCell (Nat.le_refl _) _).setCell (Nat.le_refl _) _).setCell (Nat.le_refl _) _).setCell (Nat.le_refl _) _).setCell (Nat.le_refl _) _).size

set_option maxRecDepth 100000 in
set_option maxHeartbeats 800000 in
theorem parse_1_num (s : ByteArray) (hs : s.size ≤ 1099511627776) (p0 : List UInt8) (rest : List (List UInt8)) (hps : cutL 32 s.data.toList = p0 :: rest) (hk : opdI (opOf p0) = 1) (hc : (p0 :: rest).length = 2) (hq : (numR ((p0 :: rest).getD 1 [])).2 = false) (w : World) : Calls Tryz.prog 6 #[.string s] w fun e w' => e = .returned (outI (parI (1) (opOf p0) (p0 :: rest))) ∧ Below w.heap.size w w' := by
  have HCUT0 := rCut_any 32 s hs
  rw [hps] at HCUT0
  have HOP0 := rOp_any ⟨p0.toArray⟩
  have HO0 := rOperand_any (opOf p0)
  rw [hk] at HO0
  have hob : opOf p0 ≤ 41 := op_le p0
  obtain ⟨P0, hP0⟩ : ∃ P : ByteArray, P = ⟨p0.toArray⟩ := ⟨_, rfl⟩
  obtain ⟨o, ho⟩ : ∃ o, o = opOf p0 := ⟨_, rfl⟩
  simp only at HOP0
  rw [← ho] at HOP0 HO0 hob ⊢
  rw [← hP0] at HOP0
  have HO : Hid (∀ w, _) := HO0
  have HOP : Hid (∀ w, _) := HOP0
  clear HO0 HOP0
  obtain ⟨ps, hpe⟩ : ∃ ps, ps = p0 :: rest := ⟨_, rfl⟩
  have hpn : ps ≠ [] := by rw [hpe]; simp
  have hp0 : ps[0]? = some p0 := by rw [hpe]; rfl
  rw [← hpe] at HCUT0 ⊢
  obtain ⟨cnt, hcnt⟩ : ∃ cnt, ps.length = cnt := ⟨_, rfl⟩
  have hcnt0 : 0 < cnt := by rw [← hcnt, hpe]; simp
  rw [← hpe] at hc hq
  rw [hcnt] at hc
  obtain ⟨p1, hp1⟩ : ∃ p1, ps[1]? = some p1 := ⟨_, List.getElem?_eq_getElem (by omega)⟩
  have hg1' : ps.getD 1 [] = p1 := by rw [List.getD_eq_getElem?_getD, hp1]; rfl
  obtain ⟨P1, hP1⟩ : ∃ P : ByteArray, P = ⟨p1.toArray⟩ := ⟨_, rfl⟩
  rw [hg1'] at hq
  have HR : Hid _ := parI_no (k := 1) (o := o) (ps := ps) (by rw [candI, if_neg (by decide), if_pos (by decide), if_neg (by rw [hg1', hq]; exact fun h => by cases h.2)])
  have HN0 := rNumber_any ⟨p1.toArray⟩
  simp only at HN0
  rw [← hP1] at HN0
  obtain ⟨n, hn⟩ : ∃ n, n = (numR p1).1 := ⟨_, rfl⟩
  rw [← hn] at HN0
  rw [hq] at HN0
  have HNUM : Hid (∀ w, _) := HN0
  clear HN0
  have HCUT : Hid (∀ w, Calls Tryz.prog 15 #[.string s, .int .u8 32] w fun e w' => ∃ g cap, e = .returned (.slice (some ⟨g, 0, none⟩) cnt cap) ∧ cnt ≤ cap ∧ cap ≤ 9223372036854775807 ∧ w.heap.size ≤ g ∧ g < w'.heap.size ∧ w'.cell? ⟨g, 0, none⟩ = some (.string P0) ∧ Hid (w'.cell? ⟨g, 1, none⟩ = some (.string P1) ∧ True) ∧ Below w.heap.size w w') := fun w => (HCUT0 w).mono fun e w' ⟨v, he, ho1, hb⟩ => by
    obtain ⟨g, cap, rfl, h1, h2, h3, h4, h5⟩ := own_words ho1 hpn
    rw [hcnt] at he h1
    unfold maxLen at h2
    exact ⟨g, cap, he, h1, h2, h3, h4, by rw [hP0]; exact h5 0 p0 hp0, ⟨by rw [hP1]; exact h5 1 p1 hp1, trivial⟩, hb⟩
  clear HCUT0 hP0 hpe
  have hcn : ((cnt : Int) == 2) = true := by rw [hc]; rfl
  have hcn2 : ((cnt : Int) != 2) = false := by rw [hc]; rfl
  clear hk hps ho hpn hp0 hcnt hP1 hp1 hg1' hn hq
  subst hc
  go_enter Tryz.func6, Tryz.ntmps6
  go_wp2_with (first
    | (go_at_call 15; refine (HCUT.out _).mono ?_; rintro e w1 ⟨g, cap, rfl, hcap1, hcap2, hg0, hg1, hc0, HJ, hb1⟩; simp at hg0; have hs1 : w.heap.size < w1.heap.size := (by have := hb1.size; simp at this; omega); have zb1 : Hid (ZB w1 w.heap.size) := ZB.keep (heap_alloc_new w _) hb1 (by simp); have hB1 : Hid (Below w.heap.size w w1) := Below.step ((Below.refl _ _).alloc (Nat.le_refl _) _) hb1; clear hb1 HCUT)
    | (go_at_call 16; refine (HOP.out _).mono ?_; rintro e w2 ⟨rfl, hb2⟩; have hs2 : w.heap.size < w2.heap.size := (by have := hb2.size; omega); have hg2 : g < w2.heap.size := (by have := hb2.size; omega); have hd0 : w2.cell? ⟨g, 1, none⟩ = some (.string P1) := (hb2.cell (p := ⟨g, 1, none⟩) hg1).trans (HJ.out.1); have zb2 : Hid (ZB w2 w.heap.size) := zb1.out.keep hb2 hs1; obtain ⟨z0, z1, z2, z3, z4, z5, z6, zf0, zf1, zf2, zf3, zf4, zf5, zf6⟩ := zb2.out.facts; have hB2 : Hid (Below w.heap.size w w2) := Below.step hB1.out hb2; clear hb2 HOP)
    | (go_at_call 17; refine (HO.out _).mono ?_; rintro e w9 ⟨rfl, hw9⟩; rw [hw9]; clear hw9 HO)
    | (go_at_call 18; refine (HNUM.out _).mono ?_; rintro e w3 ⟨rfl, hb3⟩; have hs3 : w.heap.size < w3.heap.size := (by have := hb3.size; simp at this; omega); have hq3 : w2.heap.size < w3.heap.size := (by have := hb3.size; simp at this; omega); have ib3 : Hid (IB w3 w2.heap.size ⟨o, 0, ⟨#[]⟩, false, ⟨#[]⟩, ⟨#[]⟩, ⟨#[]⟩⟩) := IB.keep (heap_alloc_new w2 _) hb3 (by simp); have zb3 : Hid (ZB w3 w.heap.size) := ZB.keep (zb2.out.new hs2) hb3 (by simp; omega); have hB3 : Hid (Below w.heap.size w w3) := Below.step (hB2.out.alloc hB2.out.size _) hb3; clear z0 z1 z2 z3 z4 z5 z6 zf0 zf1 zf2 zf3 zf4 zf5 zf6 hb3 HNUM; obtain ⟨i0, i1, i2, i3, i4, i5, i6, if0, if1, if2, if3, if4, if5, if6⟩ := ib3.out.facts; obtain ⟨z0, z1, z2, z3, z4, z5, z6, zf0, zf1, zf2, zf3, zf4, zf5, zf6⟩ := zb3.out.facts))
  refine bodyPost_ret (v := .tuple #[.agg #[.int .i64 0, .int .i64 0, .string ⟨#[]⟩, .bool false, .string ⟨#[]⟩, .string ⟨#[]⟩, .string ⟨#[]⟩], .int .i64 4]) (by simp [results, Tryz.results6, go_sem, *]) rfl ⟨by rw [HR.out]; rfl, ?_⟩
  exact (((((((hB3.out.setCell (p := ⟨w2.heap.size, 1, none⟩) (Nat.le_of_lt hs2) _).setCell (Nat.le_refl _) _).setCell (Nat.le_refl _) _).setCell (Nat.le_refl _) _).setCell (Nat.le_refl _) _).setCell (Nat.le_refl _) _).setCell (Nat.le_refl _) _).setCell (Nat.le_refl _) _

set_option maxRecDepth 100000 in
set_option maxHeartbeats 800000 in
theorem parse_1_bad (s : ByteArray) (hs : s.size ≤ 1099511627776) (p0 : List UInt8) (rest : List (List UInt8)) (hps : cutL 32 s.data.toList = p0 :: rest) (hk : opdI (opOf p0) = 1) (hc : (p0 :: rest).length = 2) (hq : (numR ((p0 :: rest).getD 1 [])).2 = true) (hi : ickI ⟨opOf p0, (numR ((p0 :: rest).getD 1 [])).1, ⟨#[]⟩, false, ⟨#[]⟩, ⟨#[]⟩, ⟨#[]⟩⟩ ≠ 0) (w : World) : Calls Tryz.prog 6 #[.string s] w fun e w' => e = .returned (outI (parI (1) (opOf p0) (p0 :: rest))) ∧ Below w.heap.size w w' := by
  have HCUT0 := rCut_any 32 s hs
  rw [hps] at HCUT0
  have HOP0 := rOp_any ⟨p0.toArray⟩
  have HO0 := rOperand_any (opOf p0)
  rw [hk] at HO0
  have hob : opOf p0 ≤ 41 := op_le p0
  obtain ⟨P0, hP0⟩ : ∃ P : ByteArray, P = ⟨p0.toArray⟩ := ⟨_, rfl⟩
  obtain ⟨o, ho⟩ : ∃ o, o = opOf p0 := ⟨_, rfl⟩
  simp only at HOP0
  rw [← ho] at HOP0 HO0 hob ⊢
  rw [← hP0] at HOP0
  have HO : Hid (∀ w, _) := HO0
  have HOP : Hid (∀ w, _) := HOP0
  clear HO0 HOP0
  obtain ⟨ps, hpe⟩ : ∃ ps, ps = p0 :: rest := ⟨_, rfl⟩
  have hpn : ps ≠ [] := by rw [hpe]; simp
  have hp0 : ps[0]? = some p0 := by rw [hpe]; rfl
  rw [← hpe] at HCUT0 ⊢
  obtain ⟨cnt, hcnt⟩ : ∃ cnt, ps.length = cnt := ⟨_, rfl⟩
  have hcnt0 : 0 < cnt := by rw [← hcnt, hpe]; simp
  rw [← hpe] at hc hq hi
  rw [hcnt] at hc
  rw [← ho] at hi
  obtain ⟨p1, hp1⟩ : ∃ p1, ps[1]? = some p1 := ⟨_, List.getElem?_eq_getElem (by omega)⟩
  have hg1' : ps.getD 1 [] = p1 := by rw [List.getD_eq_getElem?_getD, hp1]; rfl
  obtain ⟨P1, hP1⟩ : ∃ P : ByteArray, P = ⟨p1.toArray⟩ := ⟨_, rfl⟩
  rw [hg1'] at hq hi
  have hcd : candI (1) o ps = some ⟨o, (numR p1).1, ⟨#[]⟩, false, ⟨#[]⟩, ⟨#[]⟩, ⟨#[]⟩⟩ := by rw [candI, if_neg (by decide), if_pos (by decide), hg1', if_pos ⟨by rw [hcnt]; exact hc, hq⟩]
  have HR : Hid _ := parI_bad hcd hi
  have HN0 := rNumber_any ⟨p1.toArray⟩
  simp only at HN0
  rw [← hP1] at HN0
  obtain ⟨n, hn⟩ : ∃ n, n = (numR p1).1 := ⟨_, rfl⟩
  rw [← hn] at HN0
  rw [hq] at HN0
  rw [← hn] at hi
  have HNUM : Hid (∀ w, _) := HN0
  clear HN0
  have HCK0 := rCheck_any o n ⟨#[]⟩ false ⟨#[]⟩ ⟨#[]⟩ ⟨#[]⟩ (by decide) (by decide) (by decide) (by decide)
  rw [show ickE (o : Int) n ⟨#[]⟩ false ⟨#[]⟩ ⟨#[]⟩ ⟨#[]⟩ = 1 from (ick_01 _ _ _ _ _ _ _).resolve_left hi] at HCK0
  have HCK : Hid (∀ w, _) := HCK0
  clear HCK0
  have HCUT : Hid (∀ w, Calls Tryz.prog 15 #[.string s, .int .u8 32] w fun e w' => ∃ g cap, e = .returned (.slice (some ⟨g, 0, none⟩) cnt cap) ∧ cnt ≤ cap ∧ cap ≤ 9223372036854775807 ∧ w.heap.size ≤ g ∧ g < w'.heap.size ∧ w'.cell? ⟨g, 0, none⟩ = some (.string P0) ∧ Hid (w'.cell? ⟨g, 1, none⟩ = some (.string P1) ∧ True) ∧ Below w.heap.size w w') := fun w => (HCUT0 w).mono fun e w' ⟨v, he, ho1, hb⟩ => by
    obtain ⟨g, cap, rfl, h1, h2, h3, h4, h5⟩ := own_words ho1 hpn
    rw [hcnt] at he h1
    unfold maxLen at h2
    exact ⟨g, cap, he, h1, h2, h3, h4, by rw [hP0]; exact h5 0 p0 hp0, ⟨by rw [hP1]; exact h5 1 p1 hp1, trivial⟩, hb⟩
  clear HCUT0 hP0 hpe
  have hcn : ((cnt : Int) == 2) = true := by rw [hc]; rfl
  have hcn2 : ((cnt : Int) != 2) = false := by rw [hc]; rfl
  clear hk hps ho hpn hp0 hcnt hP1 hp1 hg1' hn hq hcd hi
  subst hc
  go_enter Tryz.func6, Tryz.ntmps6
  go_wp2_with (first
    | (go_at_call 15; refine (HCUT.out _).mono ?_; rintro e w1 ⟨g, cap, rfl, hcap1, hcap2, hg0, hg1, hc0, HJ, hb1⟩; simp at hg0; have hs1 : w.heap.size < w1.heap.size := (by have := hb1.size; simp at this; omega); have zb1 : Hid (ZB w1 w.heap.size) := ZB.keep (heap_alloc_new w _) hb1 (by simp); have hB1 : Hid (Below w.heap.size w w1) := Below.step ((Below.refl _ _).alloc (Nat.le_refl _) _) hb1; clear hb1 HCUT)
    | (go_at_call 16; refine (HOP.out _).mono ?_; rintro e w2 ⟨rfl, hb2⟩; have hs2 : w.heap.size < w2.heap.size := (by have := hb2.size; omega); have hg2 : g < w2.heap.size := (by have := hb2.size; omega); have hd0 : w2.cell? ⟨g, 1, none⟩ = some (.string P1) := (hb2.cell (p := ⟨g, 1, none⟩) hg1).trans (HJ.out.1); have zb2 : Hid (ZB w2 w.heap.size) := zb1.out.keep hb2 hs1; obtain ⟨z0, z1, z2, z3, z4, z5, z6, zf0, zf1, zf2, zf3, zf4, zf5, zf6⟩ := zb2.out.facts; have hB2 : Hid (Below w.heap.size w w2) := Below.step hB1.out hb2; clear hb2 HOP)
    | (go_at_call 17; refine (HO.out _).mono ?_; rintro e w9 ⟨rfl, hw9⟩; rw [hw9]; clear hw9 HO)
    | (go_at_call 18; refine (HNUM.out _).mono ?_; rintro e w3 ⟨rfl, hb3⟩; have hs3 : w.heap.size < w3.heap.size := (by have := hb3.size; simp at this; omega); have hq3 : w2.heap.size < w3.heap.size := (by have := hb3.size; simp at this; omega); have ib3 : Hid (IB w3 w2.heap.size ⟨o, 0, ⟨#[]⟩, false, ⟨#[]⟩, ⟨#[]⟩, ⟨#[]⟩⟩) := IB.keep (heap_alloc_new w2 _) hb3 (by simp); have zb3 : Hid (ZB w3 w.heap.size) := ZB.keep (zb2.out.new hs2) hb3 (by simp; omega); have hB3 : Hid (Below w.heap.size w w3) := Below.step (hB2.out.alloc hB2.out.size _) hb3; clear z0 z1 z2 z3 z4 z5 z6 zf0 zf1 zf2 zf3 zf4 zf5 zf6 hb3 HNUM; obtain ⟨i0, i1, i2, i3, i4, i5, i6, if0, if1, if2, if3, if4, if5, if6⟩ := ib3.out.facts; obtain ⟨z0, z1, z2, z3, z4, z5, z6, zf0, zf1, zf2, zf3, zf4, zf5, zf6⟩ := zb3.out.facts)
    | (go_at_call 19; refine (HCK.out _).mono ?_; rintro e w4 ⟨rfl, hb4⟩; have hs4 : w.heap.size < w4.heap.size := (by have := hb4.size; simp at this; omega); have ib4 : Hid (IB w4 w2.heap.size ⟨o, n, ⟨#[]⟩, false, ⟨#[]⟩, ⟨#[]⟩, ⟨#[]⟩⟩) := IB.keep (ib3.out.setN n) hb4 (by simp [*]); have zb4 : Hid (ZB w4 w.heap.size) := ZB.keep (zb3.out.set (by omega)) hb4 (by simp; omega); have hB4 : Hid (Below w.heap.size w w4) := Below.step (hB3.out.setCell (p := ⟨w2.heap.size, 1, none⟩) (Nat.le_of_lt hs2) _) hb4; clear z0 z1 z2 z3 z4 z5 z6 zf0 zf1 zf2 zf3 zf4 zf5 zf6 i0 i1 i2 i3 i4 i5 i6 if0 if1 if2 if3 if4 if5 if6 hb4 HCK; obtain ⟨j0, j1, j2, j3, j4, j5, j6, jf0, jf1, jf2, jf3, jf4, jf5, jf6⟩ := ib4.out.facts; obtain ⟨y0, y1, y2, y3, y4, y5, y6, yf0, yf1, yf2, yf3, yf4, yf5, yf6⟩ := zb4.out.facts))
  refine bodyPost_ret (v := .tuple #[.agg #[.int .i64 0, .int .i64 0, .string ⟨#[]⟩, .bool false, .string ⟨#[]⟩, .string ⟨#[]⟩, .string ⟨#[]⟩], .int .i64 4]) (by simp [results, Tryz.results6, go_sem, *]) rfl ⟨by rw [HR.out]; rfl, ?_⟩
  exact ((((((hB4.out.setCell (Nat.le_refl _) _).setCell (Nat.le_refl _) _).setCell (Nat.le_refl _) _).setCell (Nat.le_refl _) _).setCell (Nat.le_refl _) _).setCell (Nat.le_refl _) _).setCell (Nat.le_refl _) _

set_option maxRecDepth 100000 in
set_option maxHeartbeats 800000 in
theorem parse_1_yes (s : ByteArray) (hs : s.size ≤ 1099511627776) (p0 : List UInt8) (rest : List (List UInt8)) (hps : cutL 32 s.data.toList = p0 :: rest) (hk : opdI (opOf p0) = 1) (hc : (p0 :: rest).length = 2) (hq : (numR ((p0 :: rest).getD 1 [])).2 = true) (hi : ickI ⟨opOf p0, (numR ((p0 :: rest).getD 1 [])).1, ⟨#[]⟩, false, ⟨#[]⟩, ⟨#[]⟩, ⟨#[]⟩⟩ = 0) (w : World) : Calls Tryz.prog 6 #[.string s] w fun e w' => e = .returned (outI (parI (1) (opOf p0) (p0 :: rest))) ∧ Below w.heap.size w w' := by
  have HCUT0 := rCut_any 32 s hs
  rw [hps] at HCUT0
  have HOP0 := rOp_any ⟨p0.toArray⟩
  have HO0 := rOperand_any (opOf p0)
  rw [hk] at HO0
  have hob : opOf p0 ≤ 41 := op_le p0
  obtain ⟨P0, hP0⟩ : ∃ P : ByteArray, P = ⟨p0.toArray⟩ := ⟨_, rfl⟩
  obtain ⟨o, ho⟩ : ∃ o, o = opOf p0 := ⟨_, rfl⟩
  simp only at HOP0
  rw [← ho] at HOP0 HO0 hob ⊢
  rw [← hP0] at HOP0
  have HO : Hid (∀ w, _) := HO0
  have HOP : Hid (∀ w, _) := HOP0
  clear HO0 HOP0
  obtain ⟨ps, hpe⟩ : ∃ ps, ps = p0 :: rest := ⟨_, rfl⟩
  have hpn : ps ≠ [] := by rw [hpe]; simp
  have hp0 : ps[0]? = some p0 := by rw [hpe]; rfl
  rw [← hpe] at HCUT0 ⊢
  obtain ⟨cnt, hcnt⟩ : ∃ cnt, ps.length = cnt := ⟨_, rfl⟩
  have hcnt0 : 0 < cnt := by rw [← hcnt, hpe]; simp
  rw [← hpe] at hc hq hi
  rw [hcnt] at hc
  rw [← ho] at hi
  obtain ⟨p1, hp1⟩ : ∃ p1, ps[1]? = some p1 := ⟨_, List.getElem?_eq_getElem (by omega)⟩
  have hg1' : ps.getD 1 [] = p1 := by rw [List.getD_eq_getElem?_getD, hp1]; rfl
  obtain ⟨P1, hP1⟩ : ∃ P : ByteArray, P = ⟨p1.toArray⟩ := ⟨_, rfl⟩
  rw [hg1'] at hq hi
  have hcd : candI (1) o ps = some ⟨o, (numR p1).1, ⟨#[]⟩, false, ⟨#[]⟩, ⟨#[]⟩, ⟨#[]⟩⟩ := by rw [candI, if_neg (by decide), if_pos (by decide), hg1', if_pos ⟨by rw [hcnt]; exact hc, hq⟩]
  have HR : Hid _ := parI_yes hcd hi
  have HN0 := rNumber_any ⟨p1.toArray⟩
  simp only at HN0
  rw [← hP1] at HN0
  obtain ⟨n, hn⟩ : ∃ n, n = (numR p1).1 := ⟨_, rfl⟩
  rw [← hn] at HN0
  rw [hq] at HN0
  rw [← hn] at hi HR
  have HNUM : Hid (∀ w, _) := HN0
  clear HN0
  have HCK0 := rCheck_any o n ⟨#[]⟩ false ⟨#[]⟩ ⟨#[]⟩ ⟨#[]⟩ (by decide) (by decide) (by decide) (by decide)
  rw [show ickE (o : Int) n ⟨#[]⟩ false ⟨#[]⟩ ⟨#[]⟩ ⟨#[]⟩ = 0 from hi] at HCK0
  have HCK : Hid (∀ w, _) := HCK0
  clear HCK0
  have HCUT : Hid (∀ w, Calls Tryz.prog 15 #[.string s, .int .u8 32] w fun e w' => ∃ g cap, e = .returned (.slice (some ⟨g, 0, none⟩) cnt cap) ∧ cnt ≤ cap ∧ cap ≤ 9223372036854775807 ∧ w.heap.size ≤ g ∧ g < w'.heap.size ∧ w'.cell? ⟨g, 0, none⟩ = some (.string P0) ∧ Hid (w'.cell? ⟨g, 1, none⟩ = some (.string P1) ∧ True) ∧ Below w.heap.size w w') := fun w => (HCUT0 w).mono fun e w' ⟨v, he, ho1, hb⟩ => by
    obtain ⟨g, cap, rfl, h1, h2, h3, h4, h5⟩ := own_words ho1 hpn
    rw [hcnt] at he h1
    unfold maxLen at h2
    exact ⟨g, cap, he, h1, h2, h3, h4, by rw [hP0]; exact h5 0 p0 hp0, ⟨by rw [hP1]; exact h5 1 p1 hp1, trivial⟩, hb⟩
  clear HCUT0 hP0 hpe
  have hcn : ((cnt : Int) == 2) = true := by rw [hc]; rfl
  have hcn2 : ((cnt : Int) != 2) = false := by rw [hc]; rfl
  clear hk hps ho hpn hp0 hcnt hP1 hp1 hg1' hn hq hcd hi
  subst hc
  go_enter Tryz.func6, Tryz.ntmps6
  go_wp2_with (first
    | (go_at_call 15; refine (HCUT.out _).mono ?_; rintro e w1 ⟨g, cap, rfl, hcap1, hcap2, hg0, hg1, hc0, HJ, hb1⟩; simp at hg0; have hs1 : w.heap.size < w1.heap.size := (by have := hb1.size; simp at this; omega); have zb1 : Hid (ZB w1 w.heap.size) := ZB.keep (heap_alloc_new w _) hb1 (by simp); have hB1 : Hid (Below w.heap.size w w1) := Below.step ((Below.refl _ _).alloc (Nat.le_refl _) _) hb1; clear hb1 HCUT)
    | (go_at_call 16; refine (HOP.out _).mono ?_; rintro e w2 ⟨rfl, hb2⟩; have hs2 : w.heap.size < w2.heap.size := (by have := hb2.size; omega); have hg2 : g < w2.heap.size := (by have := hb2.size; omega); have hd0 : w2.cell? ⟨g, 1, none⟩ = some (.string P1) := (hb2.cell (p := ⟨g, 1, none⟩) hg1).trans (HJ.out.1); have zb2 : Hid (ZB w2 w.heap.size) := zb1.out.keep hb2 hs1; obtain ⟨z0, z1, z2, z3, z4, z5, z6, zf0, zf1, zf2, zf3, zf4, zf5, zf6⟩ := zb2.out.facts; have hB2 : Hid (Below w.heap.size w w2) := Below.step hB1.out hb2; clear hb2 HOP)
    | (go_at_call 17; refine (HO.out _).mono ?_; rintro e w9 ⟨rfl, hw9⟩; rw [hw9]; clear hw9 HO)
    | (go_at_call 18; refine (HNUM.out _).mono ?_; rintro e w3 ⟨rfl, hb3⟩; have hs3 : w.heap.size < w3.heap.size := (by have := hb3.size; simp at this; omega); have hq3 : w2.heap.size < w3.heap.size := (by have := hb3.size; simp at this; omega); have ib3 : Hid (IB w3 w2.heap.size ⟨o, 0, ⟨#[]⟩, false, ⟨#[]⟩, ⟨#[]⟩, ⟨#[]⟩⟩) := IB.keep (heap_alloc_new w2 _) hb3 (by simp); have zb3 : Hid (ZB w3 w.heap.size) := ZB.keep (zb2.out.new hs2) hb3 (by simp; omega); have hB3 : Hid (Below w.heap.size w w3) := Below.step (hB2.out.alloc hB2.out.size _) hb3; clear z0 z1 z2 z3 z4 z5 z6 zf0 zf1 zf2 zf3 zf4 zf5 zf6 hb3 HNUM; obtain ⟨i0, i1, i2, i3, i4, i5, i6, if0, if1, if2, if3, if4, if5, if6⟩ := ib3.out.facts; obtain ⟨z0, z1, z2, z3, z4, z5, z6, zf0, zf1, zf2, zf3, zf4, zf5, zf6⟩ := zb3.out.facts)
    | (go_at_call 19; refine (HCK.out _).mono ?_; rintro e w4 ⟨rfl, hb4⟩; have hs4 : w.heap.size < w4.heap.size := (by have := hb4.size; simp at this; omega); have ib4 : Hid (IB w4 w2.heap.size ⟨o, n, ⟨#[]⟩, false, ⟨#[]⟩, ⟨#[]⟩, ⟨#[]⟩⟩) := IB.keep (ib3.out.setN n) hb4 (by simp [*]); have zb4 : Hid (ZB w4 w.heap.size) := ZB.keep (zb3.out.set (by omega)) hb4 (by simp; omega); have hB4 : Hid (Below w.heap.size w w4) := Below.step (hB3.out.setCell (p := ⟨w2.heap.size, 1, none⟩) (Nat.le_of_lt hs2) _) hb4; clear z0 z1 z2 z3 z4 z5 z6 zf0 zf1 zf2 zf3 zf4 zf5 zf6 i0 i1 i2 i3 i4 i5 i6 if0 if1 if2 if3 if4 if5 if6 hb4 HCK; obtain ⟨j0, j1, j2, j3, j4, j5, j6, jf0, jf1, jf2, jf3, jf4, jf5, jf6⟩ := ib4.out.facts; obtain ⟨y0, y1, y2, y3, y4, y5, y6, yf0, yf1, yf2, yf3, yf4, yf5, yf6⟩ := zb4.out.facts))
  refine bodyPost_ret (v := .tuple #[.agg #[.int .i64 (o : Int), .int .i64 n, .string ⟨#[]⟩, .bool false, .string ⟨#[]⟩, .string ⟨#[]⟩, .string ⟨#[]⟩], .int .i64 0]) (by simp [results, Tryz.results6, go_sem, *]) rfl ⟨by rw [HR.out]; rfl, ?_⟩
  exact ((((((hB4.out.setCell (Nat.le_refl _) _).setCell (Nat.le_refl _) _).setCell (Nat.le_refl _) _).setCell (Nat.le_refl _) _).setCell (Nat.le_refl _) _).setCell (Nat.le_refl _) _).setCell (Nat.le_refl _) _

set_option maxRecDepth 100000 in
set_option maxHeartbeats 800000 in
theorem parse_2_cnt (s : ByteArray) (hs : s.size ≤ 1099511627776) (p0 : List UInt8) (rest : List (List UInt8)) (hps : cutL 32 s.data.toList = p0 :: rest) (hk : opdI (opOf p0) = 2) (hc : (p0 :: rest).length ≠ 2) (w : World) : Calls Tryz.prog 6 #[.string s] w fun e w' => e = .returned (outI (parI (2) (opOf p0) (p0 :: rest))) ∧ Below w.heap.size w w' := by
  have HCUT0 := rCut_any 32 s hs
  rw [hps] at HCUT0
  have HOP0 := rOp_any ⟨p0.toArray⟩
  have HO0 := rOperand_any (opOf p0)
  rw [hk] at HO0
  have hob : opOf p0 ≤ 41 := op_le p0
  obtain ⟨P0, hP0⟩ : ∃ P : ByteArray, P = ⟨p0.toArray⟩ := ⟨_, rfl⟩
  obtain ⟨o, ho⟩ : ∃ o, o = opOf p0 := ⟨_, rfl⟩
  simp only at HOP0
  rw [← ho] at HOP0 HO0 hob ⊢
  rw [← hP0] at HOP0
  have HO : Hid (∀ w, _) := HO0
  have HOP : Hid (∀ w, _) := HOP0
  clear HO0 HOP0
  obtain ⟨ps, hpe⟩ : ∃ ps, ps = p0 :: rest := ⟨_, rfl⟩
  have hpn : ps ≠ [] := by rw [hpe]; simp
  have hp0 : ps[0]? = some p0 := by rw [hpe]; rfl
  rw [← hpe] at HCUT0 ⊢
  obtain ⟨cnt, hcnt⟩ : ∃ cnt, ps.length = cnt := ⟨_, rfl⟩
  have hcnt0 : 0 < cnt := by rw [← hcnt, hpe]; simp
  rw [← hpe, hcnt] at hc
  have HR : Hid _ := parI_no (k := 2) (o := o) (ps := ps) (by rw [candI, if_neg (by decide), if_pos (by decide), if_neg (by rw [hcnt]; exact fun h => hc h.1)])
  have HCUT : Hid (∀ w, Calls Tryz.prog 15 #[.string s, .int .u8 32] w fun e w' => ∃ g cap, e = .returned (.slice (some ⟨g, 0, none⟩) cnt cap) ∧ cnt ≤ cap ∧ cap ≤ 9223372036854775807 ∧ w.heap.size ≤ g ∧ g < w'.heap.size ∧ w'.cell? ⟨g, 0, none⟩ = some (.string P0) ∧ Hid (True) ∧ Below w.heap.size w w') := fun w => (HCUT0 w).mono fun e w' ⟨v, he, ho1, hb⟩ => by
    obtain ⟨g, cap, rfl, h1, h2, h3, h4, h5⟩ := own_words ho1 hpn
    rw [hcnt] at he h1
    unfold maxLen at h2
    exact ⟨g, cap, he, h1, h2, h3, h4, by rw [hP0]; exact h5 0 p0 hp0, trivial, hb⟩
  clear HCUT0 hP0 hpe
  have hcn : ((cnt : Int) == 2) = false := by rw [beq_eq_false_iff_ne]; omega
  have hcn2 : ((cnt : Int) != 2) = true := by rw [bne_iff_ne]; omega
  clear hk hps ho hpn hp0 hcnt
  go_enter Tryz.func6, Tryz.ntmps6
  go_wp2_with (first
    | (go_at_call 15; refine (HCUT.out _).mono ?_; rintro e w1 ⟨g, cap, rfl, hcap1, hcap2, hg0, hg1, hc0, HJ, hb1⟩; simp at hg0; have hs1 : w.heap.size < w1.heap.size := (by have := hb1.size; simp at this; omega); have zb1 : Hid (ZB w1 w.heap.size) := ZB.keep (heap_alloc_new w _) hb1 (by simp); have hB1 : Hid (Below w.heap.size w w1) := Below.step ((Below.refl _ _).alloc (Nat.le_refl _) _) hb1; clear hb1 HCUT)
    | (go_at_call 16; refine (HOP.out _).mono ?_; rintro e w2 ⟨rfl, hb2⟩; have hs2 : w.heap.size < w2.heap.size := (by have := hb2.size; omega); have hg2 : g < w2.heap.size := (by have := hb2.size; omega); have zb2 : Hid (ZB w2 w.heap.size) := zb1.out.keep hb2 hs1; obtain ⟨z0, z1, z2, z3, z4, z5, z6, zf0, zf1, zf2, zf3, zf4, zf5, zf6⟩ := zb2.out.facts; have hB2 : Hid (Below w.heap.size w w2) := Below.step hB1.out hb2; clear hb2 HOP)
    | (go_at_call 17; refine (HO.out _).mono ?_; rintro e w9 ⟨rfl, hw9⟩; rw [hw9]; clear hw9 HO))
  refine bodyPost_ret (v := .tuple #[.agg #[.int .i64 0, .int .i64 0, .string ⟨#[]⟩, .bool false, .string ⟨#[]⟩, .string ⟨#[]⟩, .string ⟨#[]⟩], .int .i64 4]) (by simp [results, Tryz.results6, go_sem, *]) rfl ⟨by rw [HR.out]; rfl, ?_⟩
  refine Below.alloc ?_ ?_ _
  · exact ((((((hB2.out.setCell (Nat.le_refl _) _).setCell (Nat.le_refl _) _).setCell (Nat.le_refl _) _).setCell (Nat.le_refl _) _).setCell (Nat.le_refl _) _).setCell (Nat.le_refl _) _).setCell (Nat.le_refl _) _
  · exact (((((((hB2.out.setCell (Nat.le_refl _) _).setCell (Nat.le_refl _) _).setCell (Nat.le_refl _) _).setCell (Nat.le_refl _) _).setCell (Nat.le_refl _) _).setCell (Nat.le_refl _) _).setCell (Nat.le_refl _) _).size

set_option maxRecDepth 100000 in
set_option maxHeartbeats 800000 in
theorem parse_2_num (s : ByteArray) (hs : s.size ≤ 1099511627776) (p0 : List UInt8) (rest : List (List UInt8)) (hps : cutL 32 s.data.toList = p0 :: rest) (hk : opdI (opOf p0) = 2) (hc : (p0 :: rest).length = 2) (hq : (numR ((p0 :: rest).getD 1 [])).2 = false) (w : World) : Calls Tryz.prog 6 #[.string s] w fun e w' => e = .returned (outI (parI (2) (opOf p0) (p0 :: rest))) ∧ Below w.heap.size w w' := by
  have HCUT0 := rCut_any 32 s hs
  rw [hps] at HCUT0
  have HOP0 := rOp_any ⟨p0.toArray⟩
  have HO0 := rOperand_any (opOf p0)
  rw [hk] at HO0
  have hob : opOf p0 ≤ 41 := op_le p0
  obtain ⟨P0, hP0⟩ : ∃ P : ByteArray, P = ⟨p0.toArray⟩ := ⟨_, rfl⟩
  obtain ⟨o, ho⟩ : ∃ o, o = opOf p0 := ⟨_, rfl⟩
  simp only at HOP0
  rw [← ho] at HOP0 HO0 hob ⊢
  rw [← hP0] at HOP0
  have HO : Hid (∀ w, _) := HO0
  have HOP : Hid (∀ w, _) := HOP0
  clear HO0 HOP0
  obtain ⟨ps, hpe⟩ : ∃ ps, ps = p0 :: rest := ⟨_, rfl⟩
  have hpn : ps ≠ [] := by rw [hpe]; simp
  have hp0 : ps[0]? = some p0 := by rw [hpe]; rfl
  rw [← hpe] at HCUT0 ⊢
  obtain ⟨cnt, hcnt⟩ : ∃ cnt, ps.length = cnt := ⟨_, rfl⟩
  have hcnt0 : 0 < cnt := by rw [← hcnt, hpe]; simp
  rw [← hpe] at hc hq
  rw [hcnt] at hc
  obtain ⟨p1, hp1⟩ : ∃ p1, ps[1]? = some p1 := ⟨_, List.getElem?_eq_getElem (by omega)⟩
  have hg1' : ps.getD 1 [] = p1 := by rw [List.getD_eq_getElem?_getD, hp1]; rfl
  obtain ⟨P1, hP1⟩ : ∃ P : ByteArray, P = ⟨p1.toArray⟩ := ⟨_, rfl⟩
  rw [hg1'] at hq
  have HR : Hid _ := parI_no (k := 2) (o := o) (ps := ps) (by rw [candI, if_neg (by decide), if_pos (by decide), if_neg (by rw [hg1', hq]; exact fun h => by cases h.2)])
  have HN0 := rNumber_any ⟨p1.toArray⟩
  simp only at HN0
  rw [← hP1] at HN0
  obtain ⟨n, hn⟩ : ∃ n, n = (numR p1).1 := ⟨_, rfl⟩
  rw [← hn] at HN0
  rw [hq] at HN0
  have HNUM : Hid (∀ w, _) := HN0
  clear HN0
  have HCUT : Hid (∀ w, Calls Tryz.prog 15 #[.string s, .int .u8 32] w fun e w' => ∃ g cap, e = .returned (.slice (some ⟨g, 0, none⟩) cnt cap) ∧ cnt ≤ cap ∧ cap ≤ 9223372036854775807 ∧ w.heap.size ≤ g ∧ g < w'.heap.size ∧ w'.cell? ⟨g, 0, none⟩ = some (.string P0) ∧ Hid (w'.cell? ⟨g, 1, none⟩ = some (.string P1) ∧ True) ∧ Below w.heap.size w w') := fun w => (HCUT0 w).mono fun e w' ⟨v, he, ho1, hb⟩ => by
    obtain ⟨g, cap, rfl, h1, h2, h3, h4, h5⟩ := own_words ho1 hpn
    rw [hcnt] at he h1
    unfold maxLen at h2
    exact ⟨g, cap, he, h1, h2, h3, h4, by rw [hP0]; exact h5 0 p0 hp0, ⟨by rw [hP1]; exact h5 1 p1 hp1, trivial⟩, hb⟩
  clear HCUT0 hP0 hpe
  have hcn : ((cnt : Int) == 2) = true := by rw [hc]; rfl
  have hcn2 : ((cnt : Int) != 2) = false := by rw [hc]; rfl
  clear hk hps ho hpn hp0 hcnt hP1 hp1 hg1' hn hq
  subst hc
  go_enter Tryz.func6, Tryz.ntmps6
  go_wp2_with (first
    | (go_at_call 15; refine (HCUT.out _).mono ?_; rintro e w1 ⟨g, cap, rfl, hcap1, hcap2, hg0, hg1, hc0, HJ, hb1⟩; simp at hg0; have hs1 : w.heap.size < w1.heap.size := (by have := hb1.size; simp at this; omega); have zb1 : Hid (ZB w1 w.heap.size) := ZB.keep (heap_alloc_new w _) hb1 (by simp); have hB1 : Hid (Below w.heap.size w w1) := Below.step ((Below.refl _ _).alloc (Nat.le_refl _) _) hb1; clear hb1 HCUT)
    | (go_at_call 16; refine (HOP.out _).mono ?_; rintro e w2 ⟨rfl, hb2⟩; have hs2 : w.heap.size < w2.heap.size := (by have := hb2.size; omega); have hg2 : g < w2.heap.size := (by have := hb2.size; omega); have hd0 : w2.cell? ⟨g, 1, none⟩ = some (.string P1) := (hb2.cell (p := ⟨g, 1, none⟩) hg1).trans (HJ.out.1); have zb2 : Hid (ZB w2 w.heap.size) := zb1.out.keep hb2 hs1; obtain ⟨z0, z1, z2, z3, z4, z5, z6, zf0, zf1, zf2, zf3, zf4, zf5, zf6⟩ := zb2.out.facts; have hB2 : Hid (Below w.heap.size w w2) := Below.step hB1.out hb2; clear hb2 HOP)
    | (go_at_call 17; refine (HO.out _).mono ?_; rintro e w9 ⟨rfl, hw9⟩; rw [hw9]; clear hw9 HO)
    | (go_at_call 18; refine (HNUM.out _).mono ?_; rintro e w3 ⟨rfl, hb3⟩; have hs3 : w.heap.size < w3.heap.size := (by have := hb3.size; simp at this; omega); have hq3 : w2.heap.size < w3.heap.size := (by have := hb3.size; simp at this; omega); have ib3 : Hid (IB w3 w2.heap.size ⟨o, 0, ⟨#[]⟩, false, ⟨#[]⟩, ⟨#[]⟩, ⟨#[]⟩⟩) := IB.keep (heap_alloc_new w2 _) hb3 (by simp); have zb3 : Hid (ZB w3 w.heap.size) := ZB.keep (zb2.out.new hs2) hb3 (by simp; omega); have hB3 : Hid (Below w.heap.size w w3) := Below.step (hB2.out.alloc hB2.out.size _) hb3; clear z0 z1 z2 z3 z4 z5 z6 zf0 zf1 zf2 zf3 zf4 zf5 zf6 hb3 HNUM; obtain ⟨i0, i1, i2, i3, i4, i5, i6, if0, if1, if2, if3, if4, if5, if6⟩ := ib3.out.facts; obtain ⟨z0, z1, z2, z3, z4, z5, z6, zf0, zf1, zf2, zf3, zf4, zf5, zf6⟩ := zb3.out.facts))
  refine bodyPost_ret (v := .tuple #[.agg #[.int .i64 0, .int .i64 0, .string ⟨#[]⟩, .bool false, .string ⟨#[]⟩, .string ⟨#[]⟩, .string ⟨#[]⟩], .int .i64 4]) (by simp [results, Tryz.results6, go_sem, *]) rfl ⟨by rw [HR.out]; rfl, ?_⟩
  exact (((((((hB3.out.setCell (p := ⟨w2.heap.size, 1, none⟩) (Nat.le_of_lt hs2) _).setCell (Nat.le_refl _) _).setCell (Nat.le_refl _) _).setCell (Nat.le_refl _) _).setCell (Nat.le_refl _) _).setCell (Nat.le_refl _) _).setCell (Nat.le_refl _) _).setCell (Nat.le_refl _) _

set_option maxRecDepth 100000 in
set_option maxHeartbeats 800000 in
theorem parse_2_bad (s : ByteArray) (hs : s.size ≤ 1099511627776) (p0 : List UInt8) (rest : List (List UInt8)) (hps : cutL 32 s.data.toList = p0 :: rest) (hk : opdI (opOf p0) = 2) (hc : (p0 :: rest).length = 2) (hq : (numR ((p0 :: rest).getD 1 [])).2 = true) (hi : ickI ⟨opOf p0, (numR ((p0 :: rest).getD 1 [])).1, ⟨#[]⟩, false, ⟨#[]⟩, ⟨#[]⟩, ⟨#[]⟩⟩ ≠ 0) (w : World) : Calls Tryz.prog 6 #[.string s] w fun e w' => e = .returned (outI (parI (2) (opOf p0) (p0 :: rest))) ∧ Below w.heap.size w w' := by
  have HCUT0 := rCut_any 32 s hs
  rw [hps] at HCUT0
  have HOP0 := rOp_any ⟨p0.toArray⟩
  have HO0 := rOperand_any (opOf p0)
  rw [hk] at HO0
  have hob : opOf p0 ≤ 41 := op_le p0
  obtain ⟨P0, hP0⟩ : ∃ P : ByteArray, P = ⟨p0.toArray⟩ := ⟨_, rfl⟩
  obtain ⟨o, ho⟩ : ∃ o, o = opOf p0 := ⟨_, rfl⟩
  simp only at HOP0
  rw [← ho] at HOP0 HO0 hob ⊢
  rw [← hP0] at HOP0
  have HO : Hid (∀ w, _) := HO0
  have HOP : Hid (∀ w, _) := HOP0
  clear HO0 HOP0
  obtain ⟨ps, hpe⟩ : ∃ ps, ps = p0 :: rest := ⟨_, rfl⟩
  have hpn : ps ≠ [] := by rw [hpe]; simp
  have hp0 : ps[0]? = some p0 := by rw [hpe]; rfl
  rw [← hpe] at HCUT0 ⊢
  obtain ⟨cnt, hcnt⟩ : ∃ cnt, ps.length = cnt := ⟨_, rfl⟩
  have hcnt0 : 0 < cnt := by rw [← hcnt, hpe]; simp
  rw [← hpe] at hc hq hi
  rw [hcnt] at hc
  rw [← ho] at hi
  obtain ⟨p1, hp1⟩ : ∃ p1, ps[1]? = some p1 := ⟨_, List.getElem?_eq_getElem (by omega)⟩
  have hg1' : ps.getD 1 [] = p1 := by rw [List.getD_eq_getElem?_getD, hp1]; rfl
  obtain ⟨P1, hP1⟩ : ∃ P : ByteArray, P = ⟨p1.toArray⟩ := ⟨_, rfl⟩
  rw [hg1'] at hq hi
  have hcd : candI (2) o ps = some ⟨o, (numR p1).1, ⟨#[]⟩, false, ⟨#[]⟩, ⟨#[]⟩, ⟨#[]⟩⟩ := by rw [candI, if_neg (by decide), if_pos (by decide), hg1', if_pos ⟨by rw [hcnt]; exact hc, hq⟩]
  have HR : Hid _ := parI_bad hcd hi
  have HN0 := rNumber_any ⟨p1.toArray⟩
  simp only at HN0
  rw [← hP1] at HN0
  obtain ⟨n, hn⟩ : ∃ n, n = (numR p1).1 := ⟨_, rfl⟩
  rw [← hn] at HN0
  rw [hq] at HN0
  rw [← hn] at hi
  have HNUM : Hid (∀ w, _) := HN0
  clear HN0
  have HCK0 := rCheck_any o n ⟨#[]⟩ false ⟨#[]⟩ ⟨#[]⟩ ⟨#[]⟩ (by decide) (by decide) (by decide) (by decide)
  rw [show ickE (o : Int) n ⟨#[]⟩ false ⟨#[]⟩ ⟨#[]⟩ ⟨#[]⟩ = 1 from (ick_01 _ _ _ _ _ _ _).resolve_left hi] at HCK0
  have HCK : Hid (∀ w, _) := HCK0
  clear HCK0
  have HCUT : Hid (∀ w, Calls Tryz.prog 15 #[.string s, .int .u8 32] w fun e w' => ∃ g cap, e = .returned (.slice (some ⟨g, 0, none⟩) cnt cap) ∧ cnt ≤ cap ∧ cap ≤ 9223372036854775807 ∧ w.heap.size ≤ g ∧ g < w'.heap.size ∧ w'.cell? ⟨g, 0, none⟩ = some (.string P0) ∧ Hid (w'.cell? ⟨g, 1, none⟩ = some (.string P1) ∧ True) ∧ Below w.heap.size w w') := fun w => (HCUT0 w).mono fun e w' ⟨v, he, ho1, hb⟩ => by
    obtain ⟨g, cap, rfl, h1, h2, h3, h4, h5⟩ := own_words ho1 hpn
    rw [hcnt] at he h1
    unfold maxLen at h2
    exact ⟨g, cap, he, h1, h2, h3, h4, by rw [hP0]; exact h5 0 p0 hp0, ⟨by rw [hP1]; exact h5 1 p1 hp1, trivial⟩, hb⟩
  clear HCUT0 hP0 hpe
  have hcn : ((cnt : Int) == 2) = true := by rw [hc]; rfl
  have hcn2 : ((cnt : Int) != 2) = false := by rw [hc]; rfl
  clear hk hps ho hpn hp0 hcnt hP1 hp1 hg1' hn hq hcd hi
  subst hc
  go_enter Tryz.func6, Tryz.ntmps6
  go_wp2_with (first
    | (go_at_call 15; refine (HCUT.out _).mono ?_; rintro e w1 ⟨g, cap, rfl, hcap1, hcap2, hg0, hg1, hc0, HJ, hb1⟩; simp at hg0; have hs1 : w.heap.size < w1.heap.size := (by have := hb1.size; simp at this; omega); have zb1 : Hid (ZB w1 w.heap.size) := ZB.keep (heap_alloc_new w _) hb1 (by simp); have hB1 : Hid (Below w.heap.size w w1) := Below.step ((Below.refl _ _).alloc (Nat.le_refl _) _) hb1; clear hb1 HCUT)
    | (go_at_call 16; refine (HOP.out _).mono ?_; rintro e w2 ⟨rfl, hb2⟩; have hs2 : w.heap.size < w2.heap.size := (by have := hb2.size; omega); have hg2 : g < w2.heap.size := (by have := hb2.size; omega); have hd0 : w2.cell? ⟨g, 1, none⟩ = some (.string P1) := (hb2.cell (p := ⟨g, 1, none⟩) hg1).trans (HJ.out.1); have zb2 : Hid (ZB w2 w.heap.size) := zb1.out.keep hb2 hs1; obtain ⟨z0, z1, z2, z3, z4, z5, z6, zf0, zf1, zf2, zf3, zf4, zf5, zf6⟩ := zb2.out.facts; have hB2 : Hid (Below w.heap.size w w2) := Below.step hB1.out hb2; clear hb2 HOP)
    | (go_at_call 17; refine (HO.out _).mono ?_; rintro e w9 ⟨rfl, hw9⟩; rw [hw9]; clear hw9 HO)
    | (go_at_call 18; refine (HNUM.out _).mono ?_; rintro e w3 ⟨rfl, hb3⟩; have hs3 : w.heap.size < w3.heap.size := (by have := hb3.size; simp at this; omega); have hq3 : w2.heap.size < w3.heap.size := (by have := hb3.size; simp at this; omega); have ib3 : Hid (IB w3 w2.heap.size ⟨o, 0, ⟨#[]⟩, false, ⟨#[]⟩, ⟨#[]⟩, ⟨#[]⟩⟩) := IB.keep (heap_alloc_new w2 _) hb3 (by simp); have zb3 : Hid (ZB w3 w.heap.size) := ZB.keep (zb2.out.new hs2) hb3 (by simp; omega); have hB3 : Hid (Below w.heap.size w w3) := Below.step (hB2.out.alloc hB2.out.size _) hb3; clear z0 z1 z2 z3 z4 z5 z6 zf0 zf1 zf2 zf3 zf4 zf5 zf6 hb3 HNUM; obtain ⟨i0, i1, i2, i3, i4, i5, i6, if0, if1, if2, if3, if4, if5, if6⟩ := ib3.out.facts; obtain ⟨z0, z1, z2, z3, z4, z5, z6, zf0, zf1, zf2, zf3, zf4, zf5, zf6⟩ := zb3.out.facts)
    | (go_at_call 19; refine (HCK.out _).mono ?_; rintro e w4 ⟨rfl, hb4⟩; have hs4 : w.heap.size < w4.heap.size := (by have := hb4.size; simp at this; omega); have ib4 : Hid (IB w4 w2.heap.size ⟨o, n, ⟨#[]⟩, false, ⟨#[]⟩, ⟨#[]⟩, ⟨#[]⟩⟩) := IB.keep (ib3.out.setN n) hb4 (by simp [*]); have zb4 : Hid (ZB w4 w.heap.size) := ZB.keep (zb3.out.set (by omega)) hb4 (by simp; omega); have hB4 : Hid (Below w.heap.size w w4) := Below.step (hB3.out.setCell (p := ⟨w2.heap.size, 1, none⟩) (Nat.le_of_lt hs2) _) hb4; clear z0 z1 z2 z3 z4 z5 z6 zf0 zf1 zf2 zf3 zf4 zf5 zf6 i0 i1 i2 i3 i4 i5 i6 if0 if1 if2 if3 if4 if5 if6 hb4 HCK; obtain ⟨j0, j1, j2, j3, j4, j5, j6, jf0, jf1, jf2, jf3, jf4, jf5, jf6⟩ := ib4.out.facts; obtain ⟨y0, y1, y2, y3, y4, y5, y6, yf0, yf1, yf2, yf3, yf4, yf5, yf6⟩ := zb4.out.facts))
  refine bodyPost_ret (v := .tuple #[.agg #[.int .i64 0, .int .i64 0, .string ⟨#[]⟩, .bool false, .string ⟨#[]⟩, .string ⟨#[]⟩, .string ⟨#[]⟩], .int .i64 4]) (by simp [results, Tryz.results6, go_sem, *]) rfl ⟨by rw [HR.out]; rfl, ?_⟩
  exact ((((((hB4.out.setCell (Nat.le_refl _) _).setCell (Nat.le_refl _) _).setCell (Nat.le_refl _) _).setCell (Nat.le_refl _) _).setCell (Nat.le_refl _) _).setCell (Nat.le_refl _) _).setCell (Nat.le_refl _) _

set_option maxRecDepth 100000 in
set_option maxHeartbeats 800000 in
theorem parse_2_yes (s : ByteArray) (hs : s.size ≤ 1099511627776) (p0 : List UInt8) (rest : List (List UInt8)) (hps : cutL 32 s.data.toList = p0 :: rest) (hk : opdI (opOf p0) = 2) (hc : (p0 :: rest).length = 2) (hq : (numR ((p0 :: rest).getD 1 [])).2 = true) (hi : ickI ⟨opOf p0, (numR ((p0 :: rest).getD 1 [])).1, ⟨#[]⟩, false, ⟨#[]⟩, ⟨#[]⟩, ⟨#[]⟩⟩ = 0) (w : World) : Calls Tryz.prog 6 #[.string s] w fun e w' => e = .returned (outI (parI (2) (opOf p0) (p0 :: rest))) ∧ Below w.heap.size w w' := by
  have HCUT0 := rCut_any 32 s hs
  rw [hps] at HCUT0
  have HOP0 := rOp_any ⟨p0.toArray⟩
  have HO0 := rOperand_any (opOf p0)
  rw [hk] at HO0
  have hob : opOf p0 ≤ 41 := op_le p0
  obtain ⟨P0, hP0⟩ : ∃ P : ByteArray, P = ⟨p0.toArray⟩ := ⟨_, rfl⟩
  obtain ⟨o, ho⟩ : ∃ o, o = opOf p0 := ⟨_, rfl⟩
  simp only at HOP0
  rw [← ho] at HOP0 HO0 hob ⊢
  rw [← hP0] at HOP0
  have HO : Hid (∀ w, _) := HO0
  have HOP : Hid (∀ w, _) := HOP0
  clear HO0 HOP0
  obtain ⟨ps, hpe⟩ : ∃ ps, ps = p0 :: rest := ⟨_, rfl⟩
  have hpn : ps ≠ [] := by rw [hpe]; simp
  have hp0 : ps[0]? = some p0 := by rw [hpe]; rfl
  rw [← hpe] at HCUT0 ⊢
  obtain ⟨cnt, hcnt⟩ : ∃ cnt, ps.length = cnt := ⟨_, rfl⟩
  have hcnt0 : 0 < cnt := by rw [← hcnt, hpe]; simp
  rw [← hpe] at hc hq hi
  rw [hcnt] at hc
  rw [← ho] at hi
  obtain ⟨p1, hp1⟩ : ∃ p1, ps[1]? = some p1 := ⟨_, List.getElem?_eq_getElem (by omega)⟩
  have hg1' : ps.getD 1 [] = p1 := by rw [List.getD_eq_getElem?_getD, hp1]; rfl
  obtain ⟨P1, hP1⟩ : ∃ P : ByteArray, P = ⟨p1.toArray⟩ := ⟨_, rfl⟩
  rw [hg1'] at hq hi
  have hcd : candI (2) o ps = some ⟨o, (numR p1).1, ⟨#[]⟩, false, ⟨#[]⟩, ⟨#[]⟩, ⟨#[]⟩⟩ := by rw [candI, if_neg (by decide), if_pos (by decide), hg1', if_pos ⟨by rw [hcnt]; exact hc, hq⟩]
  have HR : Hid _ := parI_yes hcd hi
  have HN0 := rNumber_any ⟨p1.toArray⟩
  simp only at HN0
  rw [← hP1] at HN0
  obtain ⟨n, hn⟩ : ∃ n, n = (numR p1).1 := ⟨_, rfl⟩
  rw [← hn] at HN0
  rw [hq] at HN0
  rw [← hn] at hi HR
  have HNUM : Hid (∀ w, _) := HN0
  clear HN0
  have HCK0 := rCheck_any o n ⟨#[]⟩ false ⟨#[]⟩ ⟨#[]⟩ ⟨#[]⟩ (by decide) (by decide) (by decide) (by decide)
  rw [show ickE (o : Int) n ⟨#[]⟩ false ⟨#[]⟩ ⟨#[]⟩ ⟨#[]⟩ = 0 from hi] at HCK0
  have HCK : Hid (∀ w, _) := HCK0
  clear HCK0
  have HCUT : Hid (∀ w, Calls Tryz.prog 15 #[.string s, .int .u8 32] w fun e w' => ∃ g cap, e = .returned (.slice (some ⟨g, 0, none⟩) cnt cap) ∧ cnt ≤ cap ∧ cap ≤ 9223372036854775807 ∧ w.heap.size ≤ g ∧ g < w'.heap.size ∧ w'.cell? ⟨g, 0, none⟩ = some (.string P0) ∧ Hid (w'.cell? ⟨g, 1, none⟩ = some (.string P1) ∧ True) ∧ Below w.heap.size w w') := fun w => (HCUT0 w).mono fun e w' ⟨v, he, ho1, hb⟩ => by
    obtain ⟨g, cap, rfl, h1, h2, h3, h4, h5⟩ := own_words ho1 hpn
    rw [hcnt] at he h1
    unfold maxLen at h2
    exact ⟨g, cap, he, h1, h2, h3, h4, by rw [hP0]; exact h5 0 p0 hp0, ⟨by rw [hP1]; exact h5 1 p1 hp1, trivial⟩, hb⟩
  clear HCUT0 hP0 hpe
  have hcn : ((cnt : Int) == 2) = true := by rw [hc]; rfl
  have hcn2 : ((cnt : Int) != 2) = false := by rw [hc]; rfl
  clear hk hps ho hpn hp0 hcnt hP1 hp1 hg1' hn hq hcd hi
  subst hc
  go_enter Tryz.func6, Tryz.ntmps6
  go_wp2_with (first
    | (go_at_call 15; refine (HCUT.out _).mono ?_; rintro e w1 ⟨g, cap, rfl, hcap1, hcap2, hg0, hg1, hc0, HJ, hb1⟩; simp at hg0; have hs1 : w.heap.size < w1.heap.size := (by have := hb1.size; simp at this; omega); have zb1 : Hid (ZB w1 w.heap.size) := ZB.keep (heap_alloc_new w _) hb1 (by simp); have hB1 : Hid (Below w.heap.size w w1) := Below.step ((Below.refl _ _).alloc (Nat.le_refl _) _) hb1; clear hb1 HCUT)
    | (go_at_call 16; refine (HOP.out _).mono ?_; rintro e w2 ⟨rfl, hb2⟩; have hs2 : w.heap.size < w2.heap.size := (by have := hb2.size; omega); have hg2 : g < w2.heap.size := (by have := hb2.size; omega); have hd0 : w2.cell? ⟨g, 1, none⟩ = some (.string P1) := (hb2.cell (p := ⟨g, 1, none⟩) hg1).trans (HJ.out.1); have zb2 : Hid (ZB w2 w.heap.size) := zb1.out.keep hb2 hs1; obtain ⟨z0, z1, z2, z3, z4, z5, z6, zf0, zf1, zf2, zf3, zf4, zf5, zf6⟩ := zb2.out.facts; have hB2 : Hid (Below w.heap.size w w2) := Below.step hB1.out hb2; clear hb2 HOP)
    | (go_at_call 17; refine (HO.out _).mono ?_; rintro e w9 ⟨rfl, hw9⟩; rw [hw9]; clear hw9 HO)
    | (go_at_call 18; refine (HNUM.out _).mono ?_; rintro e w3 ⟨rfl, hb3⟩; have hs3 : w.heap.size < w3.heap.size := (by have := hb3.size; simp at this; omega); have hq3 : w2.heap.size < w3.heap.size := (by have := hb3.size; simp at this; omega); have ib3 : Hid (IB w3 w2.heap.size ⟨o, 0, ⟨#[]⟩, false, ⟨#[]⟩, ⟨#[]⟩, ⟨#[]⟩⟩) := IB.keep (heap_alloc_new w2 _) hb3 (by simp); have zb3 : Hid (ZB w3 w.heap.size) := ZB.keep (zb2.out.new hs2) hb3 (by simp; omega); have hB3 : Hid (Below w.heap.size w w3) := Below.step (hB2.out.alloc hB2.out.size _) hb3; clear z0 z1 z2 z3 z4 z5 z6 zf0 zf1 zf2 zf3 zf4 zf5 zf6 hb3 HNUM; obtain ⟨i0, i1, i2, i3, i4, i5, i6, if0, if1, if2, if3, if4, if5, if6⟩ := ib3.out.facts; obtain ⟨z0, z1, z2, z3, z4, z5, z6, zf0, zf1, zf2, zf3, zf4, zf5, zf6⟩ := zb3.out.facts)
    | (go_at_call 19; refine (HCK.out _).mono ?_; rintro e w4 ⟨rfl, hb4⟩; have hs4 : w.heap.size < w4.heap.size := (by have := hb4.size; simp at this; omega); have ib4 : Hid (IB w4 w2.heap.size ⟨o, n, ⟨#[]⟩, false, ⟨#[]⟩, ⟨#[]⟩, ⟨#[]⟩⟩) := IB.keep (ib3.out.setN n) hb4 (by simp [*]); have zb4 : Hid (ZB w4 w.heap.size) := ZB.keep (zb3.out.set (by omega)) hb4 (by simp; omega); have hB4 : Hid (Below w.heap.size w w4) := Below.step (hB3.out.setCell (p := ⟨w2.heap.size, 1, none⟩) (Nat.le_of_lt hs2) _) hb4; clear z0 z1 z2 z3 z4 z5 z6 zf0 zf1 zf2 zf3 zf4 zf5 zf6 i0 i1 i2 i3 i4 i5 i6 if0 if1 if2 if3 if4 if5 if6 hb4 HCK; obtain ⟨j0, j1, j2, j3, j4, j5, j6, jf0, jf1, jf2, jf3, jf4, jf5, jf6⟩ := ib4.out.facts; obtain ⟨y0, y1, y2, y3, y4, y5, y6, yf0, yf1, yf2, yf3, yf4, yf5, yf6⟩ := zb4.out.facts))
  refine bodyPost_ret (v := .tuple #[.agg #[.int .i64 (o : Int), .int .i64 n, .string ⟨#[]⟩, .bool false, .string ⟨#[]⟩, .string ⟨#[]⟩, .string ⟨#[]⟩], .int .i64 0]) (by simp [results, Tryz.results6, go_sem, *]) rfl ⟨by rw [HR.out]; rfl, ?_⟩
  exact ((((((hB4.out.setCell (Nat.le_refl _) _).setCell (Nat.le_refl _) _).setCell (Nat.le_refl _) _).setCell (Nat.le_refl _) _).setCell (Nat.le_refl _) _).setCell (Nat.le_refl _) _).setCell (Nat.le_refl _) _

set_option maxRecDepth 100000 in
set_option maxHeartbeats 800000 in
theorem parse_3_cnt (s : ByteArray) (hs : s.size ≤ 1099511627776) (p0 : List UInt8) (rest : List (List UInt8)) (hps : cutL 32 s.data.toList = p0 :: rest) (hk : opdI (opOf p0) = 3) (hc : (p0 :: rest).length ≠ 2) (w : World) : Calls Tryz.prog 6 #[.string s] w fun e w' => e = .returned (outI (parI (3) (opOf p0) (p0 :: rest))) ∧ Below w.heap.size w w' := by
  have HCUT0 := rCut_any 32 s hs
  rw [hps] at HCUT0
  have HOP0 := rOp_any ⟨p0.toArray⟩
  have HO0 := rOperand_any (opOf p0)
  rw [hk] at HO0
  have hob : opOf p0 ≤ 41 := op_le p0
  obtain ⟨P0, hP0⟩ : ∃ P : ByteArray, P = ⟨p0.toArray⟩ := ⟨_, rfl⟩
  obtain ⟨o, ho⟩ : ∃ o, o = opOf p0 := ⟨_, rfl⟩
  simp only at HOP0
  rw [← ho] at HOP0 HO0 hob ⊢
  rw [← hP0] at HOP0
  have HO : Hid (∀ w, _) := HO0
  have HOP : Hid (∀ w, _) := HOP0
  clear HO0 HOP0
  obtain ⟨ps, hpe⟩ : ∃ ps, ps = p0 :: rest := ⟨_, rfl⟩
  have hpn : ps ≠ [] := by rw [hpe]; simp
  have hp0 : ps[0]? = some p0 := by rw [hpe]; rfl
  rw [← hpe] at HCUT0 ⊢
  obtain ⟨cnt, hcnt⟩ : ∃ cnt, ps.length = cnt := ⟨_, rfl⟩
  have hcnt0 : 0 < cnt := by rw [← hcnt, hpe]; simp
  rw [← hpe, hcnt] at hc
  have HR : Hid _ := parI_no (k := 3) (o := o) (ps := ps) (by rw [candI, if_neg (by decide), if_pos (by decide), if_neg (by rw [hcnt]; exact fun h => hc h.1)])
  have HCUT : Hid (∀ w, Calls Tryz.prog 15 #[.string s, .int .u8 32] w fun e w' => ∃ g cap, e = .returned (.slice (some ⟨g, 0, none⟩) cnt cap) ∧ cnt ≤ cap ∧ cap ≤ 9223372036854775807 ∧ w.heap.size ≤ g ∧ g < w'.heap.size ∧ w'.cell? ⟨g, 0, none⟩ = some (.string P0) ∧ Hid (True) ∧ Below w.heap.size w w') := fun w => (HCUT0 w).mono fun e w' ⟨v, he, ho1, hb⟩ => by
    obtain ⟨g, cap, rfl, h1, h2, h3, h4, h5⟩ := own_words ho1 hpn
    rw [hcnt] at he h1
    unfold maxLen at h2
    exact ⟨g, cap, he, h1, h2, h3, h4, by rw [hP0]; exact h5 0 p0 hp0, trivial, hb⟩
  clear HCUT0 hP0 hpe
  have hcn : ((cnt : Int) == 2) = false := by rw [beq_eq_false_iff_ne]; omega
  have hcn2 : ((cnt : Int) != 2) = true := by rw [bne_iff_ne]; omega
  clear hk hps ho hpn hp0 hcnt
  go_enter Tryz.func6, Tryz.ntmps6
  go_wp2_with (first
    | (go_at_call 15; refine (HCUT.out _).mono ?_; rintro e w1 ⟨g, cap, rfl, hcap1, hcap2, hg0, hg1, hc0, HJ, hb1⟩; simp at hg0; have hs1 : w.heap.size < w1.heap.size := (by have := hb1.size; simp at this; omega); have zb1 : Hid (ZB w1 w.heap.size) := ZB.keep (heap_alloc_new w _) hb1 (by simp); have hB1 : Hid (Below w.heap.size w w1) := Below.step ((Below.refl _ _).alloc (Nat.le_refl _) _) hb1; clear hb1 HCUT)
    | (go_at_call 16; refine (HOP.out _).mono ?_; rintro e w2 ⟨rfl, hb2⟩; have hs2 : w.heap.size < w2.heap.size := (by have := hb2.size; omega); have hg2 : g < w2.heap.size := (by have := hb2.size; omega); have zb2 : Hid (ZB w2 w.heap.size) := zb1.out.keep hb2 hs1; obtain ⟨z0, z1, z2, z3, z4, z5, z6, zf0, zf1, zf2, zf3, zf4, zf5, zf6⟩ := zb2.out.facts; have hB2 : Hid (Below w.heap.size w w2) := Below.step hB1.out hb2; clear hb2 HOP)
    | (go_at_call 17; refine (HO.out _).mono ?_; rintro e w9 ⟨rfl, hw9⟩; rw [hw9]; clear hw9 HO))
  refine bodyPost_ret (v := .tuple #[.agg #[.int .i64 0, .int .i64 0, .string ⟨#[]⟩, .bool false, .string ⟨#[]⟩, .string ⟨#[]⟩, .string ⟨#[]⟩], .int .i64 4]) (by simp [results, Tryz.results6, go_sem, *]) rfl ⟨by rw [HR.out]; rfl, ?_⟩
  refine Below.alloc ?_ ?_ _
  · exact ((((((hB2.out.setCell (Nat.le_refl _) _).setCell (Nat.le_refl _) _).setCell (Nat.le_refl _) _).setCell (Nat.le_refl _) _).setCell (Nat.le_refl _) _).setCell (Nat.le_refl _) _).setCell (Nat.le_refl _) _
  · exact (((((((hB2.out.setCell (Nat.le_refl _) _).setCell (Nat.le_refl _) _).setCell (Nat.le_refl _) _).setCell (Nat.le_refl _) _).setCell (Nat.le_refl _) _).setCell (Nat.le_refl _) _).setCell (Nat.le_refl _) _).size

set_option maxRecDepth 100000 in
set_option maxHeartbeats 800000 in
theorem parse_3_num (s : ByteArray) (hs : s.size ≤ 1099511627776) (p0 : List UInt8) (rest : List (List UInt8)) (hps : cutL 32 s.data.toList = p0 :: rest) (hk : opdI (opOf p0) = 3) (hc : (p0 :: rest).length = 2) (hq : (numR ((p0 :: rest).getD 1 [])).2 = false) (w : World) : Calls Tryz.prog 6 #[.string s] w fun e w' => e = .returned (outI (parI (3) (opOf p0) (p0 :: rest))) ∧ Below w.heap.size w w' := by
  have HCUT0 := rCut_any 32 s hs
  rw [hps] at HCUT0
  have HOP0 := rOp_any ⟨p0.toArray⟩
  have HO0 := rOperand_any (opOf p0)
  rw [hk] at HO0
  have hob : opOf p0 ≤ 41 := op_le p0
  obtain ⟨P0, hP0⟩ : ∃ P : ByteArray, P = ⟨p0.toArray⟩ := ⟨_, rfl⟩
  obtain ⟨o, ho⟩ : ∃ o, o = opOf p0 := ⟨_, rfl⟩
  simp only at HOP0
  rw [← ho] at HOP0 HO0 hob ⊢
  rw [← hP0] at HOP0
  have HO : Hid (∀ w, _) := HO0
  have HOP : Hid (∀ w, _) := HOP0
  clear HO0 HOP0
  obtain ⟨ps, hpe⟩ : ∃ ps, ps = p0 :: rest := ⟨_, rfl⟩
  have hpn : ps ≠ [] := by rw [hpe]; simp
  have hp0 : ps[0]? = some p0 := by rw [hpe]; rfl
  rw [← hpe] at HCUT0 ⊢
  obtain ⟨cnt, hcnt⟩ : ∃ cnt, ps.length = cnt := ⟨_, rfl⟩
  have hcnt0 : 0 < cnt := by rw [← hcnt, hpe]; simp
  rw [← hpe] at hc hq
  rw [hcnt] at hc
  obtain ⟨p1, hp1⟩ : ∃ p1, ps[1]? = some p1 := ⟨_, List.getElem?_eq_getElem (by omega)⟩
  have hg1' : ps.getD 1 [] = p1 := by rw [List.getD_eq_getElem?_getD, hp1]; rfl
  obtain ⟨P1, hP1⟩ : ∃ P : ByteArray, P = ⟨p1.toArray⟩ := ⟨_, rfl⟩
  rw [hg1'] at hq
  have HR : Hid _ := parI_no (k := 3) (o := o) (ps := ps) (by rw [candI, if_neg (by decide), if_pos (by decide), if_neg (by rw [hg1', hq]; exact fun h => by cases h.2)])
  have HN0 := rNumber_any ⟨p1.toArray⟩
  simp only at HN0
  rw [← hP1] at HN0
  obtain ⟨n, hn⟩ : ∃ n, n = (numR p1).1 := ⟨_, rfl⟩
  rw [← hn] at HN0
  rw [hq] at HN0
  have HNUM : Hid (∀ w, _) := HN0
  clear HN0
  have HCUT : Hid (∀ w, Calls Tryz.prog 15 #[.string s, .int .u8 32] w fun e w' => ∃ g cap, e = .returned (.slice (some ⟨g, 0, none⟩) cnt cap) ∧ cnt ≤ cap ∧ cap ≤ 9223372036854775807 ∧ w.heap.size ≤ g ∧ g < w'.heap.size ∧ w'.cell? ⟨g, 0, none⟩ = some (.string P0) ∧ Hid (w'.cell? ⟨g, 1, none⟩ = some (.string P1) ∧ True) ∧ Below w.heap.size w w') := fun w => (HCUT0 w).mono fun e w' ⟨v, he, ho1, hb⟩ => by
    obtain ⟨g, cap, rfl, h1, h2, h3, h4, h5⟩ := own_words ho1 hpn
    rw [hcnt] at he h1
    unfold maxLen at h2
    exact ⟨g, cap, he, h1, h2, h3, h4, by rw [hP0]; exact h5 0 p0 hp0, ⟨by rw [hP1]; exact h5 1 p1 hp1, trivial⟩, hb⟩
  clear HCUT0 hP0 hpe
  have hcn : ((cnt : Int) == 2) = true := by rw [hc]; rfl
  have hcn2 : ((cnt : Int) != 2) = false := by rw [hc]; rfl
  clear hk hps ho hpn hp0 hcnt hP1 hp1 hg1' hn hq
  subst hc
  go_enter Tryz.func6, Tryz.ntmps6
  go_wp2_with (first
    | (go_at_call 15; refine (HCUT.out _).mono ?_; rintro e w1 ⟨g, cap, rfl, hcap1, hcap2, hg0, hg1, hc0, HJ, hb1⟩; simp at hg0; have hs1 : w.heap.size < w1.heap.size := (by have := hb1.size; simp at this; omega); have zb1 : Hid (ZB w1 w.heap.size) := ZB.keep (heap_alloc_new w _) hb1 (by simp); have hB1 : Hid (Below w.heap.size w w1) := Below.step ((Below.refl _ _).alloc (Nat.le_refl _) _) hb1; clear hb1 HCUT)
    | (go_at_call 16; refine (HOP.out _).mono ?_; rintro e w2 ⟨rfl, hb2⟩; have hs2 : w.heap.size < w2.heap.size := (by have := hb2.size; omega); have hg2 : g < w2.heap.size := (by have := hb2.size; omega); have hd0 : w2.cell? ⟨g, 1, none⟩ = some (.string P1) := (hb2.cell (p := ⟨g, 1, none⟩) hg1).trans (HJ.out.1); have zb2 : Hid (ZB w2 w.heap.size) := zb1.out.keep hb2 hs1; obtain ⟨z0, z1, z2, z3, z4, z5, z6, zf0, zf1, zf2, zf3, zf4, zf5, zf6⟩ := zb2.out.facts; have hB2 : Hid (Below w.heap.size w w2) := Below.step hB1.out hb2; clear hb2 HOP)
    | (go_at_call 17; refine (HO.out _).mono ?_; rintro e w9 ⟨rfl, hw9⟩; rw [hw9]; clear hw9 HO)
    | (go_at_call 18; refine (HNUM.out _).mono ?_; rintro e w3 ⟨rfl, hb3⟩; have hs3 : w.heap.size < w3.heap.size := (by have := hb3.size; simp at this; omega); have hq3 : w2.heap.size < w3.heap.size := (by have := hb3.size; simp at this; omega); have ib3 : Hid (IB w3 w2.heap.size ⟨o, 0, ⟨#[]⟩, false, ⟨#[]⟩, ⟨#[]⟩, ⟨#[]⟩⟩) := IB.keep (heap_alloc_new w2 _) hb3 (by simp); have zb3 : Hid (ZB w3 w.heap.size) := ZB.keep (zb2.out.new hs2) hb3 (by simp; omega); have hB3 : Hid (Below w.heap.size w w3) := Below.step (hB2.out.alloc hB2.out.size _) hb3; clear z0 z1 z2 z3 z4 z5 z6 zf0 zf1 zf2 zf3 zf4 zf5 zf6 hb3 HNUM; obtain ⟨i0, i1, i2, i3, i4, i5, i6, if0, if1, if2, if3, if4, if5, if6⟩ := ib3.out.facts; obtain ⟨z0, z1, z2, z3, z4, z5, z6, zf0, zf1, zf2, zf3, zf4, zf5, zf6⟩ := zb3.out.facts))
  refine bodyPost_ret (v := .tuple #[.agg #[.int .i64 0, .int .i64 0, .string ⟨#[]⟩, .bool false, .string ⟨#[]⟩, .string ⟨#[]⟩, .string ⟨#[]⟩], .int .i64 4]) (by simp [results, Tryz.results6, go_sem, *]) rfl ⟨by rw [HR.out]; rfl, ?_⟩
  exact (((((((hB3.out.setCell (p := ⟨w2.heap.size, 1, none⟩) (Nat.le_of_lt hs2) _).setCell (Nat.le_refl _) _).setCell (Nat.le_refl _) _).setCell (Nat.le_refl _) _).setCell (Nat.le_refl _) _).setCell (Nat.le_refl _) _).setCell (Nat.le_refl _) _).setCell (Nat.le_refl _) _

set_option maxRecDepth 100000 in
set_option maxHeartbeats 800000 in
theorem parse_3_bad (s : ByteArray) (hs : s.size ≤ 1099511627776) (p0 : List UInt8) (rest : List (List UInt8)) (hps : cutL 32 s.data.toList = p0 :: rest) (hk : opdI (opOf p0) = 3) (hc : (p0 :: rest).length = 2) (hq : (numR ((p0 :: rest).getD 1 [])).2 = true) (hi : ickI ⟨opOf p0, (numR ((p0 :: rest).getD 1 [])).1, ⟨#[]⟩, false, ⟨#[]⟩, ⟨#[]⟩, ⟨#[]⟩⟩ ≠ 0) (w : World) : Calls Tryz.prog 6 #[.string s] w fun e w' => e = .returned (outI (parI (3) (opOf p0) (p0 :: rest))) ∧ Below w.heap.size w w' := by
  have HCUT0 := rCut_any 32 s hs
  rw [hps] at HCUT0
  have HOP0 := rOp_any ⟨p0.toArray⟩
  have HO0 := rOperand_any (opOf p0)
  rw [hk] at HO0
  have hob : opOf p0 ≤ 41 := op_le p0
  obtain ⟨P0, hP0⟩ : ∃ P : ByteArray, P = ⟨p0.toArray⟩ := ⟨_, rfl⟩
  obtain ⟨o, ho⟩ : ∃ o, o = opOf p0 := ⟨_, rfl⟩
  simp only at HOP0
  rw [← ho] at HOP0 HO0 hob ⊢
  rw [← hP0] at HOP0
  have HO : Hid (∀ w, _) := HO0
  have HOP : Hid (∀ w, _) := HOP0
  clear HO0 HOP0
  obtain ⟨ps, hpe⟩ : ∃ ps, ps = p0 :: rest := ⟨_, rfl⟩
  have hpn : ps ≠ [] := by rw [hpe]; simp
  have hp0 : ps[0]? = some p0 := by rw [hpe]; rfl
  rw [← hpe] at HCUT0 ⊢
  obtain ⟨cnt, hcnt⟩ : ∃ cnt, ps.length = cnt := ⟨_, rfl⟩
  have hcnt0 : 0 < cnt := by rw [← hcnt, hpe]; simp
  rw [← hpe] at hc hq hi
  rw [hcnt] at hc
  rw [← ho] at hi
  obtain ⟨p1, hp1⟩ : ∃ p1, ps[1]? = some p1 := ⟨_, List.getElem?_eq_getElem (by omega)⟩
  have hg1' : ps.getD 1 [] = p1 := by rw [List.getD_eq_getElem?_getD, hp1]; rfl
  obtain ⟨P1, hP1⟩ : ∃ P : ByteArray, P = ⟨p1.toArray⟩ := ⟨_, rfl⟩
  rw [hg1'] at hq hi
  have hcd : candI (3) o ps = some ⟨o, (numR p1).1, ⟨#[]⟩, false, ⟨#[]⟩, ⟨#[]⟩, ⟨#[]⟩⟩ := by rw [candI, if_neg (by decide), if_pos (by decide), hg1', if_pos ⟨by rw [hcnt]; exact hc, hq⟩]
  have HR : Hid _ := parI_bad hcd hi
  have HN0 := rNumber_any ⟨p1.toArray⟩
  simp only at HN0
  rw [← hP1] at HN0
  obtain ⟨n, hn⟩ : ∃ n, n = (numR p1).1 := ⟨_, rfl⟩
  rw [← hn] at HN0
  rw [hq] at HN0
  rw [← hn] at hi
  have HNUM : Hid (∀ w, _) := HN0
  clear HN0
  have HCK0 := rCheck_any o n ⟨#[]⟩ false ⟨#[]⟩ ⟨#[]⟩ ⟨#[]⟩ (by decide) (by decide) (by decide) (by decide)
  rw [show ickE (o : Int) n ⟨#[]⟩ false ⟨#[]⟩ ⟨#[]⟩ ⟨#[]⟩ = 1 from (ick_01 _ _ _ _ _ _ _).resolve_left hi] at HCK0
  have HCK : Hid (∀ w, _) := HCK0
  clear HCK0
  have HCUT : Hid (∀ w, Calls Tryz.prog 15 #[.string s, .int .u8 32] w fun e w' => ∃ g cap, e = .returned (.slice (some ⟨g, 0, none⟩) cnt cap) ∧ cnt ≤ cap ∧ cap ≤ 9223372036854775807 ∧ w.heap.size ≤ g ∧ g < w'.heap.size ∧ w'.cell? ⟨g, 0, none⟩ = some (.string P0) ∧ Hid (w'.cell? ⟨g, 1, none⟩ = some (.string P1) ∧ True) ∧ Below w.heap.size w w') := fun w => (HCUT0 w).mono fun e w' ⟨v, he, ho1, hb⟩ => by
    obtain ⟨g, cap, rfl, h1, h2, h3, h4, h5⟩ := own_words ho1 hpn
    rw [hcnt] at he h1
    unfold maxLen at h2
    exact ⟨g, cap, he, h1, h2, h3, h4, by rw [hP0]; exact h5 0 p0 hp0, ⟨by rw [hP1]; exact h5 1 p1 hp1, trivial⟩, hb⟩
  clear HCUT0 hP0 hpe
  have hcn : ((cnt : Int) == 2) = true := by rw [hc]; rfl
  have hcn2 : ((cnt : Int) != 2) = false := by rw [hc]; rfl
  clear hk hps ho hpn hp0 hcnt hP1 hp1 hg1' hn hq hcd hi
  subst hc
  go_enter Tryz.func6, Tryz.ntmps6
  go_wp2_with (first
    | (go_at_call 15; refine (HCUT.out _).mono ?_; rintro e w1 ⟨g, cap, rfl, hcap1, hcap2, hg0, hg1, hc0, HJ, hb1⟩; simp at hg0; have hs1 : w.heap.size < w1.heap.size := (by have := hb1.size; simp at this; omega); have zb1 : Hid (ZB w1 w.heap.size) := ZB.keep (heap_alloc_new w _) hb1 (by simp); have hB1 : Hid (Below w.heap.size w w1) := Below.step ((Below.refl _ _).alloc (Nat.le_refl _) _) hb1; clear hb1 HCUT)
    | (go_at_call 16; refine (HOP.out _).mono ?_; rintro e w2 ⟨rfl, hb2⟩; have hs2 : w.heap.size < w2.heap.size := (by have := hb2.size; omega); have hg2 : g < w2.heap.size := (by have := hb2.size; omega); have hd0 : w2.cell? ⟨g, 1, none⟩ = some (.string P1) := (hb2.cell (p := ⟨g, 1, none⟩) hg1).trans (HJ.out.1); have zb2 : Hid (ZB w2 w.heap.size) := zb1.out.keep hb2 hs1; obtain ⟨z0, z1, z2, z3, z4, z5, z6, zf0, zf1, zf2, zf3, zf4, zf5, zf6⟩ := zb2.out.facts; have hB2 : Hid (Below w.heap.size w w2) := Below.step hB1.out hb2; clear hb2 HOP)
    | (go_at_call 17; refine (HO.out _).mono ?_; rintro e w9 ⟨rfl, hw9⟩; rw [hw9]; clear hw9 HO)
    | (go_at_call 18; refine (HNUM.out _).mono ?_; rintro e w3 ⟨rfl, hb3⟩; have hs3 : w.heap.size < w3.heap.size := (by have := hb3.size; simp at this; omega); have hq3 : w2.heap.size < w3.heap.size := (by have := hb3.size; simp at this; omega); have ib3 : Hid (IB w3 w2.heap.size ⟨o, 0, ⟨#[]⟩, false, ⟨#[]⟩, ⟨#[]⟩, ⟨#[]⟩⟩) := IB.keep (heap_alloc_new w2 _) hb3 (by simp); have zb3 : Hid (ZB w3 w.heap.size) := ZB.keep (zb2.out.new hs2) hb3 (by simp; omega); have hB3 : Hid (Below w.heap.size w w3) := Below.step (hB2.out.alloc hB2.out.size _) hb3; clear z0 z1 z2 z3 z4 z5 z6 zf0 zf1 zf2 zf3 zf4 zf5 zf6 hb3 HNUM; obtain ⟨i0, i1, i2, i3, i4, i5, i6, if0, if1, if2, if3, if4, if5, if6⟩ := ib3.out.facts; obtain ⟨z0, z1, z2, z3, z4, z5, z6, zf0, zf1, zf2, zf3, zf4, zf5, zf6⟩ := zb3.out.facts)
    | (go_at_call 19; refine (HCK.out _).mono ?_; rintro e w4 ⟨rfl, hb4⟩; have hs4 : w.heap.size < w4.heap.size := (by have := hb4.size; simp at this; omega); have ib4 : Hid (IB w4 w2.heap.size ⟨o, n, ⟨#[]⟩, false, ⟨#[]⟩, ⟨#[]⟩, ⟨#[]⟩⟩) := IB.keep (ib3.out.setN n) hb4 (by simp [*]); have zb4 : Hid (ZB w4 w.heap.size) := ZB.keep (zb3.out.set (by omega)) hb4 (by simp; omega); have hB4 : Hid (Below w.heap.size w w4) := Below.step (hB3.out.setCell (p := ⟨w2.heap.size, 1, none⟩) (Nat.le_of_lt hs2) _) hb4; clear z0 z1 z2 z3 z4 z5 z6 zf0 zf1 zf2 zf3 zf4 zf5 zf6 i0 i1 i2 i3 i4 i5 i6 if0 if1 if2 if3 if4 if5 if6 hb4 HCK; obtain ⟨j0, j1, j2, j3, j4, j5, j6, jf0, jf1, jf2, jf3, jf4, jf5, jf6⟩ := ib4.out.facts; obtain ⟨y0, y1, y2, y3, y4, y5, y6, yf0, yf1, yf2, yf3, yf4, yf5, yf6⟩ := zb4.out.facts))
  refine bodyPost_ret (v := .tuple #[.agg #[.int .i64 0, .int .i64 0, .string ⟨#[]⟩, .bool false, .string ⟨#[]⟩, .string ⟨#[]⟩, .string ⟨#[]⟩], .int .i64 4]) (by simp [results, Tryz.results6, go_sem, *]) rfl ⟨by rw [HR.out]; rfl, ?_⟩
  exact ((((((hB4.out.setCell (Nat.le_refl _) _).setCell (Nat.le_refl _) _).setCell (Nat.le_refl _) _).setCell (Nat.le_refl _) _).setCell (Nat.le_refl _) _).setCell (Nat.le_refl _) _).setCell (Nat.le_refl _) _

set_option maxRecDepth 100000 in
set_option maxHeartbeats 800000 in
theorem parse_3_yes (s : ByteArray) (hs : s.size ≤ 1099511627776) (p0 : List UInt8) (rest : List (List UInt8)) (hps : cutL 32 s.data.toList = p0 :: rest) (hk : opdI (opOf p0) = 3) (hc : (p0 :: rest).length = 2) (hq : (numR ((p0 :: rest).getD 1 [])).2 = true) (hi : ickI ⟨opOf p0, (numR ((p0 :: rest).getD 1 [])).1, ⟨#[]⟩, false, ⟨#[]⟩, ⟨#[]⟩, ⟨#[]⟩⟩ = 0) (w : World) : Calls Tryz.prog 6 #[.string s] w fun e w' => e = .returned (outI (parI (3) (opOf p0) (p0 :: rest))) ∧ Below w.heap.size w w' := by
  have HCUT0 := rCut_any 32 s hs
  rw [hps] at HCUT0
  have HOP0 := rOp_any ⟨p0.toArray⟩
  have HO0 := rOperand_any (opOf p0)
  rw [hk] at HO0
  have hob : opOf p0 ≤ 41 := op_le p0
  obtain ⟨P0, hP0⟩ : ∃ P : ByteArray, P = ⟨p0.toArray⟩ := ⟨_, rfl⟩
  obtain ⟨o, ho⟩ : ∃ o, o = opOf p0 := ⟨_, rfl⟩
  simp only at HOP0
  rw [← ho] at HOP0 HO0 hob ⊢
  rw [← hP0] at HOP0
  have HO : Hid (∀ w, _) := HO0
  have HOP : Hid (∀ w, _) := HOP0
  clear HO0 HOP0
  obtain ⟨ps, hpe⟩ : ∃ ps, ps = p0 :: rest := ⟨_, rfl⟩
  have hpn : ps ≠ [] := by rw [hpe]; simp
  have hp0 : ps[0]? = some p0 := by rw [hpe]; rfl
  rw [← hpe] at HCUT0 ⊢
  obtain ⟨cnt, hcnt⟩ : ∃ cnt, ps.length = cnt := ⟨_, rfl⟩
  have hcnt0 : 0 < cnt := by rw [← hcnt, hpe]; simp
  rw [← hpe] at hc hq hi
  rw [hcnt] at hc
  rw [← ho] at hi
  obtain ⟨p1, hp1⟩ : ∃ p1, ps[1]? = some p1 := ⟨_, List.getElem?_eq_getElem (by omega)⟩
  have hg1' : ps.getD 1 [] = p1 := by rw [List.getD_eq_getElem?_getD, hp1]; rfl
  obtain ⟨P1, hP1⟩ : ∃ P : ByteArray, P = ⟨p1.toArray⟩ := ⟨_, rfl⟩
  rw [hg1'] at hq hi
  have hcd : candI (3) o ps = some ⟨o, (numR p1).1, ⟨#[]⟩, false, ⟨#[]⟩, ⟨#[]⟩, ⟨#[]⟩⟩ := by rw [candI, if_neg (by decide), if_pos (by decide), hg1', if_pos ⟨by rw [hcnt]; exact hc, hq⟩]
  have HR : Hid _ := parI_yes hcd hi
  have HN0 := rNumber_any ⟨p1.toArray⟩
  simp only at HN0
  rw [← hP1] at HN0
  obtain ⟨n, hn⟩ : ∃ n, n = (numR p1).1 := ⟨_, rfl⟩
  rw [← hn] at HN0
  rw [hq] at HN0
  rw [← hn] at hi HR
  have HNUM : Hid (∀ w, _) := HN0
  clear HN0
  have HCK0 := rCheck_any o n ⟨#[]⟩ false ⟨#[]⟩ ⟨#[]⟩ ⟨#[]⟩ (by decide) (by decide) (by decide) (by decide)
  rw [show ickE (o : Int) n ⟨#[]⟩ false ⟨#[]⟩ ⟨#[]⟩ ⟨#[]⟩ = 0 from hi] at HCK0
  have HCK : Hid (∀ w, _) := HCK0
  clear HCK0
  have HCUT : Hid (∀ w, Calls Tryz.prog 15 #[.string s, .int .u8 32] w fun e w' => ∃ g cap, e = .returned (.slice (some ⟨g, 0, none⟩) cnt cap) ∧ cnt ≤ cap ∧ cap ≤ 9223372036854775807 ∧ w.heap.size ≤ g ∧ g < w'.heap.size ∧ w'.cell? ⟨g, 0, none⟩ = some (.string P0) ∧ Hid (w'.cell? ⟨g, 1, none⟩ = some (.string P1) ∧ True) ∧ Below w.heap.size w w') := fun w => (HCUT0 w).mono fun e w' ⟨v, he, ho1, hb⟩ => by
    obtain ⟨g, cap, rfl, h1, h2, h3, h4, h5⟩ := own_words ho1 hpn
    rw [hcnt] at he h1
    unfold maxLen at h2
    exact ⟨g, cap, he, h1, h2, h3, h4, by rw [hP0]; exact h5 0 p0 hp0, ⟨by rw [hP1]; exact h5 1 p1 hp1, trivial⟩, hb⟩
  clear HCUT0 hP0 hpe
  have hcn : ((cnt : Int) == 2) = true := by rw [hc]; rfl
  have hcn2 : ((cnt : Int) != 2) = false := by rw [hc]; rfl
  clear hk hps ho hpn hp0 hcnt hP1 hp1 hg1' hn hq hcd hi
  subst hc
  go_enter Tryz.func6, Tryz.ntmps6
  go_wp2_with (first
    | (go_at_call 15; refine (HCUT.out _).mono ?_; rintro e w1 ⟨g, cap, rfl, hcap1, hcap2, hg0, hg1, hc0, HJ, hb1⟩; simp at hg0; have hs1 : w.heap.size < w1.heap.size := (by have := hb1.size; simp at this; omega); have zb1 : Hid (ZB w1 w.heap.size) := ZB.keep (heap_alloc_new w _) hb1 (by simp); have hB1 : Hid (Below w.heap.size w w1) := Below.step ((Below.refl _ _).alloc (Nat.le_refl _) _) hb1; clear hb1 HCUT)
    | (go_at_call 16; refine (HOP.out _).mono ?_; rintro e w2 ⟨rfl, hb2⟩; have hs2 : w.heap.size < w2.heap.size := (by have := hb2.size; omega); have hg2 : g < w2.heap.size := (by have := hb2.size; omega); have hd0 : w2.cell? ⟨g, 1, none⟩ = some (.string P1) := (hb2.cell (p := ⟨g, 1, none⟩) hg1).trans (HJ.out.1); have zb2 : Hid (ZB w2 w.heap.size) := zb1.out.keep hb2 hs1; obtain ⟨z0, z1, z2, z3, z4, z5, z6, zf0, zf1, zf2, zf3, zf4, zf5, zf6⟩ := zb2.out.facts; have hB2 : Hid (Below w.heap.size w w2) := Below.step hB1.out hb2; clear hb2 HOP)
    | (go_at_call 17; refine (HO.out _).mono ?_; rintro e w9 ⟨rfl, hw9⟩; rw [hw9]; clear hw9 HO)
    | (go_at_call 18; refine (HNUM.out _).mono ?_; rintro e w3 ⟨rfl, hb3⟩; have hs3 : w.heap.size < w3.heap.size := (by have := hb3.size; simp at this; omega); have hq3 : w2.heap.size < w3.heap.size := (by have := hb3.size; simp at this; omega); have ib3 : Hid (IB w3 w2.heap.size ⟨o, 0, ⟨#[]⟩, false, ⟨#[]⟩, ⟨#[]⟩, ⟨#[]⟩⟩) := IB.keep (heap_alloc_new w2 _) hb3 (by simp); have zb3 : Hid (ZB w3 w.heap.size) := ZB.keep (zb2.out.new hs2) hb3 (by simp; omega); have hB3 : Hid (Below w.heap.size w w3) := Below.step (hB2.out.alloc hB2.out.size _) hb3; clear z0 z1 z2 z3 z4 z5 z6 zf0 zf1 zf2 zf3 zf4 zf5 zf6 hb3 HNUM; obtain ⟨i0, i1, i2, i3, i4, i5, i6, if0, if1, if2, if3, if4, if5, if6⟩ := ib3.out.facts; obtain ⟨z0, z1, z2, z3, z4, z5, z6, zf0, zf1, zf2, zf3, zf4, zf5, zf6⟩ := zb3.out.facts)
    | (go_at_call 19; refine (HCK.out _).mono ?_; rintro e w4 ⟨rfl, hb4⟩; have hs4 : w.heap.size < w4.heap.size := (by have := hb4.size; simp at this; omega); have ib4 : Hid (IB w4 w2.heap.size ⟨o, n, ⟨#[]⟩, false, ⟨#[]⟩, ⟨#[]⟩, ⟨#[]⟩⟩) := IB.keep (ib3.out.setN n) hb4 (by simp [*]); have zb4 : Hid (ZB w4 w.heap.size) := ZB.keep (zb3.out.set (by omega)) hb4 (by simp; omega); have hB4 : Hid (Below w.heap.size w w4) := Below.step (hB3.out.setCell (p := ⟨w2.heap.size, 1, none⟩) (Nat.le_of_lt hs2) _) hb4; clear z0 z1 z2 z3 z4 z5 z6 zf0 zf1 zf2 zf3 zf4 zf5 zf6 i0 i1 i2 i3 i4 i5 i6 if0 if1 if2 if3 if4 if5 if6 hb4 HCK; obtain ⟨j0, j1, j2, j3, j4, j5, j6, jf0, jf1, jf2, jf3, jf4, jf5, jf6⟩ := ib4.out.facts; obtain ⟨y0, y1, y2, y3, y4, y5, y6, yf0, yf1, yf2, yf3, yf4, yf5, yf6⟩ := zb4.out.facts))
  refine bodyPost_ret (v := .tuple #[.agg #[.int .i64 (o : Int), .int .i64 n, .string ⟨#[]⟩, .bool false, .string ⟨#[]⟩, .string ⟨#[]⟩, .string ⟨#[]⟩], .int .i64 0]) (by simp [results, Tryz.results6, go_sem, *]) rfl ⟨by rw [HR.out]; rfl, ?_⟩
  exact ((((((hB4.out.setCell (Nat.le_refl _) _).setCell (Nat.le_refl _) _).setCell (Nat.le_refl _) _).setCell (Nat.le_refl _) _).setCell (Nat.le_refl _) _).setCell (Nat.le_refl _) _).setCell (Nat.le_refl _) _

end Go.Proofs.YtijlipllahfakaaGreatDoor

namespace Go.Proofs.YtijlipllahfakaaGreatDoor
open Go.RowKit

set_option maxRecDepth 100000 in
set_option maxHeartbeats 800000 in
theorem parse_4_cnt (s : ByteArray) (hs : s.size ≤ 1099511627776) (p0 : List UInt8) (rest : List (List UInt8)) (hps : cutL 32 s.data.toList = p0 :: rest) (hk : opdI (opOf p0) = 4) (hc : (p0 :: rest).length ≠ 2) (w : World) : Calls Tryz.prog 6 #[.string s] w fun e w' => e = .returned (outI (parI (4) (opOf p0) (p0 :: rest))) ∧ Below w.heap.size w w' := by
  have HCUT0 := rCut_any 32 s hs
  rw [hps] at HCUT0
  have HOP0 := rOp_any ⟨p0.toArray⟩
  have HO0 := rOperand_any (opOf p0)
  rw [hk] at HO0
  have hob : opOf p0 ≤ 41 := op_le p0
  obtain ⟨P0, hP0⟩ : ∃ P : ByteArray, P = ⟨p0.toArray⟩ := ⟨_, rfl⟩
  obtain ⟨o, ho⟩ : ∃ o, o = opOf p0 := ⟨_, rfl⟩
  simp only at HOP0
  rw [← ho] at HOP0 HO0 hob ⊢
  rw [← hP0] at HOP0
  have HO : Hid (∀ w, _) := HO0
  have HOP : Hid (∀ w, _) := HOP0
  clear HO0 HOP0
  obtain ⟨ps, hpe⟩ : ∃ ps, ps = p0 :: rest := ⟨_, rfl⟩
  have hpn : ps ≠ [] := by rw [hpe]; simp
  have hp0 : ps[0]? = some p0 := by rw [hpe]; rfl
  rw [← hpe] at HCUT0 ⊢
  obtain ⟨cnt, hcnt⟩ : ∃ cnt, ps.length = cnt := ⟨_, rfl⟩
  have hcnt0 : 0 < cnt := by rw [← hcnt, hpe]; simp
  rw [← hpe, hcnt] at hc
  have HR : Hid _ := parI_no (k := 4) (o := o) (ps := ps) (by rw [candI, if_neg (by decide), if_neg (by decide), if_pos (by decide), if_neg (by rw [hcnt]; exact hc)])
  obtain ⟨q, hq⟩ : ∃ q, cnt = q + 1 := ⟨cnt - 1, by omega⟩
  obtain ⟨pl, hpl⟩ : ∃ pl, ps[q]? = some pl := ⟨_, List.getElem?_eq_getElem (by omega)⟩
  obtain ⟨PL, hPL⟩ : ∃ P : ByteArray, P = ⟨pl.toArray⟩ := ⟨_, rfl⟩
  have HCUT : Hid (∀ w, Calls Tryz.prog 15 #[.string s, .int .u8 32] w fun e w' => ∃ g cap, e = .returned (.slice (some ⟨g, 0, none⟩) cnt cap) ∧ cnt ≤ cap ∧ cap ≤ 9223372036854775807 ∧ w.heap.size ≤ g ∧ g < w'.heap.size ∧ w'.cell? ⟨g, 0, none⟩ = some (.string P0) ∧ Hid (w'.cell? ⟨g, q, none⟩ = some (.string PL) ∧ True) ∧ Below w.heap.size w w') := fun w => (HCUT0 w).mono fun e w' ⟨v, he, ho1, hb⟩ => by
    obtain ⟨g, cap, rfl, h1, h2, h3, h4, h5⟩ := own_words ho1 hpn
    rw [hcnt] at he h1
    unfold maxLen at h2
    exact ⟨g, cap, he, h1, h2, h3, h4, by rw [hP0]; exact h5 0 p0 hp0, ⟨by rw [hPL]; exact h5 q pl hpl, trivial⟩, hb⟩
  clear HCUT0 hP0 hpe
  subst hq
  have hcn2 : ((q : Int) + 1 != 2) = true := by rw [bne_iff_ne]; omega
  clear hk hps ho hpn hp0 hcnt hpl hPL
  go_enter Tryz.func6, Tryz.ntmps6
  go_wp2_with (first
    | (go_at_call 15; refine (HCUT.out _).mono ?_; rintro e w1 ⟨g, cap, rfl, hcap1, hcap2, hg0, hg1, hc0, HJ, hb1⟩; simp at hg0; have hs1 : w.heap.size < w1.heap.size := (by have := hb1.size; simp at this; omega); have zb1 : Hid (ZB w1 w.heap.size) := ZB.keep (heap_alloc_new w _) hb1 (by simp); have hB1 : Hid (Below w.heap.size w w1) := Below.step ((Below.refl _ _).alloc (Nat.le_refl _) _) hb1; clear hb1 HCUT)
    | (go_at_call 16; refine (HOP.out _).mono ?_; rintro e w2 ⟨rfl, hb2⟩; have hs2 : w.heap.size < w2.heap.size := (by have := hb2.size; omega); have hg2 : g < w2.heap.size := (by have := hb2.size; omega); have hd0 : w2.cell? ⟨g, q, none⟩ = some (.string PL) := (hb2.cell (p := ⟨g, q, none⟩) hg1).trans (HJ.out.1); have zb2 : Hid (ZB w2 w.heap.size) := zb1.out.keep hb2 hs1; obtain ⟨z0, z1, z2, z3, z4, z5, z6, zf0, zf1, zf2, zf3, zf4, zf5, zf6⟩ := zb2.out.facts; have hB2 : Hid (Below w.heap.size w w2) := Below.step hB1.out hb2; clear hb2 HOP)
    | (go_at_call 17; refine (HO.out _).mono ?_; rintro e w9 ⟨rfl, hw9⟩; rw [hw9]; clear hw9 HO))
  refine bodyPost_ret (v := .tuple #[.agg #[.int .i64 0, .int .i64 0, .string ⟨#[]⟩, .bool false, .string ⟨#[]⟩, .string ⟨#[]⟩, .string ⟨#[]⟩], .int .i64 4]) (by simp [results, Tryz.results6, go_sem, *]) rfl ⟨by rw [HR.out]; rfl, ?_⟩
  refine Below.alloc ?_ ?_ _
  · exact ((((((hB2.out.setCell (Nat.le_refl _) _).setCell (Nat.le_refl _) _).setCell (Nat.le_refl _) _).setCell (Nat.le_refl _) _).setCell (Nat.le_refl _) _).setCell (Nat.le_refl _) _).setCell (Nat.le_refl _) _
  · exact (((((((hB2.out.setCell (Nat.le_refl _) _).setCell (Nat.le_refl _) _).setCell (Nat.le_refl _) _).setCell (Nat.le_refl _) _).setCell (Nat.le_refl _) _).setCell (Nat.le_refl _) _).setCell (Nat.le_refl _) _).size

set_option maxRecDepth 100000 in
set_option maxHeartbeats 800000 in
theorem parse_4_bad (s : ByteArray) (hs : s.size ≤ 1099511627776) (p0 : List UInt8) (rest : List (List UInt8)) (hps : cutL 32 s.data.toList = p0 :: rest) (hk : opdI (opOf p0) = 4) (hc : (p0 :: rest).length = 2) (hi : ickI ⟨opOf p0, 0, ⟨((p0 :: rest).getD 1 []).toArray⟩, false, ⟨#[]⟩, ⟨#[]⟩, ⟨#[]⟩⟩ ≠ 0) (w : World) : Calls Tryz.prog 6 #[.string s] w fun e w' => e = .returned (outI (parI (4) (opOf p0) (p0 :: rest))) ∧ Below w.heap.size w w' := by
  have HCUT0 := rCut_any 32 s hs
  rw [hps] at HCUT0
  have HOP0 := rOp_any ⟨p0.toArray⟩
  have HO0 := rOperand_any (opOf p0)
  rw [hk] at HO0
  have hob : opOf p0 ≤ 41 := op_le p0
  obtain ⟨P0, hP0⟩ : ∃ P : ByteArray, P = ⟨p0.toArray⟩ := ⟨_, rfl⟩
  obtain ⟨o, ho⟩ : ∃ o, o = opOf p0 := ⟨_, rfl⟩
  simp only at HOP0
  rw [← ho] at HOP0 HO0 hob ⊢
  rw [← hP0] at HOP0
  have HO : Hid (∀ w, _) := HO0
  have HOP : Hid (∀ w, _) := HOP0
  clear HO0 HOP0
  obtain ⟨ps, hpe⟩ : ∃ ps, ps = p0 :: rest := ⟨_, rfl⟩
  have hpn : ps ≠ [] := by rw [hpe]; simp
  have hp0 : ps[0]? = some p0 := by rw [hpe]; rfl
  rw [← hpe] at HCUT0 ⊢
  obtain ⟨cnt, hcnt⟩ : ∃ cnt, ps.length = cnt := ⟨_, rfl⟩
  have hcnt0 : 0 < cnt := by rw [← hcnt, hpe]; simp
  rw [← hpe] at hc hi
  rw [hcnt] at hc
  rw [← ho] at hi
  obtain ⟨p1, hp1⟩ : ∃ p1, ps[1]? = some p1 := ⟨_, List.getElem?_eq_getElem (by omega)⟩
  have hg1' : ps.getD 1 [] = p1 := by rw [List.getD_eq_getElem?_getD, hp1]; rfl
  obtain ⟨P1, hP1⟩ : ∃ P : ByteArray, P = ⟨p1.toArray⟩ := ⟨_, rfl⟩
  rw [hg1'] at hi
  have hcd : candI (4) o ps = some ⟨o, 0, ⟨p1.toArray⟩, false, ⟨#[]⟩, ⟨#[]⟩, ⟨#[]⟩⟩ := by rw [candI, if_neg (by decide), if_neg (by decide), if_pos (by decide), hg1', if_pos (by rw [hcnt]; exact hc)]
  have HR : Hid _ := parI_bad hcd hi
  have hps1 := word_size hs (hps.trans hpe.symm) hp1
  rw [← hP1] at hi hps1
  have HCK0 := rCheck_any o 0 P1 false ⟨#[]⟩ ⟨#[]⟩ ⟨#[]⟩ (by unfold maxLen; omega) (by decide) (by decide) (by decide)
  rw [show ickE (o : Int) 0 P1 false ⟨#[]⟩ ⟨#[]⟩ ⟨#[]⟩ = 1 from (ick_01 _ _ _ _ _ _ _).resolve_left hi] at HCK0
  have HCK : Hid (∀ w, _) := HCK0
  clear HCK0
  have HCUT : Hid (∀ w, Calls Tryz.prog 15 #[.string s, .int .u8 32] w fun e w' => ∃ g cap, e = .returned (.slice (some ⟨g, 0, none⟩) cnt cap) ∧ cnt ≤ cap ∧ cap ≤ 9223372036854775807 ∧ w.heap.size ≤ g ∧ g < w'.heap.size ∧ w'.cell? ⟨g, 0, none⟩ = some (.string P0) ∧ Hid (w'.cell? ⟨g, 1, none⟩ = some (.string P1) ∧ True) ∧ Below w.heap.size w w') := fun w => (HCUT0 w).mono fun e w' ⟨v, he, ho1, hb⟩ => by
    obtain ⟨g, cap, rfl, h1, h2, h3, h4, h5⟩ := own_words ho1 hpn
    rw [hcnt] at he h1
    unfold maxLen at h2
    exact ⟨g, cap, he, h1, h2, h3, h4, by rw [hP0]; exact h5 0 p0 hp0, ⟨by rw [hP1]; exact h5 1 p1 hp1, trivial⟩, hb⟩
  clear HCUT0 hP0 hpe
  have hcn2 : ((cnt : Int) != 2) = false := by rw [hc]; rfl
  clear hk hps ho hpn hp0 hcnt hP1 hp1 hg1' hcd hi hps1
  subst hc
  go_enter Tryz.func6, Tryz.ntmps6
  go_wp2_with (first
    | (go_at_call 15; refine (HCUT.out _).mono ?_; rintro e w1 ⟨g, cap, rfl, hcap1, hcap2, hg0, hg1, hc0, HJ, hb1⟩; simp at hg0; have hs1 : w.heap.size < w1.heap.size := (by have := hb1.size; simp at this; omega); have zb1 : Hid (ZB w1 w.heap.size) := ZB.keep (heap_alloc_new w _) hb1 (by simp); have hB1 : Hid (Below w.heap.size w w1) := Below.step ((Below.refl _ _).alloc (Nat.le_refl _) _) hb1; clear hb1 HCUT)
    | (go_at_call 16; refine (HOP.out _).mono ?_; rintro e w2 ⟨rfl, hb2⟩; have hs2 : w.heap.size < w2.heap.size := (by have := hb2.size; omega); have hg2 : g < w2.heap.size := (by have := hb2.size; omega); have hd0 : w2.cell? ⟨g, 1, none⟩ = some (.string P1) := (hb2.cell (p := ⟨g, 1, none⟩) hg1).trans (HJ.out.1); have zb2 : Hid (ZB w2 w.heap.size) := zb1.out.keep hb2 hs1; obtain ⟨z0, z1, z2, z3, z4, z5, z6, zf0, zf1, zf2, zf3, zf4, zf5, zf6⟩ := zb2.out.facts; have hB2 : Hid (Below w.heap.size w w2) := Below.step hB1.out hb2; clear hb2 HOP)
    | (go_at_call 17; refine (HO.out _).mono ?_; rintro e w9 ⟨rfl, hw9⟩; rw [hw9]; clear hw9 HO)
    | (go_at_call 19; refine (HCK.out _).mono ?_; rintro e w4 ⟨rfl, hb4⟩; have hs4 : w.heap.size < w4.heap.size := (by have := hb4.size; simp at this; omega); have ib4 : Hid (IB w4 w2.heap.size ⟨o, 0, P1, false, ⟨#[]⟩, ⟨#[]⟩, ⟨#[]⟩⟩) := IB.keep (heap_alloc_new w2 _) hb4 (by simp [*]); have zb4 : Hid (ZB w4 w.heap.size) := ZB.keep (zb2.out.new hs2) hb4 (by simp; omega); have hB4 : Hid (Below w.heap.size w w4) := Below.step (hB2.out.alloc hB2.out.size _) hb4; clear z0 z1 z2 z3 z4 z5 z6 zf0 zf1 zf2 zf3 zf4 zf5 zf6 hb4 HCK; obtain ⟨j0, j1, j2, j3, j4, j5, j6, jf0, jf1, jf2, jf3, jf4, jf5, jf6⟩ := ib4.out.facts; obtain ⟨y0, y1, y2, y3, y4, y5, y6, yf0, yf1, yf2, yf3, yf4, yf5, yf6⟩ := zb4.out.facts))
  refine bodyPost_ret (v := .tuple #[.agg #[.int .i64 0, .int .i64 0, .string ⟨#[]⟩, .bool false, .string ⟨#[]⟩, .string ⟨#[]⟩, .string ⟨#[]⟩], .int .i64 4]) (by simp [results, Tryz.results6, go_sem, *]) rfl ⟨by rw [HR.out]; rfl, ?_⟩
  exact ((((((hB4.out.setCell (Nat.le_refl _) _).setCell (Nat.le_refl _) _).setCell (Nat.le_refl _) _).setCell (Nat.le_refl _) _).setCell (Nat.le_refl _) _).setCell (Nat.le_refl _) _).setCell (Nat.le_refl _) _

set_option maxRecDepth 100000 in
set_option maxHeartbeats 800000 in
theorem parse_4_yes (s : ByteArray) (hs : s.size ≤ 1099511627776) (p0 : List UInt8) (rest : List (List UInt8)) (hps : cutL 32 s.data.toList = p0 :: rest) (hk : opdI (opOf p0) = 4) (hc : (p0 :: rest).length = 2) (hi : ickI ⟨opOf p0, 0, ⟨((p0 :: rest).getD 1 []).toArray⟩, false, ⟨#[]⟩, ⟨#[]⟩, ⟨#[]⟩⟩ = 0) (w : World) : Calls Tryz.prog 6 #[.string s] w fun e w' => e = .returned (outI (parI (4) (opOf p0) (p0 :: rest))) ∧ Below w.heap.size w w' := by
  have HCUT0 := rCut_any 32 s hs
  rw [hps] at HCUT0
  have HOP0 := rOp_any ⟨p0.toArray⟩
  have HO0 := rOperand_any (opOf p0)
  rw [hk] at HO0
  have hob : opOf p0 ≤ 41 := op_le p0
  obtain ⟨P0, hP0⟩ : ∃ P : ByteArray, P = ⟨p0.toArray⟩ := ⟨_, rfl⟩
  obtain ⟨o, ho⟩ : ∃ o, o = opOf p0 := ⟨_, rfl⟩
  simp only at HOP0
  rw [← ho] at HOP0 HO0 hob ⊢
  rw [← hP0] at HOP0
  have HO : Hid (∀ w, _) := HO0
  have HOP : Hid (∀ w, _) := HOP0
  clear HO0 HOP0
  obtain ⟨ps, hpe⟩ : ∃ ps, ps = p0 :: rest := ⟨_, rfl⟩
  have hpn : ps ≠ [] := by rw [hpe]; simp
  have hp0 : ps[0]? = some p0 := by rw [hpe]; rfl
  rw [← hpe] at HCUT0 ⊢
  obtain ⟨cnt, hcnt⟩ : ∃ cnt, ps.length = cnt := ⟨_, rfl⟩
  have hcnt0 : 0 < cnt := by rw [← hcnt, hpe]; simp
  rw [← hpe] at hc hi
  rw [hcnt] at hc
  rw [← ho] at hi
  obtain ⟨p1, hp1⟩ : ∃ p1, ps[1]? = some p1 := ⟨_, List.getElem?_eq_getElem (by omega)⟩
  have hg1' : ps.getD 1 [] = p1 := by rw [List.getD_eq_getElem?_getD, hp1]; rfl
  obtain ⟨P1, hP1⟩ : ∃ P : ByteArray, P = ⟨p1.toArray⟩ := ⟨_, rfl⟩
  rw [hg1'] at hi
  have hcd : candI (4) o ps = some ⟨o, 0, ⟨p1.toArray⟩, false, ⟨#[]⟩, ⟨#[]⟩, ⟨#[]⟩⟩ := by rw [candI, if_neg (by decide), if_neg (by decide), if_pos (by decide), hg1', if_pos (by rw [hcnt]; exact hc)]
  have HR : Hid _ := parI_yes hcd hi
  have hps1 := word_size hs (hps.trans hpe.symm) hp1
  rw [← hP1] at hi HR hps1
  have HCK0 := rCheck_any o 0 P1 false ⟨#[]⟩ ⟨#[]⟩ ⟨#[]⟩ (by unfold maxLen; omega) (by decide) (by decide) (by decide)
  rw [show ickE (o : Int) 0 P1 false ⟨#[]⟩ ⟨#[]⟩ ⟨#[]⟩ = 0 from hi] at HCK0
  have HCK : Hid (∀ w, _) := HCK0
  clear HCK0
  have HCUT : Hid (∀ w, Calls Tryz.prog 15 #[.string s, .int .u8 32] w fun e w' => ∃ g cap, e = .returned (.slice (some ⟨g, 0, none⟩) cnt cap) ∧ cnt ≤ cap ∧ cap ≤ 9223372036854775807 ∧ w.heap.size ≤ g ∧ g < w'.heap.size ∧ w'.cell? ⟨g, 0, none⟩ = some (.string P0) ∧ Hid (w'.cell? ⟨g, 1, none⟩ = some (.string P1) ∧ True) ∧ Below w.heap.size w w') := fun w => (HCUT0 w).mono fun e w' ⟨v, he, ho1, hb⟩ => by
    obtain ⟨g, cap, rfl, h1, h2, h3, h4, h5⟩ := own_words ho1 hpn
    rw [hcnt] at he h1
    unfold maxLen at h2
    exact ⟨g, cap, he, h1, h2, h3, h4, by rw [hP0]; exact h5 0 p0 hp0, ⟨by rw [hP1]; exact h5 1 p1 hp1, trivial⟩, hb⟩
  clear HCUT0 hP0 hpe
  have hcn2 : ((cnt : Int) != 2) = false := by rw [hc]; rfl
  clear hk hps ho hpn hp0 hcnt hP1 hp1 hg1' hcd hi hps1
  subst hc
  go_enter Tryz.func6, Tryz.ntmps6
  go_wp2_with (first
    | (go_at_call 15; refine (HCUT.out _).mono ?_; rintro e w1 ⟨g, cap, rfl, hcap1, hcap2, hg0, hg1, hc0, HJ, hb1⟩; simp at hg0; have hs1 : w.heap.size < w1.heap.size := (by have := hb1.size; simp at this; omega); have zb1 : Hid (ZB w1 w.heap.size) := ZB.keep (heap_alloc_new w _) hb1 (by simp); have hB1 : Hid (Below w.heap.size w w1) := Below.step ((Below.refl _ _).alloc (Nat.le_refl _) _) hb1; clear hb1 HCUT)
    | (go_at_call 16; refine (HOP.out _).mono ?_; rintro e w2 ⟨rfl, hb2⟩; have hs2 : w.heap.size < w2.heap.size := (by have := hb2.size; omega); have hg2 : g < w2.heap.size := (by have := hb2.size; omega); have hd0 : w2.cell? ⟨g, 1, none⟩ = some (.string P1) := (hb2.cell (p := ⟨g, 1, none⟩) hg1).trans (HJ.out.1); have zb2 : Hid (ZB w2 w.heap.size) := zb1.out.keep hb2 hs1; obtain ⟨z0, z1, z2, z3, z4, z5, z6, zf0, zf1, zf2, zf3, zf4, zf5, zf6⟩ := zb2.out.facts; have hB2 : Hid (Below w.heap.size w w2) := Below.step hB1.out hb2; clear hb2 HOP)
    | (go_at_call 17; refine (HO.out _).mono ?_; rintro e w9 ⟨rfl, hw9⟩; rw [hw9]; clear hw9 HO)
    | (go_at_call 19; refine (HCK.out _).mono ?_; rintro e w4 ⟨rfl, hb4⟩; have hs4 : w.heap.size < w4.heap.size := (by have := hb4.size; simp at this; omega); have ib4 : Hid (IB w4 w2.heap.size ⟨o, 0, P1, false, ⟨#[]⟩, ⟨#[]⟩, ⟨#[]⟩⟩) := IB.keep (heap_alloc_new w2 _) hb4 (by simp [*]); have zb4 : Hid (ZB w4 w.heap.size) := ZB.keep (zb2.out.new hs2) hb4 (by simp; omega); have hB4 : Hid (Below w.heap.size w w4) := Below.step (hB2.out.alloc hB2.out.size _) hb4; clear z0 z1 z2 z3 z4 z5 z6 zf0 zf1 zf2 zf3 zf4 zf5 zf6 hb4 HCK; obtain ⟨j0, j1, j2, j3, j4, j5, j6, jf0, jf1, jf2, jf3, jf4, jf5, jf6⟩ := ib4.out.facts; obtain ⟨y0, y1, y2, y3, y4, y5, y6, yf0, yf1, yf2, yf3, yf4, yf5, yf6⟩ := zb4.out.facts))
  refine bodyPost_ret (v := .tuple #[.agg #[.int .i64 (o : Int), .int .i64 0, .string P1, .bool false, .string ⟨#[]⟩, .string ⟨#[]⟩, .string ⟨#[]⟩], .int .i64 0]) (by simp [results, Tryz.results6, go_sem, *]) rfl ⟨by rw [HR.out]; rfl, ?_⟩
  exact ((((((hB4.out.setCell (Nat.le_refl _) _).setCell (Nat.le_refl _) _).setCell (Nat.le_refl _) _).setCell (Nat.le_refl _) _).setCell (Nat.le_refl _) _).setCell (Nat.le_refl _) _).setCell (Nat.le_refl _) _

set_option maxRecDepth 100000 in
set_option maxHeartbeats 800000 in
theorem parse_5_cnt (s : ByteArray) (hs : s.size ≤ 1099511627776) (p0 : List UInt8) (rest : List (List UInt8)) (hps : cutL 32 s.data.toList = p0 :: rest) (hk : opdI (opOf p0) = 5) (hc : (p0 :: rest).length ≠ 2) (w : World) : Calls Tryz.prog 6 #[.string s] w fun e w' => e = .returned (outI (parI (5) (opOf p0) (p0 :: rest))) ∧ Below w.heap.size w w' := by
  have HCUT0 := rCut_any 32 s hs
  rw [hps] at HCUT0
  have HOP0 := rOp_any ⟨p0.toArray⟩
  have HO0 := rOperand_any (opOf p0)
  rw [hk] at HO0
  have hob : opOf p0 ≤ 41 := op_le p0
  obtain ⟨P0, hP0⟩ : ∃ P : ByteArray, P = ⟨p0.toArray⟩ := ⟨_, rfl⟩
  obtain ⟨o, ho⟩ : ∃ o, o = opOf p0 := ⟨_, rfl⟩
  simp only at HOP0
  rw [← ho] at HOP0 HO0 hob ⊢
  rw [← hP0] at HOP0
  have HO : Hid (∀ w, _) := HO0
  have HOP : Hid (∀ w, _) := HOP0
  clear HO0 HOP0
  obtain ⟨ps, hpe⟩ : ∃ ps, ps = p0 :: rest := ⟨_, rfl⟩
  have hpn : ps ≠ [] := by rw [hpe]; simp
  have hp0 : ps[0]? = some p0 := by rw [hpe]; rfl
  rw [← hpe] at HCUT0 ⊢
  obtain ⟨cnt, hcnt⟩ : ∃ cnt, ps.length = cnt := ⟨_, rfl⟩
  have hcnt0 : 0 < cnt := by rw [← hcnt, hpe]; simp
  rw [← hpe, hcnt] at hc
  have HR : Hid _ := parI_no (k := 5) (o := o) (ps := ps) (by rw [candI, if_neg (by decide), if_neg (by decide), if_pos (by decide), if_neg (by rw [hcnt]; exact hc)])
  obtain ⟨q, hq⟩ : ∃ q, cnt = q + 1 := ⟨cnt - 1, by omega⟩
  obtain ⟨pl, hpl⟩ : ∃ pl, ps[q]? = some pl := ⟨_, List.getElem?_eq_getElem (by omega)⟩
  obtain ⟨PL, hPL⟩ : ∃ P : ByteArray, P = ⟨pl.toArray⟩ := ⟨_, rfl⟩
  have HCUT : Hid (∀ w, Calls Tryz.prog 15 #[.string s, .int .u8 32] w fun e w' => ∃ g cap, e = .returned (.slice (some ⟨g, 0, none⟩) cnt cap) ∧ cnt ≤ cap ∧ cap ≤ 9223372036854775807 ∧ w.heap.size ≤ g ∧ g < w'.heap.size ∧ w'.cell? ⟨g, 0, none⟩ = some (.string P0) ∧ Hid (w'.cell? ⟨g, q, none⟩ = some (.string PL) ∧ True) ∧ Below w.heap.size w w') := fun w => (HCUT0 w).mono fun e w' ⟨v, he, ho1, hb⟩ => by
    obtain ⟨g, cap, rfl, h1, h2, h3, h4, h5⟩ := own_words ho1 hpn
    rw [hcnt] at he h1
    unfold maxLen at h2
    exact ⟨g, cap, he, h1, h2, h3, h4, by rw [hP0]; exact h5 0 p0 hp0, ⟨by rw [hPL]; exact h5 q pl hpl, trivial⟩, hb⟩
  clear HCUT0 hP0 hpe
  subst hq
  have hcn2 : ((q : Int) + 1 != 2) = true := by rw [bne_iff_ne]; omega
  clear hk hps ho hpn hp0 hcnt hpl hPL
  go_enter Tryz.func6, Tryz.ntmps6
  go_wp2_with (first
    | (go_at_call 15; refine (HCUT.out _).mono ?_; rintro e w1 ⟨g, cap, rfl, hcap1, hcap2, hg0, hg1, hc0, HJ, hb1⟩; simp at hg0; have hs1 : w.heap.size < w1.heap.size := (by have := hb1.size; simp at this; omega); have zb1 : Hid (ZB w1 w.heap.size) := ZB.keep (heap_alloc_new w _) hb1 (by simp); have hB1 : Hid (Below w.heap.size w w1) := Below.step ((Below.refl _ _).alloc (Nat.le_refl _) _) hb1; clear hb1 HCUT)
    | (go_at_call 16; refine (HOP.out _).mono ?_; rintro e w2 ⟨rfl, hb2⟩; have hs2 : w.heap.size < w2.heap.size := (by have := hb2.size; omega); have hg2 : g < w2.heap.size := (by have := hb2.size; omega); have hd0 : w2.cell? ⟨g, q, none⟩ = some (.string PL) := (hb2.cell (p := ⟨g, q, none⟩) hg1).trans (HJ.out.1); have zb2 : Hid (ZB w2 w.heap.size) := zb1.out.keep hb2 hs1; obtain ⟨z0, z1, z2, z3, z4, z5, z6, zf0, zf1, zf2, zf3, zf4, zf5, zf6⟩ := zb2.out.facts; have hB2 : Hid (Below w.heap.size w w2) := Below.step hB1.out hb2; clear hb2 HOP)
    | (go_at_call 17; refine (HO.out _).mono ?_; rintro e w9 ⟨rfl, hw9⟩; rw [hw9]; clear hw9 HO))
  refine bodyPost_ret (v := .tuple #[.agg #[.int .i64 0, .int .i64 0, .string ⟨#[]⟩, .bool false, .string ⟨#[]⟩, .string ⟨#[]⟩, .string ⟨#[]⟩], .int .i64 4]) (by simp [results, Tryz.results6, go_sem, *]) rfl ⟨by rw [HR.out]; rfl, ?_⟩
  refine Below.alloc ?_ ?_ _
  · exact ((((((hB2.out.setCell (Nat.le_refl _) _).setCell (Nat.le_refl _) _).setCell (Nat.le_refl _) _).setCell (Nat.le_refl _) _).setCell (Nat.le_refl _) _).setCell (Nat.le_refl _) _).setCell (Nat.le_refl _) _
  · exact (((((((hB2.out.setCell (Nat.le_refl _) _).setCell (Nat.le_refl _) _).setCell (Nat.le_refl _) _).setCell (Nat.le_refl _) _).setCell (Nat.le_refl _) _).setCell (Nat.le_refl _) _).setCell (Nat.le_refl _) _).size

set_option maxRecDepth 100000 in
set_option maxHeartbeats 800000 in
theorem parse_5_bad (s : ByteArray) (hs : s.size ≤ 1099511627776) (p0 : List UInt8) (rest : List (List UInt8)) (hps : cutL 32 s.data.toList = p0 :: rest) (hk : opdI (opOf p0) = 5) (hc : (p0 :: rest).length = 2) (hi : ickI ⟨opOf p0, 0, ⟨((p0 :: rest).getD 1 []).toArray⟩, false, ⟨#[]⟩, ⟨#[]⟩, ⟨#[]⟩⟩ ≠ 0) (w : World) : Calls Tryz.prog 6 #[.string s] w fun e w' => e = .returned (outI (parI (5) (opOf p0) (p0 :: rest))) ∧ Below w.heap.size w w' := by
  have HCUT0 := rCut_any 32 s hs
  rw [hps] at HCUT0
  have HOP0 := rOp_any ⟨p0.toArray⟩
  have HO0 := rOperand_any (opOf p0)
  rw [hk] at HO0
  have hob : opOf p0 ≤ 41 := op_le p0
  obtain ⟨P0, hP0⟩ : ∃ P : ByteArray, P = ⟨p0.toArray⟩ := ⟨_, rfl⟩
  obtain ⟨o, ho⟩ : ∃ o, o = opOf p0 := ⟨_, rfl⟩
  simp only at HOP0
  rw [← ho] at HOP0 HO0 hob ⊢
  rw [← hP0] at HOP0
  have HO : Hid (∀ w, _) := HO0
  have HOP : Hid (∀ w, _) := HOP0
  clear HO0 HOP0
  obtain ⟨ps, hpe⟩ : ∃ ps, ps = p0 :: rest := ⟨_, rfl⟩
  have hpn : ps ≠ [] := by rw [hpe]; simp
  have hp0 : ps[0]? = some p0 := by rw [hpe]; rfl
  rw [← hpe] at HCUT0 ⊢
  obtain ⟨cnt, hcnt⟩ : ∃ cnt, ps.length = cnt := ⟨_, rfl⟩
  have hcnt0 : 0 < cnt := by rw [← hcnt, hpe]; simp
  rw [← hpe] at hc hi
  rw [hcnt] at hc
  rw [← ho] at hi
  obtain ⟨p1, hp1⟩ : ∃ p1, ps[1]? = some p1 := ⟨_, List.getElem?_eq_getElem (by omega)⟩
  have hg1' : ps.getD 1 [] = p1 := by rw [List.getD_eq_getElem?_getD, hp1]; rfl
  obtain ⟨P1, hP1⟩ : ∃ P : ByteArray, P = ⟨p1.toArray⟩ := ⟨_, rfl⟩
  rw [hg1'] at hi
  have hcd : candI (5) o ps = some ⟨o, 0, ⟨p1.toArray⟩, false, ⟨#[]⟩, ⟨#[]⟩, ⟨#[]⟩⟩ := by rw [candI, if_neg (by decide), if_neg (by decide), if_pos (by decide), hg1', if_pos (by rw [hcnt]; exact hc)]
  have HR : Hid _ := parI_bad hcd hi
  have hps1 := word_size hs (hps.trans hpe.symm) hp1
  rw [← hP1] at hi hps1
  have HCK0 := rCheck_any o 0 P1 false ⟨#[]⟩ ⟨#[]⟩ ⟨#[]⟩ (by unfold maxLen; omega) (by decide) (by decide) (by decide)
  rw [show ickE (o : Int) 0 P1 false ⟨#[]⟩ ⟨#[]⟩ ⟨#[]⟩ = 1 from (ick_01 _ _ _ _ _ _ _).resolve_left hi] at HCK0
  have HCK : Hid (∀ w, _) := HCK0
  clear HCK0
  have HCUT : Hid (∀ w, Calls Tryz.prog 15 #[.string s, .int .u8 32] w fun e w' => ∃ g cap, e = .returned (.slice (some ⟨g, 0, none⟩) cnt cap) ∧ cnt ≤ cap ∧ cap ≤ 9223372036854775807 ∧ w.heap.size ≤ g ∧ g < w'.heap.size ∧ w'.cell? ⟨g, 0, none⟩ = some (.string P0) ∧ Hid (w'.cell? ⟨g, 1, none⟩ = some (.string P1) ∧ True) ∧ Below w.heap.size w w') := fun w => (HCUT0 w).mono fun e w' ⟨v, he, ho1, hb⟩ => by
    obtain ⟨g, cap, rfl, h1, h2, h3, h4, h5⟩ := own_words ho1 hpn
    rw [hcnt] at he h1
    unfold maxLen at h2
    exact ⟨g, cap, he, h1, h2, h3, h4, by rw [hP0]; exact h5 0 p0 hp0, ⟨by rw [hP1]; exact h5 1 p1 hp1, trivial⟩, hb⟩
  clear HCUT0 hP0 hpe
  have hcn2 : ((cnt : Int) != 2) = false := by rw [hc]; rfl
  clear hk hps ho hpn hp0 hcnt hP1 hp1 hg1' hcd hi hps1
  subst hc
  go_enter Tryz.func6, Tryz.ntmps6
  go_wp2_with (first
    | (go_at_call 15; refine (HCUT.out _).mono ?_; rintro e w1 ⟨g, cap, rfl, hcap1, hcap2, hg0, hg1, hc0, HJ, hb1⟩; simp at hg0; have hs1 : w.heap.size < w1.heap.size := (by have := hb1.size; simp at this; omega); have zb1 : Hid (ZB w1 w.heap.size) := ZB.keep (heap_alloc_new w _) hb1 (by simp); have hB1 : Hid (Below w.heap.size w w1) := Below.step ((Below.refl _ _).alloc (Nat.le_refl _) _) hb1; clear hb1 HCUT)
    | (go_at_call 16; refine (HOP.out _).mono ?_; rintro e w2 ⟨rfl, hb2⟩; have hs2 : w.heap.size < w2.heap.size := (by have := hb2.size; omega); have hg2 : g < w2.heap.size := (by have := hb2.size; omega); have hd0 : w2.cell? ⟨g, 1, none⟩ = some (.string P1) := (hb2.cell (p := ⟨g, 1, none⟩) hg1).trans (HJ.out.1); have zb2 : Hid (ZB w2 w.heap.size) := zb1.out.keep hb2 hs1; obtain ⟨z0, z1, z2, z3, z4, z5, z6, zf0, zf1, zf2, zf3, zf4, zf5, zf6⟩ := zb2.out.facts; have hB2 : Hid (Below w.heap.size w w2) := Below.step hB1.out hb2; clear hb2 HOP)
    | (go_at_call 17; refine (HO.out _).mono ?_; rintro e w9 ⟨rfl, hw9⟩; rw [hw9]; clear hw9 HO)
    | (go_at_call 19; refine (HCK.out _).mono ?_; rintro e w4 ⟨rfl, hb4⟩; have hs4 : w.heap.size < w4.heap.size := (by have := hb4.size; simp at this; omega); have ib4 : Hid (IB w4 w2.heap.size ⟨o, 0, P1, false, ⟨#[]⟩, ⟨#[]⟩, ⟨#[]⟩⟩) := IB.keep (heap_alloc_new w2 _) hb4 (by simp [*]); have zb4 : Hid (ZB w4 w.heap.size) := ZB.keep (zb2.out.new hs2) hb4 (by simp; omega); have hB4 : Hid (Below w.heap.size w w4) := Below.step (hB2.out.alloc hB2.out.size _) hb4; clear z0 z1 z2 z3 z4 z5 z6 zf0 zf1 zf2 zf3 zf4 zf5 zf6 hb4 HCK; obtain ⟨j0, j1, j2, j3, j4, j5, j6, jf0, jf1, jf2, jf3, jf4, jf5, jf6⟩ := ib4.out.facts; obtain ⟨y0, y1, y2, y3, y4, y5, y6, yf0, yf1, yf2, yf3, yf4, yf5, yf6⟩ := zb4.out.facts))
  refine bodyPost_ret (v := .tuple #[.agg #[.int .i64 0, .int .i64 0, .string ⟨#[]⟩, .bool false, .string ⟨#[]⟩, .string ⟨#[]⟩, .string ⟨#[]⟩], .int .i64 4]) (by simp [results, Tryz.results6, go_sem, *]) rfl ⟨by rw [HR.out]; rfl, ?_⟩
  exact ((((((hB4.out.setCell (Nat.le_refl _) _).setCell (Nat.le_refl _) _).setCell (Nat.le_refl _) _).setCell (Nat.le_refl _) _).setCell (Nat.le_refl _) _).setCell (Nat.le_refl _) _).setCell (Nat.le_refl _) _

set_option maxRecDepth 100000 in
set_option maxHeartbeats 800000 in
theorem parse_5_yes (s : ByteArray) (hs : s.size ≤ 1099511627776) (p0 : List UInt8) (rest : List (List UInt8)) (hps : cutL 32 s.data.toList = p0 :: rest) (hk : opdI (opOf p0) = 5) (hc : (p0 :: rest).length = 2) (hi : ickI ⟨opOf p0, 0, ⟨((p0 :: rest).getD 1 []).toArray⟩, false, ⟨#[]⟩, ⟨#[]⟩, ⟨#[]⟩⟩ = 0) (w : World) : Calls Tryz.prog 6 #[.string s] w fun e w' => e = .returned (outI (parI (5) (opOf p0) (p0 :: rest))) ∧ Below w.heap.size w w' := by
  have HCUT0 := rCut_any 32 s hs
  rw [hps] at HCUT0
  have HOP0 := rOp_any ⟨p0.toArray⟩
  have HO0 := rOperand_any (opOf p0)
  rw [hk] at HO0
  have hob : opOf p0 ≤ 41 := op_le p0
  obtain ⟨P0, hP0⟩ : ∃ P : ByteArray, P = ⟨p0.toArray⟩ := ⟨_, rfl⟩
  obtain ⟨o, ho⟩ : ∃ o, o = opOf p0 := ⟨_, rfl⟩
  simp only at HOP0
  rw [← ho] at HOP0 HO0 hob ⊢
  rw [← hP0] at HOP0
  have HO : Hid (∀ w, _) := HO0
  have HOP : Hid (∀ w, _) := HOP0
  clear HO0 HOP0
  obtain ⟨ps, hpe⟩ : ∃ ps, ps = p0 :: rest := ⟨_, rfl⟩
  have hpn : ps ≠ [] := by rw [hpe]; simp
  have hp0 : ps[0]? = some p0 := by rw [hpe]; rfl
  rw [← hpe] at HCUT0 ⊢
  obtain ⟨cnt, hcnt⟩ : ∃ cnt, ps.length = cnt := ⟨_, rfl⟩
  have hcnt0 : 0 < cnt := by rw [← hcnt, hpe]; simp
  rw [← hpe] at hc hi
  rw [hcnt] at hc
  rw [← ho] at hi
  obtain ⟨p1, hp1⟩ : ∃ p1, ps[1]? = some p1 := ⟨_, List.getElem?_eq_getElem (by omega)⟩
  have hg1' : ps.getD 1 [] = p1 := by rw [List.getD_eq_getElem?_getD, hp1]; rfl
  obtain ⟨P1, hP1⟩ : ∃ P : ByteArray, P = ⟨p1.toArray⟩ := ⟨_, rfl⟩
  rw [hg1'] at hi
  have hcd : candI (5) o ps = some ⟨o, 0, ⟨p1.toArray⟩, false, ⟨#[]⟩, ⟨#[]⟩, ⟨#[]⟩⟩ := by rw [candI, if_neg (by decide), if_neg (by decide), if_pos (by decide), hg1', if_pos (by rw [hcnt]; exact hc)]
  have HR : Hid _ := parI_yes hcd hi
  have hps1 := word_size hs (hps.trans hpe.symm) hp1
  rw [← hP1] at hi HR hps1
  have HCK0 := rCheck_any o 0 P1 false ⟨#[]⟩ ⟨#[]⟩ ⟨#[]⟩ (by unfold maxLen; omega) (by decide) (by decide) (by decide)
  rw [show ickE (o : Int) 0 P1 false ⟨#[]⟩ ⟨#[]⟩ ⟨#[]⟩ = 0 from hi] at HCK0
  have HCK : Hid (∀ w, _) := HCK0
  clear HCK0
  have HCUT : Hid (∀ w, Calls Tryz.prog 15 #[.string s, .int .u8 32] w fun e w' => ∃ g cap, e = .returned (.slice (some ⟨g, 0, none⟩) cnt cap) ∧ cnt ≤ cap ∧ cap ≤ 9223372036854775807 ∧ w.heap.size ≤ g ∧ g < w'.heap.size ∧ w'.cell? ⟨g, 0, none⟩ = some (.string P0) ∧ Hid (w'.cell? ⟨g, 1, none⟩ = some (.string P1) ∧ True) ∧ Below w.heap.size w w') := fun w => (HCUT0 w).mono fun e w' ⟨v, he, ho1, hb⟩ => by
    obtain ⟨g, cap, rfl, h1, h2, h3, h4, h5⟩ := own_words ho1 hpn
    rw [hcnt] at he h1
    unfold maxLen at h2
    exact ⟨g, cap, he, h1, h2, h3, h4, by rw [hP0]; exact h5 0 p0 hp0, ⟨by rw [hP1]; exact h5 1 p1 hp1, trivial⟩, hb⟩
  clear HCUT0 hP0 hpe
  have hcn2 : ((cnt : Int) != 2) = false := by rw [hc]; rfl
  clear hk hps ho hpn hp0 hcnt hP1 hp1 hg1' hcd hi hps1
  subst hc
  go_enter Tryz.func6, Tryz.ntmps6
  go_wp2_with (first
    | (go_at_call 15; refine (HCUT.out _).mono ?_; rintro e w1 ⟨g, cap, rfl, hcap1, hcap2, hg0, hg1, hc0, HJ, hb1⟩; simp at hg0; have hs1 : w.heap.size < w1.heap.size := (by have := hb1.size; simp at this; omega); have zb1 : Hid (ZB w1 w.heap.size) := ZB.keep (heap_alloc_new w _) hb1 (by simp); have hB1 : Hid (Below w.heap.size w w1) := Below.step ((Below.refl _ _).alloc (Nat.le_refl _) _) hb1; clear hb1 HCUT)
    | (go_at_call 16; refine (HOP.out _).mono ?_; rintro e w2 ⟨rfl, hb2⟩; have hs2 : w.heap.size < w2.heap.size := (by have := hb2.size; omega); have hg2 : g < w2.heap.size := (by have := hb2.size; omega); have hd0 : w2.cell? ⟨g, 1, none⟩ = some (.string P1) := (hb2.cell (p := ⟨g, 1, none⟩) hg1).trans (HJ.out.1); have zb2 : Hid (ZB w2 w.heap.size) := zb1.out.keep hb2 hs1; obtain ⟨z0, z1, z2, z3, z4, z5, z6, zf0, zf1, zf2, zf3, zf4, zf5, zf6⟩ := zb2.out.facts; have hB2 : Hid (Below w.heap.size w w2) := Below.step hB1.out hb2; clear hb2 HOP)
    | (go_at_call 17; refine (HO.out _).mono ?_; rintro e w9 ⟨rfl, hw9⟩; rw [hw9]; clear hw9 HO)
    | (go_at_call 19; refine (HCK.out _).mono ?_; rintro e w4 ⟨rfl, hb4⟩; have hs4 : w.heap.size < w4.heap.size := (by have := hb4.size; simp at this; omega); have ib4 : Hid (IB w4 w2.heap.size ⟨o, 0, P1, false, ⟨#[]⟩, ⟨#[]⟩, ⟨#[]⟩⟩) := IB.keep (heap_alloc_new w2 _) hb4 (by simp [*]); have zb4 : Hid (ZB w4 w.heap.size) := ZB.keep (zb2.out.new hs2) hb4 (by simp; omega); have hB4 : Hid (Below w.heap.size w w4) := Below.step (hB2.out.alloc hB2.out.size _) hb4; clear z0 z1 z2 z3 z4 z5 z6 zf0 zf1 zf2 zf3 zf4 zf5 zf6 hb4 HCK; obtain ⟨j0, j1, j2, j3, j4, j5, j6, jf0, jf1, jf2, jf3, jf4, jf5, jf6⟩ := ib4.out.facts; obtain ⟨y0, y1, y2, y3, y4, y5, y6, yf0, yf1, yf2, yf3, yf4, yf5, yf6⟩ := zb4.out.facts))
  refine bodyPost_ret (v := .tuple #[.agg #[.int .i64 (o : Int), .int .i64 0, .string P1, .bool false, .string ⟨#[]⟩, .string ⟨#[]⟩, .string ⟨#[]⟩], .int .i64 0]) (by simp [results, Tryz.results6, go_sem, *]) rfl ⟨by rw [HR.out]; rfl, ?_⟩
  exact ((((((hB4.out.setCell (Nat.le_refl _) _).setCell (Nat.le_refl _) _).setCell (Nat.le_refl _) _).setCell (Nat.le_refl _) _).setCell (Nat.le_refl _) _).setCell (Nat.le_refl _) _).setCell (Nat.le_refl _) _

set_option maxRecDepth 100000 in
set_option maxHeartbeats 800000 in
theorem parse_6_cnt (s : ByteArray) (hs : s.size ≤ 1099511627776) (p0 : List UInt8) (rest : List (List UInt8)) (hps : cutL 32 s.data.toList = p0 :: rest) (hk : opdI (opOf p0) = 6) (hc : (p0 :: rest).length ≠ 2) (w : World) : Calls Tryz.prog 6 #[.string s] w fun e w' => e = .returned (outI (parI (6) (opOf p0) (p0 :: rest))) ∧ Below w.heap.size w w' := by
  have HCUT0 := rCut_any 32 s hs
  rw [hps] at HCUT0
  have HOP0 := rOp_any ⟨p0.toArray⟩
  have HO0 := rOperand_any (opOf p0)
  rw [hk] at HO0
  have hob : opOf p0 ≤ 41 := op_le p0
  obtain ⟨P0, hP0⟩ : ∃ P : ByteArray, P = ⟨p0.toArray⟩ := ⟨_, rfl⟩
  obtain ⟨o, ho⟩ : ∃ o, o = opOf p0 := ⟨_, rfl⟩
  simp only at HOP0
  rw [← ho] at HOP0 HO0 hob ⊢
  rw [← hP0] at HOP0
  have HO : Hid (∀ w, _) := HO0
  have HOP : Hid (∀ w, _) := HOP0
  clear HO0 HOP0
  obtain ⟨ps, hpe⟩ : ∃ ps, ps = p0 :: rest := ⟨_, rfl⟩
  have hpn : ps ≠ [] := by rw [hpe]; simp
  have hp0 : ps[0]? = some p0 := by rw [hpe]; rfl
  rw [← hpe] at HCUT0 ⊢
  obtain ⟨cnt, hcnt⟩ : ∃ cnt, ps.length = cnt := ⟨_, rfl⟩
  have hcnt0 : 0 < cnt := by rw [← hcnt, hpe]; simp
  rw [← hpe, hcnt] at hc
  have HR : Hid _ := parI_no (k := 6) (o := o) (ps := ps) (by rw [candI, if_neg (by decide), if_neg (by decide), if_pos (by decide), if_neg (by rw [hcnt]; exact hc)])
  obtain ⟨q, hq⟩ : ∃ q, cnt = q + 1 := ⟨cnt - 1, by omega⟩
  obtain ⟨pl, hpl⟩ : ∃ pl, ps[q]? = some pl := ⟨_, List.getElem?_eq_getElem (by omega)⟩
  obtain ⟨PL, hPL⟩ : ∃ P : ByteArray, P = ⟨pl.toArray⟩ := ⟨_, rfl⟩
  have HCUT : Hid (∀ w, Calls Tryz.prog 15 #[.string s, .int .u8 32] w fun e w' => ∃ g cap, e = .returned (.slice (some ⟨g, 0, none⟩) cnt cap) ∧ cnt ≤ cap ∧ cap ≤ 9223372036854775807 ∧ w.heap.size ≤ g ∧ g < w'.heap.size ∧ w'.cell? ⟨g, 0, none⟩ = some (.string P0) ∧ Hid (w'.cell? ⟨g, q, none⟩ = some (.string PL) ∧ True) ∧ Below w.heap.size w w') := fun w => (HCUT0 w).mono fun e w' ⟨v, he, ho1, hb⟩ => by
    obtain ⟨g, cap, rfl, h1, h2, h3, h4, h5⟩ := own_words ho1 hpn
    rw [hcnt] at he h1
    unfold maxLen at h2
    exact ⟨g, cap, he, h1, h2, h3, h4, by rw [hP0]; exact h5 0 p0 hp0, ⟨by rw [hPL]; exact h5 q pl hpl, trivial⟩, hb⟩
  clear HCUT0 hP0 hpe
  subst hq
  have hcn2 : ((q : Int) + 1 != 2) = true := by rw [bne_iff_ne]; omega
  clear hk hps ho hpn hp0 hcnt hpl hPL
  go_enter Tryz.func6, Tryz.ntmps6
  go_wp2_with (first
    | (go_at_call 15; refine (HCUT.out _).mono ?_; rintro e w1 ⟨g, cap, rfl, hcap1, hcap2, hg0, hg1, hc0, HJ, hb1⟩; simp at hg0; have hs1 : w.heap.size < w1.heap.size := (by have := hb1.size; simp at this; omega); have zb1 : Hid (ZB w1 w.heap.size) := ZB.keep (heap_alloc_new w _) hb1 (by simp); have hB1 : Hid (Below w.heap.size w w1) := Below.step ((Below.refl _ _).alloc (Nat.le_refl _) _) hb1; clear hb1 HCUT)
    | (go_at_call 16; refine (HOP.out _).mono ?_; rintro e w2 ⟨rfl, hb2⟩; have hs2 : w.heap.size < w2.heap.size := (by have := hb2.size; omega); have hg2 : g < w2.heap.size := (by have := hb2.size; omega); have hd0 : w2.cell? ⟨g, q, none⟩ = some (.string PL) := (hb2.cell (p := ⟨g, q, none⟩) hg1).trans (HJ.out.1); have zb2 : Hid (ZB w2 w.heap.size) := zb1.out.keep hb2 hs1; obtain ⟨z0, z1, z2, z3, z4, z5, z6, zf0, zf1, zf2, zf3, zf4, zf5, zf6⟩ := zb2.out.facts; have hB2 : Hid (Below w.heap.size w w2) := Below.step hB1.out hb2; clear hb2 HOP)
    | (go_at_call 17; refine (HO.out _).mono ?_; rintro e w9 ⟨rfl, hw9⟩; rw [hw9]; clear hw9 HO))
  refine bodyPost_ret (v := .tuple #[.agg #[.int .i64 0, .int .i64 0, .string ⟨#[]⟩, .bool false, .string ⟨#[]⟩, .string ⟨#[]⟩, .string ⟨#[]⟩], .int .i64 4]) (by simp [results, Tryz.results6, go_sem, *]) rfl ⟨by rw [HR.out]; rfl, ?_⟩
  refine Below.alloc ?_ ?_ _
  · exact ((((((hB2.out.setCell (Nat.le_refl _) _).setCell (Nat.le_refl _) _).setCell (Nat.le_refl _) _).setCell (Nat.le_refl _) _).setCell (Nat.le_refl _) _).setCell (Nat.le_refl _) _).setCell (Nat.le_refl _) _
  · exact (((((((hB2.out.setCell (Nat.le_refl _) _).setCell (Nat.le_refl _) _).setCell (Nat.le_refl _) _).setCell (Nat.le_refl _) _).setCell (Nat.le_refl _) _).setCell (Nat.le_refl _) _).setCell (Nat.le_refl _) _).size

set_option maxRecDepth 100000 in
set_option maxHeartbeats 800000 in
theorem parse_6_bad (s : ByteArray) (hs : s.size ≤ 1099511627776) (p0 : List UInt8) (rest : List (List UInt8)) (hps : cutL 32 s.data.toList = p0 :: rest) (hk : opdI (opOf p0) = 6) (hc : (p0 :: rest).length = 2) (hi : ickI ⟨opOf p0, 0, ⟨((p0 :: rest).getD 1 []).toArray⟩, false, ⟨#[]⟩, ⟨#[]⟩, ⟨#[]⟩⟩ ≠ 0) (w : World) : Calls Tryz.prog 6 #[.string s] w fun e w' => e = .returned (outI (parI (6) (opOf p0) (p0 :: rest))) ∧ Below w.heap.size w w' := by
  have HCUT0 := rCut_any 32 s hs
  rw [hps] at HCUT0
  have HOP0 := rOp_any ⟨p0.toArray⟩
  have HO0 := rOperand_any (opOf p0)
  rw [hk] at HO0
  have hob : opOf p0 ≤ 41 := op_le p0
  obtain ⟨P0, hP0⟩ : ∃ P : ByteArray, P = ⟨p0.toArray⟩ := ⟨_, rfl⟩
  obtain ⟨o, ho⟩ : ∃ o, o = opOf p0 := ⟨_, rfl⟩
  simp only at HOP0
  rw [← ho] at HOP0 HO0 hob ⊢
  rw [← hP0] at HOP0
  have HO : Hid (∀ w, _) := HO0
  have HOP : Hid (∀ w, _) := HOP0
  clear HO0 HOP0
  obtain ⟨ps, hpe⟩ : ∃ ps, ps = p0 :: rest := ⟨_, rfl⟩
  have hpn : ps ≠ [] := by rw [hpe]; simp
  have hp0 : ps[0]? = some p0 := by rw [hpe]; rfl
  rw [← hpe] at HCUT0 ⊢
  obtain ⟨cnt, hcnt⟩ : ∃ cnt, ps.length = cnt := ⟨_, rfl⟩
  have hcnt0 : 0 < cnt := by rw [← hcnt, hpe]; simp
  rw [← hpe] at hc hi
  rw [hcnt] at hc
  rw [← ho] at hi
  obtain ⟨p1, hp1⟩ : ∃ p1, ps[1]? = some p1 := ⟨_, List.getElem?_eq_getElem (by omega)⟩
  have hg1' : ps.getD 1 [] = p1 := by rw [List.getD_eq_getElem?_getD, hp1]; rfl
  obtain ⟨P1, hP1⟩ : ∃ P : ByteArray, P = ⟨p1.toArray⟩ := ⟨_, rfl⟩
  rw [hg1'] at hi
  have hcd : candI (6) o ps = some ⟨o, 0, ⟨p1.toArray⟩, false, ⟨#[]⟩, ⟨#[]⟩, ⟨#[]⟩⟩ := by rw [candI, if_neg (by decide), if_neg (by decide), if_pos (by decide), hg1', if_pos (by rw [hcnt]; exact hc)]
  have HR : Hid _ := parI_bad hcd hi
  have hps1 := word_size hs (hps.trans hpe.symm) hp1
  rw [← hP1] at hi hps1
  have HCK0 := rCheck_any o 0 P1 false ⟨#[]⟩ ⟨#[]⟩ ⟨#[]⟩ (by unfold maxLen; omega) (by decide) (by decide) (by decide)
  rw [show ickE (o : Int) 0 P1 false ⟨#[]⟩ ⟨#[]⟩ ⟨#[]⟩ = 1 from (ick_01 _ _ _ _ _ _ _).resolve_left hi] at HCK0
  have HCK : Hid (∀ w, _) := HCK0
  clear HCK0
  have HCUT : Hid (∀ w, Calls Tryz.prog 15 #[.string s, .int .u8 32] w fun e w' => ∃ g cap, e = .returned (.slice (some ⟨g, 0, none⟩) cnt cap) ∧ cnt ≤ cap ∧ cap ≤ 9223372036854775807 ∧ w.heap.size ≤ g ∧ g < w'.heap.size ∧ w'.cell? ⟨g, 0, none⟩ = some (.string P0) ∧ Hid (w'.cell? ⟨g, 1, none⟩ = some (.string P1) ∧ True) ∧ Below w.heap.size w w') := fun w => (HCUT0 w).mono fun e w' ⟨v, he, ho1, hb⟩ => by
    obtain ⟨g, cap, rfl, h1, h2, h3, h4, h5⟩ := own_words ho1 hpn
    rw [hcnt] at he h1
    unfold maxLen at h2
    exact ⟨g, cap, he, h1, h2, h3, h4, by rw [hP0]; exact h5 0 p0 hp0, ⟨by rw [hP1]; exact h5 1 p1 hp1, trivial⟩, hb⟩
  clear HCUT0 hP0 hpe
  have hcn2 : ((cnt : Int) != 2) = false := by rw [hc]; rfl
  clear hk hps ho hpn hp0 hcnt hP1 hp1 hg1' hcd hi hps1
  subst hc
  go_enter Tryz.func6, Tryz.ntmps6
  go_wp2_with (first
    | (go_at_call 15; refine (HCUT.out _).mono ?_; rintro e w1 ⟨g, cap, rfl, hcap1, hcap2, hg0, hg1, hc0, HJ, hb1⟩; simp at hg0; have hs1 : w.heap.size < w1.heap.size := (by have := hb1.size; simp at this; omega); have zb1 : Hid (ZB w1 w.heap.size) := ZB.keep (heap_alloc_new w _) hb1 (by simp); have hB1 : Hid (Below w.heap.size w w1) := Below.step ((Below.refl _ _).alloc (Nat.le_refl _) _) hb1; clear hb1 HCUT)
    | (go_at_call 16; refine (HOP.out _).mono ?_; rintro e w2 ⟨rfl, hb2⟩; have hs2 : w.heap.size < w2.heap.size := (by have := hb2.size; omega); have hg2 : g < w2.heap.size := (by have := hb2.size; omega); have hd0 : w2.cell? ⟨g, 1, none⟩ = some (.string P1) := (hb2.cell (p := ⟨g, 1, none⟩) hg1).trans (HJ.out.1); have zb2 : Hid (ZB w2 w.heap.size) := zb1.out.keep hb2 hs1; obtain ⟨z0, z1, z2, z3, z4, z5, z6, zf0, zf1, zf2, zf3, zf4, zf5, zf6⟩ := zb2.out.facts; have hB2 : Hid (Below w.heap.size w w2) := Below.step hB1.out hb2; clear hb2 HOP)
    | (go_at_call 17; refine (HO.out _).mono ?_; rintro e w9 ⟨rfl, hw9⟩; rw [hw9]; clear hw9 HO)
    | (go_at_call 19; refine (HCK.out _).mono ?_; rintro e w4 ⟨rfl, hb4⟩; have hs4 : w.heap.size < w4.heap.size := (by have := hb4.size; simp at this; omega); have ib4 : Hid (IB w4 w2.heap.size ⟨o, 0, P1, false, ⟨#[]⟩, ⟨#[]⟩, ⟨#[]⟩⟩) := IB.keep (heap_alloc_new w2 _) hb4 (by simp [*]); have zb4 : Hid (ZB w4 w.heap.size) := ZB.keep (zb2.out.new hs2) hb4 (by simp; omega); have hB4 : Hid (Below w.heap.size w w4) := Below.step (hB2.out.alloc hB2.out.size _) hb4; clear z0 z1 z2 z3 z4 z5 z6 zf0 zf1 zf2 zf3 zf4 zf5 zf6 hb4 HCK; obtain ⟨j0, j1, j2, j3, j4, j5, j6, jf0, jf1, jf2, jf3, jf4, jf5, jf6⟩ := ib4.out.facts; obtain ⟨y0, y1, y2, y3, y4, y5, y6, yf0, yf1, yf2, yf3, yf4, yf5, yf6⟩ := zb4.out.facts))
  refine bodyPost_ret (v := .tuple #[.agg #[.int .i64 0, .int .i64 0, .string ⟨#[]⟩, .bool false, .string ⟨#[]⟩, .string ⟨#[]⟩, .string ⟨#[]⟩], .int .i64 4]) (by simp [results, Tryz.results6, go_sem, *]) rfl ⟨by rw [HR.out]; rfl, ?_⟩
  exact ((((((hB4.out.setCell (Nat.le_refl _) _).setCell (Nat.le_refl _) _).setCell (Nat.le_refl _) _).setCell (Nat.le_refl _) _).setCell (Nat.le_refl _) _).setCell (Nat.le_refl _) _).setCell (Nat.le_refl _) _

set_option maxRecDepth 100000 in
set_option maxHeartbeats 800000 in
theorem parse_6_yes (s : ByteArray) (hs : s.size ≤ 1099511627776) (p0 : List UInt8) (rest : List (List UInt8)) (hps : cutL 32 s.data.toList = p0 :: rest) (hk : opdI (opOf p0) = 6) (hc : (p0 :: rest).length = 2) (hi : ickI ⟨opOf p0, 0, ⟨((p0 :: rest).getD 1 []).toArray⟩, false, ⟨#[]⟩, ⟨#[]⟩, ⟨#[]⟩⟩ = 0) (w : World) : Calls Tryz.prog 6 #[.string s] w fun e w' => e = .returned (outI (parI (6) (opOf p0) (p0 :: rest))) ∧ Below w.heap.size w w' := by
  have HCUT0 := rCut_any 32 s hs
  rw [hps] at HCUT0
  have HOP0 := rOp_any ⟨p0.toArray⟩
  have HO0 := rOperand_any (opOf p0)
  rw [hk] at HO0
  have hob : opOf p0 ≤ 41 := op_le p0
  obtain ⟨P0, hP0⟩ : ∃ P : ByteArray, P = ⟨p0.toArray⟩ := ⟨_, rfl⟩
  obtain ⟨o, ho⟩ : ∃ o, o = opOf p0 := ⟨_, rfl⟩
  simp only at HOP0
  rw [← ho] at HOP0 HO0 hob ⊢
  rw [← hP0] at HOP0
  have HO : Hid (∀ w, _) := HO0
  have HOP : Hid (∀ w, _) := HOP0
  clear HO0 HOP0
  obtain ⟨ps, hpe⟩ : ∃ ps, ps = p0 :: rest := ⟨_, rfl⟩
  have hpn : ps ≠ [] := by rw [hpe]; simp
  have hp0 : ps[0]? = some p0 := by rw [hpe]; rfl
  rw [← hpe] at HCUT0 ⊢
  obtain ⟨cnt, hcnt⟩ : ∃ cnt, ps.length = cnt := ⟨_, rfl⟩
  have hcnt0 : 0 < cnt := by rw [← hcnt, hpe]; simp
  rw [← hpe] at hc hi
  rw [hcnt] at hc
  rw [← ho] at hi
  obtain ⟨p1, hp1⟩ : ∃ p1, ps[1]? = some p1 := ⟨_, List.getElem?_eq_getElem (by omega)⟩
  have hg1' : ps.getD 1 [] = p1 := by rw [List.getD_eq_getElem?_getD, hp1]; rfl
  obtain ⟨P1, hP1⟩ : ∃ P : ByteArray, P = ⟨p1.toArray⟩ := ⟨_, rfl⟩
  rw [hg1'] at hi
  have hcd : candI (6) o ps = some ⟨o, 0, ⟨p1.toArray⟩, false, ⟨#[]⟩, ⟨#[]⟩, ⟨#[]⟩⟩ := by rw [candI, if_neg (by decide), if_neg (by decide), if_pos (by decide), hg1', if_pos (by rw [hcnt]; exact hc)]
  have HR : Hid _ := parI_yes hcd hi
  have hps1 := word_size hs (hps.trans hpe.symm) hp1
  rw [← hP1] at hi HR hps1
  have HCK0 := rCheck_any o 0 P1 false ⟨#[]⟩ ⟨#[]⟩ ⟨#[]⟩ (by unfold maxLen; omega) (by decide) (by decide) (by decide)
  rw [show ickE (o : Int) 0 P1 false ⟨#[]⟩ ⟨#[]⟩ ⟨#[]⟩ = 0 from hi] at HCK0
  have HCK : Hid (∀ w, _) := HCK0
  clear HCK0
  have HCUT : Hid (∀ w, Calls Tryz.prog 15 #[.string s, .int .u8 32] w fun e w' => ∃ g cap, e = .returned (.slice (some ⟨g, 0, none⟩) cnt cap) ∧ cnt ≤ cap ∧ cap ≤ 9223372036854775807 ∧ w.heap.size ≤ g ∧ g < w'.heap.size ∧ w'.cell? ⟨g, 0, none⟩ = some (.string P0) ∧ Hid (w'.cell? ⟨g, 1, none⟩ = some (.string P1) ∧ True) ∧ Below w.heap.size w w') := fun w => (HCUT0 w).mono fun e w' ⟨v, he, ho1, hb⟩ => by
    obtain ⟨g, cap, rfl, h1, h2, h3, h4, h5⟩ := own_words ho1 hpn
    rw [hcnt] at he h1
    unfold maxLen at h2
    exact ⟨g, cap, he, h1, h2, h3, h4, by rw [hP0]; exact h5 0 p0 hp0, ⟨by rw [hP1]; exact h5 1 p1 hp1, trivial⟩, hb⟩
  clear HCUT0 hP0 hpe
  have hcn2 : ((cnt : Int) != 2) = false := by rw [hc]; rfl
  clear hk hps ho hpn hp0 hcnt hP1 hp1 hg1' hcd hi hps1
  subst hc
  go_enter Tryz.func6, Tryz.ntmps6
  go_wp2_with (first
    | (go_at_call 15; refine (HCUT.out _).mono ?_; rintro e w1 ⟨g, cap, rfl, hcap1, hcap2, hg0, hg1, hc0, HJ, hb1⟩; simp at hg0; have hs1 : w.heap.size < w1.heap.size := (by have := hb1.size; simp at this; omega); have zb1 : Hid (ZB w1 w.heap.size) := ZB.keep (heap_alloc_new w _) hb1 (by simp); have hB1 : Hid (Below w.heap.size w w1) := Below.step ((Below.refl _ _).alloc (Nat.le_refl _) _) hb1; clear hb1 HCUT)
    | (go_at_call 16; refine (HOP.out _).mono ?_; rintro e w2 ⟨rfl, hb2⟩; have hs2 : w.heap.size < w2.heap.size := (by have := hb2.size; omega); have hg2 : g < w2.heap.size := (by have := hb2.size; omega); have hd0 : w2.cell? ⟨g, 1, none⟩ = some (.string P1) := (hb2.cell (p := ⟨g, 1, none⟩) hg1).trans (HJ.out.1); have zb2 : Hid (ZB w2 w.heap.size) := zb1.out.keep hb2 hs1; obtain ⟨z0, z1, z2, z3, z4, z5, z6, zf0, zf1, zf2, zf3, zf4, zf5, zf6⟩ := zb2.out.facts; have hB2 : Hid (Below w.heap.size w w2) := Below.step hB1.out hb2; clear hb2 HOP)
    | (go_at_call 17; refine (HO.out _).mono ?_; rintro e w9 ⟨rfl, hw9⟩; rw [hw9]; clear hw9 HO)
    | (go_at_call 19; refine (HCK.out _).mono ?_; rintro e w4 ⟨rfl, hb4⟩; have hs4 : w.heap.size < w4.heap.size := (by have := hb4.size; simp at this; omega); have ib4 : Hid (IB w4 w2.heap.size ⟨o, 0, P1, false, ⟨#[]⟩, ⟨#[]⟩, ⟨#[]⟩⟩) := IB.keep (heap_alloc_new w2 _) hb4 (by simp [*]); have zb4 : Hid (ZB w4 w.heap.size) := ZB.keep (zb2.out.new hs2) hb4 (by simp; omega); have hB4 : Hid (Below w.heap.size w w4) := Below.step (hB2.out.alloc hB2.out.size _) hb4; clear z0 z1 z2 z3 z4 z5 z6 zf0 zf1 zf2 zf3 zf4 zf5 zf6 hb4 HCK; obtain ⟨j0, j1, j2, j3, j4, j5, j6, jf0, jf1, jf2, jf3, jf4, jf5, jf6⟩ := ib4.out.facts; obtain ⟨y0, y1, y2, y3, y4, y5, y6, yf0, yf1, yf2, yf3, yf4, yf5, yf6⟩ := zb4.out.facts))
  refine bodyPost_ret (v := .tuple #[.agg #[.int .i64 (o : Int), .int .i64 0, .string P1, .bool false, .string ⟨#[]⟩, .string ⟨#[]⟩, .string ⟨#[]⟩], .int .i64 0]) (by simp [results, Tryz.results6, go_sem, *]) rfl ⟨by rw [HR.out]; rfl, ?_⟩
  exact ((((((hB4.out.setCell (Nat.le_refl _) _).setCell (Nat.le_refl _) _).setCell (Nat.le_refl _) _).setCell (Nat.le_refl _) _).setCell (Nat.le_refl _) _).setCell (Nat.le_refl _) _).setCell (Nat.le_refl _) _

end Go.Proofs.YtijlipllahfakaaGreatDoor

namespace Go.Proofs.YtijlipllahfakaaGreatDoor
open Go.RowKit

set_option maxRecDepth 100000 in
set_option maxHeartbeats 800000 in
theorem parse_7_cnt (s : ByteArray) (hs : s.size ≤ 1099511627776) (p0 : List UInt8) (rest : List (List UInt8)) (hps : cutL 32 s.data.toList = p0 :: rest) (hk : opdI (opOf p0) = 7) (hc : (p0 :: rest).length ≠ 3) (w : World) : Calls Tryz.prog 6 #[.string s] w fun e w' => e = .returned (outI (parI (7) (opOf p0) (p0 :: rest))) ∧ Below w.heap.size w w' := by
  have HCUT0 := rCut_any 32 s hs
  rw [hps] at HCUT0
  have HOP0 := rOp_any ⟨p0.toArray⟩
  have HO0 := rOperand_any (opOf p0)
  rw [hk] at HO0
  have hob : opOf p0 ≤ 41 := op_le p0
  obtain ⟨P0, hP0⟩ : ∃ P : ByteArray, P = ⟨p0.toArray⟩ := ⟨_, rfl⟩
  obtain ⟨o, ho⟩ : ∃ o, o = opOf p0 := ⟨_, rfl⟩
  simp only at HOP0
  rw [← ho] at HOP0 HO0 hob ⊢
  rw [← hP0] at HOP0
  have HO : Hid (∀ w, _) := HO0
  have HOP : Hid (∀ w, _) := HOP0
  clear HO0 HOP0
  obtain ⟨ps, hpe⟩ : ∃ ps, ps = p0 :: rest := ⟨_, rfl⟩
  have hpn : ps ≠ [] := by rw [hpe]; simp
  have hp0 : ps[0]? = some p0 := by rw [hpe]; rfl
  rw [← hpe] at HCUT0 ⊢
  obtain ⟨cnt, hcnt⟩ : ∃ cnt, ps.length = cnt := ⟨_, rfl⟩
  have hcnt0 : 0 < cnt := by rw [← hcnt, hpe]; simp
  rw [← hpe, hcnt] at hc
  have HR : Hid _ := parI_no (k := 7) (o := o) (ps := ps) (by rw [candI, if_neg (by decide), if_neg (by decide), if_neg (by decide), if_pos (by decide), if_neg (by rw [hcnt]; exact fun h => hc h.1)])
  have HCUT : Hid (∀ w, Calls Tryz.prog 15 #[.string s, .int .u8 32] w fun e w' => ∃ g cap, e = .returned (.slice (some ⟨g, 0, none⟩) cnt cap) ∧ cnt ≤ cap ∧ cap ≤ 9223372036854775807 ∧ w.heap.size ≤ g ∧ g < w'.heap.size ∧ w'.cell? ⟨g, 0, none⟩ = some (.string P0) ∧ Hid (True) ∧ Below w.heap.size w w') := fun w => (HCUT0 w).mono fun e w' ⟨v, he, ho1, hb⟩ => by
    obtain ⟨g, cap, rfl, h1, h2, h3, h4, h5⟩ := own_words ho1 hpn
    rw [hcnt] at he h1
    unfold maxLen at h2
    exact ⟨g, cap, he, h1, h2, h3, h4, by rw [hP0]; exact h5 0 p0 hp0, trivial, hb⟩
  clear HCUT0 hP0 hpe
  have hcn : ((cnt : Int) == 3) = false := by rw [beq_eq_false_iff_ne]; omega
  have hcn2 : ((cnt : Int) != 3) = true := by rw [bne_iff_ne]; omega
  clear hk hps ho hpn hp0 hcnt
  go_enter Tryz.func6, Tryz.ntmps6
  go_wp2_with (first
    | (go_at_call 15; refine (HCUT.out _).mono ?_; rintro e w1 ⟨g, cap, rfl, hcap1, hcap2, hg0, hg1, hc0, HJ, hb1⟩; simp at hg0; have hs1 : w.heap.size < w1.heap.size := (by have := hb1.size; simp at this; omega); have zb1 : Hid (ZB w1 w.heap.size) := ZB.keep (heap_alloc_new w _) hb1 (by simp); have hB1 : Hid (Below w.heap.size w w1) := Below.step ((Below.refl _ _).alloc (Nat.le_refl _) _) hb1; clear hb1 HCUT)
    | (go_at_call 16; refine (HOP.out _).mono ?_; rintro e w2 ⟨rfl, hb2⟩; have hs2 : w.heap.size < w2.heap.size := (by have := hb2.size; omega); have hg2 : g < w2.heap.size := (by have := hb2.size; omega); have zb2 : Hid (ZB w2 w.heap.size) := zb1.out.keep hb2 hs1; obtain ⟨z0, z1, z2, z3, z4, z5, z6, zf0, zf1, zf2, zf3, zf4, zf5, zf6⟩ := zb2.out.facts; have hB2 : Hid (Below w.heap.size w w2) := Below.step hB1.out hb2; clear hb2 HOP)
    | (go_at_call 17; refine (HO.out _).mono ?_; rintro e w9 ⟨rfl, hw9⟩; rw [hw9]; clear hw9 HO))
  refine bodyPost_ret (v := .tuple #[.agg #[.int .i64 0, .int .i64 0, .string ⟨#[]⟩, .bool false, .string ⟨#[]⟩, .string ⟨#[]⟩, .string ⟨#[]⟩], .int .i64 4]) (by simp [results, Tryz.results6, go_sem, *]) rfl ⟨by rw [HR.out]; rfl, ?_⟩
  refine Below.alloc ?_ ?_ _
  · exact ((((((hB2.out.setCell (Nat.le_refl _) _).setCell (Nat.le_refl _) _).setCell (Nat.le_refl _) _).setCell (Nat.le_refl _) _).setCell (Nat.le_refl _) _).setCell (Nat.le_refl _) _).setCell (Nat.le_refl _) _
  · exact (((((((hB2.out.setCell (Nat.le_refl _) _).setCell (Nat.le_refl _) _).setCell (Nat.le_refl _) _).setCell (Nat.le_refl _) _).setCell (Nat.le_refl _) _).setCell (Nat.le_refl _) _).setCell (Nat.le_refl _) _).size

set_option maxRecDepth 100000 in
set_option maxHeartbeats 800000 in
theorem parse_7_num (s : ByteArray) (hs : s.size ≤ 1099511627776) (p0 : List UInt8) (rest : List (List UInt8)) (hps : cutL 32 s.data.toList = p0 :: rest) (hk : opdI (opOf p0) = 7) (hc : (p0 :: rest).length = 3) (hq : (numR ((p0 :: rest).getD 1 [])).2 = false) (w : World) : Calls Tryz.prog 6 #[.string s] w fun e w' => e = .returned (outI (parI (7) (opOf p0) (p0 :: rest))) ∧ Below w.heap.size w w' := by
  have HCUT0 := rCut_any 32 s hs
  rw [hps] at HCUT0
  have HOP0 := rOp_any ⟨p0.toArray⟩
  have HO0 := rOperand_any (opOf p0)
  rw [hk] at HO0
  have hob : opOf p0 ≤ 41 := op_le p0
  obtain ⟨P0, hP0⟩ : ∃ P : ByteArray, P = ⟨p0.toArray⟩ := ⟨_, rfl⟩
  obtain ⟨o, ho⟩ : ∃ o, o = opOf p0 := ⟨_, rfl⟩
  simp only at HOP0
  rw [← ho] at HOP0 HO0 hob ⊢
  rw [← hP0] at HOP0
  have HO : Hid (∀ w, _) := HO0
  have HOP : Hid (∀ w, _) := HOP0
  clear HO0 HOP0
  obtain ⟨ps, hpe⟩ : ∃ ps, ps = p0 :: rest := ⟨_, rfl⟩
  have hpn : ps ≠ [] := by rw [hpe]; simp
  have hp0 : ps[0]? = some p0 := by rw [hpe]; rfl
  rw [← hpe] at HCUT0 ⊢
  obtain ⟨cnt, hcnt⟩ : ∃ cnt, ps.length = cnt := ⟨_, rfl⟩
  have hcnt0 : 0 < cnt := by rw [← hcnt, hpe]; simp
  rw [← hpe] at hc hq
  rw [hcnt] at hc
  obtain ⟨p1, hp1⟩ : ∃ p1, ps[1]? = some p1 := ⟨_, List.getElem?_eq_getElem (by omega)⟩
  have hg1' : ps.getD 1 [] = p1 := by rw [List.getD_eq_getElem?_getD, hp1]; rfl
  obtain ⟨P1, hP1⟩ : ∃ P : ByteArray, P = ⟨p1.toArray⟩ := ⟨_, rfl⟩
  obtain ⟨p2, hp2⟩ : ∃ p2, ps[2]? = some p2 := ⟨_, List.getElem?_eq_getElem (by omega)⟩
  have hg2' : ps.getD 2 [] = p2 := by rw [List.getD_eq_getElem?_getD, hp2]; rfl
  obtain ⟨P2, hP2⟩ : ∃ P : ByteArray, P = ⟨p2.toArray⟩ := ⟨_, rfl⟩
  rw [hg1'] at hq
  have HR : Hid _ := parI_no (k := 7) (o := o) (ps := ps) (by rw [candI, if_neg (by decide), if_neg (by decide), if_neg (by decide), if_pos (by decide), if_neg (by rw [hg1', hq]; exact fun h => by cases h.2)])
  have HN0 := rNumber_any ⟨p1.toArray⟩
  simp only at HN0
  rw [← hP1] at HN0
  obtain ⟨n, hn⟩ : ∃ n, n = (numR p1).1 := ⟨_, rfl⟩
  rw [← hn] at HN0
  rw [hq] at HN0
  have HNUM : Hid (∀ w, _) := HN0
  clear HN0
  have HCUT : Hid (∀ w, Calls Tryz.prog 15 #[.string s, .int .u8 32] w fun e w' => ∃ g cap, e = .returned (.slice (some ⟨g, 0, none⟩) cnt cap) ∧ cnt ≤ cap ∧ cap ≤ 9223372036854775807 ∧ w.heap.size ≤ g ∧ g < w'.heap.size ∧ w'.cell? ⟨g, 0, none⟩ = some (.string P0) ∧ Hid (w'.cell? ⟨g, 1, none⟩ = some (.string P1) ∧ w'.cell? ⟨g, 2, none⟩ = some (.string P2)) ∧ Below w.heap.size w w') := fun w => (HCUT0 w).mono fun e w' ⟨v, he, ho1, hb⟩ => by
    obtain ⟨g, cap, rfl, h1, h2, h3, h4, h5⟩ := own_words ho1 hpn
    rw [hcnt] at he h1
    unfold maxLen at h2
    exact ⟨g, cap, he, h1, h2, h3, h4, by rw [hP0]; exact h5 0 p0 hp0, ⟨by rw [hP1]; exact h5 1 p1 hp1, by rw [hP2]; exact h5 2 p2 hp2⟩, hb⟩
  clear HCUT0 hP0 hpe
  have hcn : ((cnt : Int) == 3) = true := by rw [hc]; rfl
  have hcn2 : ((cnt : Int) != 3) = false := by rw [hc]; rfl
  clear hk hps ho hpn hp0 hcnt hP1 hp1 hg1' hP2 hp2 hg2' hn hq
  subst hc
  go_enter Tryz.func6, Tryz.ntmps6
  go_wp2_with (first
    | (go_at_call 15; refine (HCUT.out _).mono ?_; rintro e w1 ⟨g, cap, rfl, hcap1, hcap2, hg0, hg1, hc0, HJ, hb1⟩; simp at hg0; have hs1 : w.heap.size < w1.heap.size := (by have := hb1.size; simp at this; omega); have zb1 : Hid (ZB w1 w.heap.size) := ZB.keep (heap_alloc_new w _) hb1 (by simp); have hB1 : Hid (Below w.heap.size w w1) := Below.step ((Below.refl _ _).alloc (Nat.le_refl _) _) hb1; clear hb1 HCUT)
    | (go_at_call 16; refine (HOP.out _).mono ?_; rintro e w2 ⟨rfl, hb2⟩; have hs2 : w.heap.size < w2.heap.size := (by have := hb2.size; omega); have hg2 : g < w2.heap.size := (by have := hb2.size; omega); have hd0 : w2.cell? ⟨g, 1, none⟩ = some (.string P1) := (hb2.cell (p := ⟨g, 1, none⟩) hg1).trans (HJ.out.1); have hd1 : w2.cell? ⟨g, 2, none⟩ = some (.string P2) := (hb2.cell (p := ⟨g, 2, none⟩) hg1).trans (HJ.out.2); have zb2 : Hid (ZB w2 w.heap.size) := zb1.out.keep hb2 hs1; obtain ⟨z0, z1, z2, z3, z4, z5, z6, zf0, zf1, zf2, zf3, zf4, zf5, zf6⟩ := zb2.out.facts; have hB2 : Hid (Below w.heap.size w w2) := Below.step hB1.out hb2; clear hb2 HOP)
    | (go_at_call 17; refine (HO.out _).mono ?_; rintro e w9 ⟨rfl, hw9⟩; rw [hw9]; clear hw9 HO)
    | (go_at_call 18; refine (HNUM.out _).mono ?_; rintro e w3 ⟨rfl, hb3⟩; have hs3 : w.heap.size < w3.heap.size := (by have := hb3.size; simp at this; omega); have hq3 : w2.heap.size < w3.heap.size := (by have := hb3.size; simp at this; omega); have hd13 : w3.cell? ⟨g, 2, none⟩ = some (.string P2) := (hb3.cell (p := ⟨g, 2, none⟩) (by simp; omega)).trans (by simp [go_sem, *]); have ib3 : Hid (IB w3 w2.heap.size ⟨o, 0, ⟨#[]⟩, false, ⟨#[]⟩, ⟨#[]⟩, ⟨#[]⟩⟩) := IB.keep (heap_alloc_new w2 _) hb3 (by simp); have zb3 : Hid (ZB w3 w.heap.size) := ZB.keep (zb2.out.new hs2) hb3 (by simp; omega); have hB3 : Hid (Below w.heap.size w w3) := Below.step (hB2.out.alloc hB2.out.size _) hb3; clear z0 z1 z2 z3 z4 z5 z6 zf0 zf1 zf2 zf3 zf4 zf5 zf6 hb3 HNUM; obtain ⟨i0, i1, i2, i3, i4, i5, i6, if0, if1, if2, if3, if4, if5, if6⟩ := ib3.out.facts; obtain ⟨z0, z1, z2, z3, z4, z5, z6, zf0, zf1, zf2, zf3, zf4, zf5, zf6⟩ := zb3.out.facts))
  refine bodyPost_ret (v := .tuple #[.agg #[.int .i64 0, .int .i64 0, .string ⟨#[]⟩, .bool false, .string ⟨#[]⟩, .string ⟨#[]⟩, .string ⟨#[]⟩], .int .i64 4]) (by simp [results, Tryz.results6, go_sem, *]) rfl ⟨by rw [HR.out]; rfl, ?_⟩
  exact ((((((((hB3.out.setCell (p := ⟨w2.heap.size, 1, none⟩) (Nat.le_of_lt hs2) _).setCell (p := ⟨w2.heap.size, 2, none⟩) (Nat.le_of_lt hs2) _).setCell (Nat.le_refl _) _).setCell (Nat.le_refl _) _).setCell (Nat.le_refl _) _).setCell (Nat.le_refl _) _).setCell (Nat.le_refl _) _).setCell (Nat.le_refl _) _).setCell (Nat.le_refl _) _

set_option maxRecDepth 100000 in
set_option maxHeartbeats 800000 in
theorem parse_7_bad (s : ByteArray) (hs : s.size ≤ 1099511627776) (p0 : List UInt8) (rest : List (List UInt8)) (hps : cutL 32 s.data.toList = p0 :: rest) (hk : opdI (opOf p0) = 7) (hc : (p0 :: rest).length = 3) (hq : (numR ((p0 :: rest).getD 1 [])).2 = true) (hi : ickI ⟨opOf p0, (numR ((p0 :: rest).getD 1 [])).1, ⟨((p0 :: rest).getD 2 []).toArray⟩, false, ⟨#[]⟩, ⟨#[]⟩, ⟨#[]⟩⟩ ≠ 0) (w : World) : Calls Tryz.prog 6 #[.string s] w fun e w' => e = .returned (outI (parI (7) (opOf p0) (p0 :: rest))) ∧ Below w.heap.size w w' := by
  have HCUT0 := rCut_any 32 s hs
  rw [hps] at HCUT0
  have HOP0 := rOp_any ⟨p0.toArray⟩
  have HO0 := rOperand_any (opOf p0)
  rw [hk] at HO0
  have hob : opOf p0 ≤ 41 := op_le p0
  obtain ⟨P0, hP0⟩ : ∃ P : ByteArray, P = ⟨p0.toArray⟩ := ⟨_, rfl⟩
  obtain ⟨o, ho⟩ : ∃ o, o = opOf p0 := ⟨_, rfl⟩
  simp only at HOP0
  rw [← ho] at HOP0 HO0 hob ⊢
  rw [← hP0] at HOP0
  have HO : Hid (∀ w, _) := HO0
  have HOP : Hid (∀ w, _) := HOP0
  clear HO0 HOP0
  obtain ⟨ps, hpe⟩ : ∃ ps, ps = p0 :: rest := ⟨_, rfl⟩
  have hpn : ps ≠ [] := by rw [hpe]; simp
  have hp0 : ps[0]? = some p0 := by rw [hpe]; rfl
  rw [← hpe] at HCUT0 ⊢
  obtain ⟨cnt, hcnt⟩ : ∃ cnt, ps.length = cnt := ⟨_, rfl⟩
  have hcnt0 : 0 < cnt := by rw [← hcnt, hpe]; simp
  rw [← hpe] at hc hq hi
  rw [hcnt] at hc
  rw [← ho] at hi
  obtain ⟨p1, hp1⟩ : ∃ p1, ps[1]? = some p1 := ⟨_, List.getElem?_eq_getElem (by omega)⟩
  have hg1' : ps.getD 1 [] = p1 := by rw [List.getD_eq_getElem?_getD, hp1]; rfl
  obtain ⟨P1, hP1⟩ : ∃ P : ByteArray, P = ⟨p1.toArray⟩ := ⟨_, rfl⟩
  obtain ⟨p2, hp2⟩ : ∃ p2, ps[2]? = some p2 := ⟨_, List.getElem?_eq_getElem (by omega)⟩
  have hg2' : ps.getD 2 [] = p2 := by rw [List.getD_eq_getElem?_getD, hp2]; rfl
  obtain ⟨P2, hP2⟩ : ∃ P : ByteArray, P = ⟨p2.toArray⟩ := ⟨_, rfl⟩
  rw [hg1'] at hq hi
  rw [hg2'] at hi
  have hcd : candI (7) o ps = some ⟨o, (numR p1).1, ⟨p2.toArray⟩, false, ⟨#[]⟩, ⟨#[]⟩, ⟨#[]⟩⟩ := by rw [candI, if_neg (by decide), if_neg (by decide), if_neg (by decide), if_pos (by decide), hg1', hg2', if_pos ⟨by rw [hcnt]; exact hc, hq⟩]
  have HR : Hid _ := parI_bad hcd hi
  have hps2 := word_size hs (hps.trans hpe.symm) hp2
  have HN0 := rNumber_any ⟨p1.toArray⟩
  simp only at HN0
  rw [← hP1] at HN0
  obtain ⟨n, hn⟩ : ∃ n, n = (numR p1).1 := ⟨_, rfl⟩
  rw [← hn] at HN0
  rw [hq] at HN0
  rw [← hn, ← hP2] at hi
  rw [← hP2] at hps2
  have HNUM : Hid (∀ w, _) := HN0
  clear HN0
  have HCK0 := rCheck_any o n P2 false ⟨#[]⟩ ⟨#[]⟩ ⟨#[]⟩ (by unfold maxLen; omega) (by decide) (by decide) (by decide)
  rw [show ickE (o : Int) n P2 false ⟨#[]⟩ ⟨#[]⟩ ⟨#[]⟩ = 1 from (ick_01 _ _ _ _ _ _ _).resolve_left hi] at HCK0
  have HCK : Hid (∀ w, _) := HCK0
  clear HCK0
  have HCUT : Hid (∀ w, Calls Tryz.prog 15 #[.string s, .int .u8 32] w fun e w' => ∃ g cap, e = .returned (.slice (some ⟨g, 0, none⟩) cnt cap) ∧ cnt ≤ cap ∧ cap ≤ 9223372036854775807 ∧ w.heap.size ≤ g ∧ g < w'.heap.size ∧ w'.cell? ⟨g, 0, none⟩ = some (.string P0) ∧ Hid (w'.cell? ⟨g, 1, none⟩ = some (.string P1) ∧ w'.cell? ⟨g, 2, none⟩ = some (.string P2)) ∧ Below w.heap.size w w') := fun w => (HCUT0 w).mono fun e w' ⟨v, he, ho1, hb⟩ => by
    obtain ⟨g, cap, rfl, h1, h2, h3, h4, h5⟩ := own_words ho1 hpn
    rw [hcnt] at he h1
    unfold maxLen at h2
    exact ⟨g, cap, he, h1, h2, h3, h4, by rw [hP0]; exact h5 0 p0 hp0, ⟨by rw [hP1]; exact h5 1 p1 hp1, by rw [hP2]; exact h5 2 p2 hp2⟩, hb⟩
  clear HCUT0 hP0 hpe
  have hcn : ((cnt : Int) == 3) = true := by rw [hc]; rfl
  have hcn2 : ((cnt : Int) != 3) = false := by rw [hc]; rfl
  clear hk hps ho hpn hp0 hcnt hP1 hp1 hg1' hP2 hp2 hg2' hn hq hcd hi hps2
  subst hc
  go_enter Tryz.func6, Tryz.ntmps6
  go_wp2_with (first
    | (go_at_call 15; refine (HCUT.out _).mono ?_; rintro e w1 ⟨g, cap, rfl, hcap1, hcap2, hg0, hg1, hc0, HJ, hb1⟩; simp at hg0; have hs1 : w.heap.size < w1.heap.size := (by have := hb1.size; simp at this; omega); have zb1 : Hid (ZB w1 w.heap.size) := ZB.keep (heap_alloc_new w _) hb1 (by simp); have hB1 : Hid (Below w.heap.size w w1) := Below.step ((Below.refl _ _).alloc (Nat.le_refl _) _) hb1; clear hb1 HCUT)
    | (go_at_call 16; refine (HOP.out _).mono ?_; rintro e w2 ⟨rfl, hb2⟩; have hs2 : w.heap.size < w2.heap.size := (by have := hb2.size; omega); have hg2 : g < w2.heap.size := (by have := hb2.size; omega); have hd0 : w2.cell? ⟨g, 1, none⟩ = some (.string P1) := (hb2.cell (p := ⟨g, 1, none⟩) hg1).trans (HJ.out.1); have hd1 : w2.cell? ⟨g, 2, none⟩ = some (.string P2) := (hb2.cell (p := ⟨g, 2, none⟩) hg1).trans (HJ.out.2); have zb2 : Hid (ZB w2 w.heap.size) := zb1.out.keep hb2 hs1; obtain ⟨z0, z1, z2, z3, z4, z5, z6, zf0, zf1, zf2, zf3, zf4, zf5, zf6⟩ := zb2.out.facts; have hB2 : Hid (Below w.heap.size w w2) := Below.step hB1.out hb2; clear hb2 HOP)
    | (go_at_call 17; refine (HO.out _).mono ?_; rintro e w9 ⟨rfl, hw9⟩; rw [hw9]; clear hw9 HO)
    | (go_at_call 18; refine (HNUM.out _).mono ?_; rintro e w3 ⟨rfl, hb3⟩; have hs3 : w.heap.size < w3.heap.size := (by have := hb3.size; simp at this; omega); have hq3 : w2.heap.size < w3.heap.size := (by have := hb3.size; simp at this; omega); have hd13 : w3.cell? ⟨g, 2, none⟩ = some (.string P2) := (hb3.cell (p := ⟨g, 2, none⟩) (by simp; omega)).trans (by simp [go_sem, *]); have ib3 : Hid (IB w3 w2.heap.size ⟨o, 0, ⟨#[]⟩, false, ⟨#[]⟩, ⟨#[]⟩, ⟨#[]⟩⟩) := IB.keep (heap_alloc_new w2 _) hb3 (by simp); have zb3 : Hid (ZB w3 w.heap.size) := ZB.keep (zb2.out.new hs2) hb3 (by simp; omega); have hB3 : Hid (Below w.heap.size w w3) := Below.step (hB2.out.alloc hB2.out.size _) hb3; clear z0 z1 z2 z3 z4 z5 z6 zf0 zf1 zf2 zf3 zf4 zf5 zf6 hb3 HNUM; obtain ⟨i0, i1, i2, i3, i4, i5, i6, if0, if1, if2, if3, if4, if5, if6⟩ := ib3.out.facts; obtain ⟨z0, z1, z2, z3, z4, z5, z6, zf0, zf1, zf2, zf3, zf4, zf5, zf6⟩ := zb3.out.facts)
    | (go_at_call 19; refine (HCK.out _).mono ?_; rintro e w4 ⟨rfl, hb4⟩; have hs4 : w.heap.size < w4.heap.size := (by have := hb4.size; simp at this; omega); have ib4 : Hid (IB w4 w2.heap.size ⟨o, n, P2, false, ⟨#[]⟩, ⟨#[]⟩, ⟨#[]⟩⟩) := IB.keep ((ib3.out.setN n).setT P2) hb4 (by simp [*]); have zb4 : Hid (ZB w4 w.heap.size) := ZB.keep ((zb3.out.set (by omega)).set (by omega)) hb4 (by simp; omega); have hB4 : Hid (Below w.heap.size w w4) := Below.step ((hB3.out.setCell (p := ⟨w2.heap.size, 1, none⟩) (Nat.le_of_lt hs2) _).setCell (p := ⟨w2.heap.size, 2, none⟩) (Nat.le_of_lt hs2) _) hb4; clear z0 z1 z2 z3 z4 z5 z6 zf0 zf1 zf2 zf3 zf4 zf5 zf6 i0 i1 i2 i3 i4 i5 i6 if0 if1 if2 if3 if4 if5 if6 hb4 HCK; obtain ⟨j0, j1, j2, j3, j4, j5, j6, jf0, jf1, jf2, jf3, jf4, jf5, jf6⟩ := ib4.out.facts; obtain ⟨y0, y1, y2, y3, y4, y5, y6, yf0, yf1, yf2, yf3, yf4, yf5, yf6⟩ := zb4.out.facts))
  refine bodyPost_ret (v := .tuple #[.agg #[.int .i64 0, .int .i64 0, .string ⟨#[]⟩, .bool false, .string ⟨#[]⟩, .string ⟨#[]⟩, .string ⟨#[]⟩], .int .i64 4]) (by simp [results, Tryz.results6, go_sem, *]) rfl ⟨by rw [HR.out]; rfl, ?_⟩
  exact ((((((hB4.out.setCell (Nat.le_refl _) _).setCell (Nat.le_refl _) _).setCell (Nat.le_refl _) _).setCell (Nat.le_refl _) _).setCell (Nat.le_refl _) _).setCell (Nat.le_refl _) _).setCell (Nat.le_refl _) _

set_option maxRecDepth 100000 in
set_option maxHeartbeats 800000 in
theorem parse_7_yes (s : ByteArray) (hs : s.size ≤ 1099511627776) (p0 : List UInt8) (rest : List (List UInt8)) (hps : cutL 32 s.data.toList = p0 :: rest) (hk : opdI (opOf p0) = 7) (hc : (p0 :: rest).length = 3) (hq : (numR ((p0 :: rest).getD 1 [])).2 = true) (hi : ickI ⟨opOf p0, (numR ((p0 :: rest).getD 1 [])).1, ⟨((p0 :: rest).getD 2 []).toArray⟩, false, ⟨#[]⟩, ⟨#[]⟩, ⟨#[]⟩⟩ = 0) (w : World) : Calls Tryz.prog 6 #[.string s] w fun e w' => e = .returned (outI (parI (7) (opOf p0) (p0 :: rest))) ∧ Below w.heap.size w w' := by
  have HCUT0 := rCut_any 32 s hs
  rw [hps] at HCUT0
  have HOP0 := rOp_any ⟨p0.toArray⟩
  have HO0 := rOperand_any (opOf p0)
  rw [hk] at HO0
  have hob : opOf p0 ≤ 41 := op_le p0
  obtain ⟨P0, hP0⟩ : ∃ P : ByteArray, P = ⟨p0.toArray⟩ := ⟨_, rfl⟩
  obtain ⟨o, ho⟩ : ∃ o, o = opOf p0 := ⟨_, rfl⟩
  simp only at HOP0
  rw [← ho] at HOP0 HO0 hob ⊢
  rw [← hP0] at HOP0
  have HO : Hid (∀ w, _) := HO0
  have HOP : Hid (∀ w, _) := HOP0
  clear HO0 HOP0
  obtain ⟨ps, hpe⟩ : ∃ ps, ps = p0 :: rest := ⟨_, rfl⟩
  have hpn : ps ≠ [] := by rw [hpe]; simp
  have hp0 : ps[0]? = some p0 := by rw [hpe]; rfl
  rw [← hpe] at HCUT0 ⊢
  obtain ⟨cnt, hcnt⟩ : ∃ cnt, ps.length = cnt := ⟨_, rfl⟩
  have hcnt0 : 0 < cnt := by rw [← hcnt, hpe]; simp
  rw [← hpe] at hc hq hi
  rw [hcnt] at hc
  rw [← ho] at hi
  obtain ⟨p1, hp1⟩ : ∃ p1, ps[1]? = some p1 := ⟨_, List.getElem?_eq_getElem (by omega)⟩
  have hg1' : ps.getD 1 [] = p1 := by rw [List.getD_eq_getElem?_getD, hp1]; rfl
  obtain ⟨P1, hP1⟩ : ∃ P : ByteArray, P = ⟨p1.toArray⟩ := ⟨_, rfl⟩
  obtain ⟨p2, hp2⟩ : ∃ p2, ps[2]? = some p2 := ⟨_, List.getElem?_eq_getElem (by omega)⟩
  have hg2' : ps.getD 2 [] = p2 := by rw [List.getD_eq_getElem?_getD, hp2]; rfl
  obtain ⟨P2, hP2⟩ : ∃ P : ByteArray, P = ⟨p2.toArray⟩ := ⟨_, rfl⟩
  rw [hg1'] at hq hi
  rw [hg2'] at hi
  have hcd : candI (7) o ps = some ⟨o, (numR p1).1, ⟨p2.toArray⟩, false, ⟨#[]⟩, ⟨#[]⟩, ⟨#[]⟩⟩ := by rw [candI, if_neg (by decide), if_neg (by decide), if_neg (by decide), if_pos (by decide), hg1', hg2', if_pos ⟨by rw [hcnt]; exact hc, hq⟩]
  have HR : Hid _ := parI_yes hcd hi
  have hps2 := word_size hs (hps.trans hpe.symm) hp2
  have HN0 := rNumber_any ⟨p1.toArray⟩
  simp only at HN0
  rw [← hP1] at HN0
  obtain ⟨n, hn⟩ : ∃ n, n = (numR p1).1 := ⟨_, rfl⟩
  rw [← hn] at HN0
  rw [hq] at HN0
  rw [← hn, ← hP2] at hi HR
  rw [← hP2] at hps2
  have HNUM : Hid (∀ w, _) := HN0
  clear HN0
  have HCK0 := rCheck_any o n P2 false ⟨#[]⟩ ⟨#[]⟩ ⟨#[]⟩ (by unfold maxLen; omega) (by decide) (by decide) (by decide)
  rw [show ickE (o : Int) n P2 false ⟨#[]⟩ ⟨#[]⟩ ⟨#[]⟩ = 0 from hi] at HCK0
  have HCK : Hid (∀ w, _) := HCK0
  clear HCK0
  have HCUT : Hid (∀ w, Calls Tryz.prog 15 #[.string s, .int .u8 32] w fun e w' => ∃ g cap, e = .returned (.slice (some ⟨g, 0, none⟩) cnt cap) ∧ cnt ≤ cap ∧ cap ≤ 9223372036854775807 ∧ w.heap.size ≤ g ∧ g < w'.heap.size ∧ w'.cell? ⟨g, 0, none⟩ = some (.string P0) ∧ Hid (w'.cell? ⟨g, 1, none⟩ = some (.string P1) ∧ w'.cell? ⟨g, 2, none⟩ = some (.string P2)) ∧ Below w.heap.size w w') := fun w => (HCUT0 w).mono fun e w' ⟨v, he, ho1, hb⟩ => by
    obtain ⟨g, cap, rfl, h1, h2, h3, h4, h5⟩ := own_words ho1 hpn
    rw [hcnt] at he h1
    unfold maxLen at h2
    exact ⟨g, cap, he, h1, h2, h3, h4, by rw [hP0]; exact h5 0 p0 hp0, ⟨by rw [hP1]; exact h5 1 p1 hp1, by rw [hP2]; exact h5 2 p2 hp2⟩, hb⟩
  clear HCUT0 hP0 hpe
  have hcn : ((cnt : Int) == 3) = true := by rw [hc]; rfl
  have hcn2 : ((cnt : Int) != 3) = false := by rw [hc]; rfl
  clear hk hps ho hpn hp0 hcnt hP1 hp1 hg1' hP2 hp2 hg2' hn hq hcd hi hps2
  subst hc
  go_enter Tryz.func6, Tryz.ntmps6
  go_wp2_with (first
    | (go_at_call 15; refine (HCUT.out _).mono ?_; rintro e w1 ⟨g, cap, rfl, hcap1, hcap2, hg0, hg1, hc0, HJ, hb1⟩; simp at hg0; have hs1 : w.heap.size < w1.heap.size := (by have := hb1.size; simp at this; omega); have zb1 : Hid (ZB w1 w.heap.size) := ZB.keep (heap_alloc_new w _) hb1 (by simp); have hB1 : Hid (Below w.heap.size w w1) := Below.step ((Below.refl _ _).alloc (Nat.le_refl _) _) hb1; clear hb1 HCUT)
    | (go_at_call 16; refine (HOP.out _).mono ?_; rintro e w2 ⟨rfl, hb2⟩; have hs2 : w.heap.size < w2.heap.size := (by have := hb2.size; omega); have hg2 : g < w2.heap.size := (by have := hb2.size; omega); have hd0 : w2.cell? ⟨g, 1, none⟩ = some (.string P1) := (hb2.cell (p := ⟨g, 1, none⟩) hg1).trans (HJ.out.1); have hd1 : w2.cell? ⟨g, 2, none⟩ = some (.string P2) := (hb2.cell (p := ⟨g, 2, none⟩) hg1).trans (HJ.out.2); have zb2 : Hid (ZB w2 w.heap.size) := zb1.out.keep hb2 hs1; obtain ⟨z0, z1, z2, z3, z4, z5, z6, zf0, zf1, zf2, zf3, zf4, zf5, zf6⟩ := zb2.out.facts; have hB2 : Hid (Below w.heap.size w w2) := Below.step hB1.out hb2; clear hb2 HOP)
    | (go_at_call 17; refine (HO.out _).mono ?_; rintro e w9 ⟨rfl, hw9⟩; rw [hw9]; clear hw9 HO)
    | (go_at_call 18; refine (HNUM.out _).mono ?_; rintro e w3 ⟨rfl, hb3⟩; have hs3 : w.heap.size < w3.heap.size := (by have := hb3.size; simp at this; omega); have hq3 : w2.heap.size < w3.heap.size := (by have := hb3.size; simp at this; omega); have hd13 : w3.cell? ⟨g, 2, none⟩ = some (.string P2) := (hb3.cell (p := ⟨g, 2, none⟩) (by simp; omega)).trans (by simp [go_sem, *]); have ib3 : Hid (IB w3 w2.heap.size ⟨o, 0, ⟨#[]⟩, false, ⟨#[]⟩, ⟨#[]⟩, ⟨#[]⟩⟩) := IB.keep (heap_alloc_new w2 _) hb3 (by simp); have zb3 : Hid (ZB w3 w.heap.size) := ZB.keep (zb2.out.new hs2) hb3 (by simp; omega); have hB3 : Hid (Below w.heap.size w w3) := Below.step (hB2.out.alloc hB2.out.size _) hb3; clear z0 z1 z2 z3 z4 z5 z6 zf0 zf1 zf2 zf3 zf4 zf5 zf6 hb3 HNUM; obtain ⟨i0, i1, i2, i3, i4, i5, i6, if0, if1, if2, if3, if4, if5, if6⟩ := ib3.out.facts; obtain ⟨z0, z1, z2, z3, z4, z5, z6, zf0, zf1, zf2, zf3, zf4, zf5, zf6⟩ := zb3.out.facts)
    | (go_at_call 19; refine (HCK.out _).mono ?_; rintro e w4 ⟨rfl, hb4⟩; have hs4 : w.heap.size < w4.heap.size := (by have := hb4.size; simp at this; omega); have ib4 : Hid (IB w4 w2.heap.size ⟨o, n, P2, false, ⟨#[]⟩, ⟨#[]⟩, ⟨#[]⟩⟩) := IB.keep ((ib3.out.setN n).setT P2) hb4 (by simp [*]); have zb4 : Hid (ZB w4 w.heap.size) := ZB.keep ((zb3.out.set (by omega)).set (by omega)) hb4 (by simp; omega); have hB4 : Hid (Below w.heap.size w w4) := Below.step ((hB3.out.setCell (p := ⟨w2.heap.size, 1, none⟩) (Nat.le_of_lt hs2) _).setCell (p := ⟨w2.heap.size, 2, none⟩) (Nat.le_of_lt hs2) _) hb4; clear z0 z1 z2 z3 z4 z5 z6 zf0 zf1 zf2 zf3 zf4 zf5 zf6 i0 i1 i2 i3 i4 i5 i6 if0 if1 if2 if3 if4 if5 if6 hb4 HCK; obtain ⟨j0, j1, j2, j3, j4, j5, j6, jf0, jf1, jf2, jf3, jf4, jf5, jf6⟩ := ib4.out.facts; obtain ⟨y0, y1, y2, y3, y4, y5, y6, yf0, yf1, yf2, yf3, yf4, yf5, yf6⟩ := zb4.out.facts))
  refine bodyPost_ret (v := .tuple #[.agg #[.int .i64 (o : Int), .int .i64 n, .string P2, .bool false, .string ⟨#[]⟩, .string ⟨#[]⟩, .string ⟨#[]⟩], .int .i64 0]) (by simp [results, Tryz.results6, go_sem, *]) rfl ⟨by rw [HR.out]; rfl, ?_⟩
  exact ((((((hB4.out.setCell (Nat.le_refl _) _).setCell (Nat.le_refl _) _).setCell (Nat.le_refl _) _).setCell (Nat.le_refl _) _).setCell (Nat.le_refl _) _).setCell (Nat.le_refl _) _).setCell (Nat.le_refl _) _

end Go.Proofs.YtijlipllahfakaaGreatDoor

namespace Go.Proofs.YtijlipllahfakaaGreatDoor
open Go.RowKit

set_option maxRecDepth 100000 in
set_option maxHeartbeats 800000 in
theorem parse_8_cnt (s : ByteArray) (hs : s.size ≤ 1099511627776) (p0 : List UInt8) (rest : List (List UInt8)) (hps : cutL 32 s.data.toList = p0 :: rest) (hk : opdI (opOf p0) = 8) (hc : (p0 :: rest).length ≠ 2) (w : World) : Calls Tryz.prog 6 #[.string s] w fun e w' => e = .returned (outI (parI (8) (opOf p0) (p0 :: rest))) ∧ Below w.heap.size w w' := by
  have HCUT0 := rCut_any 32 s hs
  rw [hps] at HCUT0
  have HOP0 := rOp_any ⟨p0.toArray⟩
  have HO0 := rOperand_any (opOf p0)
  rw [hk] at HO0
  have hob : opOf p0 ≤ 41 := op_le p0
  obtain ⟨P0, hP0⟩ : ∃ P : ByteArray, P = ⟨p0.toArray⟩ := ⟨_, rfl⟩
  obtain ⟨o, ho⟩ : ∃ o, o = opOf p0 := ⟨_, rfl⟩
  simp only at HOP0
  rw [← ho] at HOP0 HO0 hob ⊢
  rw [← hP0] at HOP0
  have HO : Hid (∀ w, _) := HO0
  have HOP : Hid (∀ w, _) := HOP0
  clear HO0 HOP0
  obtain ⟨ps, hpe⟩ : ∃ ps, ps = p0 :: rest := ⟨_, rfl⟩
  have hpn : ps ≠ [] := by rw [hpe]; simp
  have hp0 : ps[0]? = some p0 := by rw [hpe]; rfl
  rw [← hpe] at HCUT0 ⊢
  obtain ⟨cnt, hcnt⟩ : ∃ cnt, ps.length = cnt := ⟨_, rfl⟩
  have hcnt0 : 0 < cnt := by rw [← hcnt, hpe]; simp
  rw [← hpe, hcnt] at hc
  have HR : Hid _ := parI_no (k := 8) (o := o) (ps := ps) (by rw [candI, if_neg (by decide), if_neg (by decide), if_neg (by decide), if_neg (by decide), if_neg (by rw [hcnt]; exact fun h => hc h.1)])
  have HCUT : Hid (∀ w, Calls Tryz.prog 15 #[.string s, .int .u8 32] w fun e w' => ∃ g cap, e = .returned (.slice (some ⟨g, 0, none⟩) cnt cap) ∧ cnt ≤ cap ∧ cap ≤ 9223372036854775807 ∧ w.heap.size ≤ g ∧ g < w'.heap.size ∧ w'.cell? ⟨g, 0, none⟩ = some (.string P0) ∧ Hid (True) ∧ Below w.heap.size w w') := fun w => (HCUT0 w).mono fun e w' ⟨v, he, ho1, hb⟩ => by
    obtain ⟨g, cap, rfl, h1, h2, h3, h4, h5⟩ := own_words ho1 hpn
    rw [hcnt] at he h1
    unfold maxLen at h2
    exact ⟨g, cap, he, h1, h2, h3, h4, by rw [hP0]; exact h5 0 p0 hp0, trivial, hb⟩
  clear HCUT0 hP0 hpe
  have hcn : ((cnt : Int) == 2) = false := by rw [beq_eq_false_iff_ne]; omega
  have hcn2 : ((cnt : Int) != 2) = true := by rw [bne_iff_ne]; omega
  clear hk hps ho hpn hp0 hcnt
  go_enter Tryz.func6, Tryz.ntmps6
  go_wp2_with (first
    | (go_at_call 15; refine (HCUT.out _).mono ?_; rintro e w1 ⟨g, cap, rfl, hcap1, hcap2, hg0, hg1, hc0, HJ, hb1⟩; simp at hg0; have hs1 : w.heap.size < w1.heap.size := (by have := hb1.size; simp at this; omega); have zb1 : Hid (ZB w1 w.heap.size) := ZB.keep (heap_alloc_new w _) hb1 (by simp); have hB1 : Hid (Below w.heap.size w w1) := Below.step ((Below.refl _ _).alloc (Nat.le_refl _) _) hb1; clear hb1 HCUT)
    | (go_at_call 16; refine (HOP.out _).mono ?_; rintro e w2 ⟨rfl, hb2⟩; have hs2 : w.heap.size < w2.heap.size := (by have := hb2.size; omega); have hg2 : g < w2.heap.size := (by have := hb2.size; omega); have zb2 : Hid (ZB w2 w.heap.size) := zb1.out.keep hb2 hs1; obtain ⟨z0, z1, z2, z3, z4, z5, z6, zf0, zf1, zf2, zf3, zf4, zf5, zf6⟩ := zb2.out.facts; have hB2 : Hid (Below w.heap.size w w2) := Below.step hB1.out hb2; clear hb2 HOP)
    | (go_at_call 17; refine (HO.out _).mono ?_; rintro e w9 ⟨rfl, hw9⟩; rw [hw9]; clear hw9 HO))
  refine bodyPost_ret (v := .tuple #[.agg #[.int .i64 0, .int .i64 0, .string ⟨#[]⟩, .bool false, .string ⟨#[]⟩, .string ⟨#[]⟩, .string ⟨#[]⟩], .int .i64 4]) (by simp [results, Tryz.results6, go_sem, *]) rfl ⟨by rw [HR.out]; rfl, ?_⟩
  refine Below.alloc ?_ ?_ _
  · exact ((((((hB2.out.setCell (Nat.le_refl _) _).setCell (Nat.le_refl _) _).setCell (Nat.le_refl _) _).setCell (Nat.le_refl _) _).setCell (Nat.le_refl _) _).setCell (Nat.le_refl _) _).setCell (Nat.le_refl _) _
  · exact (((((((hB2.out.setCell (Nat.le_refl _) _).setCell (Nat.le_refl _) _).setCell (Nat.le_refl _) _).setCell (Nat.le_refl _) _).setCell (Nat.le_refl _) _).setCell (Nat.le_refl _) _).setCell (Nat.le_refl _) _).size

set_option maxRecDepth 100000 in
set_option maxHeartbeats 800000 in
theorem parse_8_ref (s : ByteArray) (hs : s.size ≤ 1099511627776) (p0 : List UInt8) (rest : List (List UInt8)) (hps : cutL 32 s.data.toList = p0 :: rest) (hk : opdI (opOf p0) = 8) (hc : (p0 :: rest).length = 2) (hq : rfOK ((p0 :: rest).getD 1 []) = false) (w : World) : Calls Tryz.prog 6 #[.string s] w fun e w' => e = .returned (outI (parI (8) (opOf p0) (p0 :: rest))) ∧ Below w.heap.size w w' := by
  have HCUT0 := rCut_any 32 s hs
  rw [hps] at HCUT0
  have HOP0 := rOp_any ⟨p0.toArray⟩
  have HO0 := rOperand_any (opOf p0)
  rw [hk] at HO0
  have hob : opOf p0 ≤ 41 := op_le p0
  obtain ⟨P0, hP0⟩ : ∃ P : ByteArray, P = ⟨p0.toArray⟩ := ⟨_, rfl⟩
  obtain ⟨o, ho⟩ : ∃ o, o = opOf p0 := ⟨_, rfl⟩
  simp only at HOP0
  rw [← ho] at HOP0 HO0 hob ⊢
  rw [← hP0] at HOP0
  have HO : Hid (∀ w, _) := HO0
  have HOP : Hid (∀ w, _) := HOP0
  clear HO0 HOP0
  obtain ⟨ps, hpe⟩ : ∃ ps, ps = p0 :: rest := ⟨_, rfl⟩
  have hpn : ps ≠ [] := by rw [hpe]; simp
  have hp0 : ps[0]? = some p0 := by rw [hpe]; rfl
  rw [← hpe] at HCUT0 ⊢
  obtain ⟨cnt, hcnt⟩ : ∃ cnt, ps.length = cnt := ⟨_, rfl⟩
  have hcnt0 : 0 < cnt := by rw [← hcnt, hpe]; simp
  rw [← hpe] at hc hq
  rw [hcnt] at hc
  obtain ⟨p1, hp1⟩ : ∃ p1, ps[1]? = some p1 := ⟨_, List.getElem?_eq_getElem (by omega)⟩
  have hg1' : ps.getD 1 [] = p1 := by rw [List.getD_eq_getElem?_getD, hp1]; rfl
  obtain ⟨P1, hP1⟩ : ∃ P : ByteArray, P = ⟨p1.toArray⟩ := ⟨_, rfl⟩
  rw [hg1'] at hq
  have HR : Hid _ := parI_no (k := 8) (o := o) (ps := ps) (by rw [candI, if_neg (by decide), if_neg (by decide), if_neg (by decide), if_neg (by decide), if_neg (by rw [hg1', hq]; exact fun h => by cases h.2)])
  have hps1 := word_size hs (hps.trans hpe.symm) hp1
  have HN0 := rParseRefText_any ⟨p1.toArray⟩ (by unfold maxLen; omega)
  simp only at HN0
  rw [← hP1] at HN0
  rw [rfOut_no hq] at HN0
  have HREF : Hid (∀ w, _) := HN0
  clear HN0
  have HCUT : Hid (∀ w, Calls Tryz.prog 15 #[.string s, .int .u8 32] w fun e w' => ∃ g cap, e = .returned (.slice (some ⟨g, 0, none⟩) cnt cap) ∧ cnt ≤ cap ∧ cap ≤ 9223372036854775807 ∧ w.heap.size ≤ g ∧ g < w'.heap.size ∧ w'.cell? ⟨g, 0, none⟩ = some (.string P0) ∧ Hid (w'.cell? ⟨g, 1, none⟩ = some (.string P1) ∧ True) ∧ Below w.heap.size w w') := fun w => (HCUT0 w).mono fun e w' ⟨v, he, ho1, hb⟩ => by
    obtain ⟨g, cap, rfl, h1, h2, h3, h4, h5⟩ := own_words ho1 hpn
    rw [hcnt] at he h1
    unfold maxLen at h2
    exact ⟨g, cap, he, h1, h2, h3, h4, by rw [hP0]; exact h5 0 p0 hp0, ⟨by rw [hP1]; exact h5 1 p1 hp1, trivial⟩, hb⟩
  clear HCUT0 hP0 hpe
  have hcn : ((cnt : Int) == 2) = true := by rw [hc]; rfl
  have hcn2 : ((cnt : Int) != 2) = false := by rw [hc]; rfl
  clear hk hps ho hpn hp0 hcnt hP1 hp1 hg1' hq hps1
  subst hc
  go_enter Tryz.func6, Tryz.ntmps6
  go_wp2_with (first
    | (go_at_call 15; refine (HCUT.out _).mono ?_; rintro e w1 ⟨g, cap, rfl, hcap1, hcap2, hg0, hg1, hc0, HJ, hb1⟩; simp at hg0; have hs1 : w.heap.size < w1.heap.size := (by have := hb1.size; simp at this; omega); have zb1 : Hid (ZB w1 w.heap.size) := ZB.keep (heap_alloc_new w _) hb1 (by simp); have hB1 : Hid (Below w.heap.size w w1) := Below.step ((Below.refl _ _).alloc (Nat.le_refl _) _) hb1; clear hb1 HCUT)
    | (go_at_call 16; refine (HOP.out _).mono ?_; rintro e w2 ⟨rfl, hb2⟩; have hs2 : w.heap.size < w2.heap.size := (by have := hb2.size; omega); have hg2 : g < w2.heap.size := (by have := hb2.size; omega); have hd0 : w2.cell? ⟨g, 1, none⟩ = some (.string P1) := (hb2.cell (p := ⟨g, 1, none⟩) hg1).trans (HJ.out.1); have zb2 : Hid (ZB w2 w.heap.size) := zb1.out.keep hb2 hs1; obtain ⟨z0, z1, z2, z3, z4, z5, z6, zf0, zf1, zf2, zf3, zf4, zf5, zf6⟩ := zb2.out.facts; have hB2 : Hid (Below w.heap.size w w2) := Below.step hB1.out hb2; clear hb2 HOP)
    | (go_at_call 17; refine (HO.out _).mono ?_; rintro e w9 ⟨rfl, hw9⟩; rw [hw9]; clear hw9 HO)
    | (go_at_call 9; refine (HREF.out _).mono ?_; rintro e w3 ⟨rfl, hb3⟩; have hs3 : w.heap.size < w3.heap.size := (by have := hb3.size; simp at this; omega); have hq3 : w2.heap.size < w3.heap.size := (by have := hb3.size; simp at this; omega); have ib3 : Hid (IB w3 w2.heap.size ⟨o, 0, ⟨#[]⟩, false, ⟨#[]⟩, ⟨#[]⟩, ⟨#[]⟩⟩) := IB.keep (heap_alloc_new w2 _) hb3 (by simp); have zb3 : Hid (ZB w3 w.heap.size) := ZB.keep (zb2.out.new hs2) hb3 (by simp; omega); have hB3 : Hid (Below w.heap.size w w3) := Below.step (hB2.out.alloc hB2.out.size _) hb3; clear z0 z1 z2 z3 z4 z5 z6 zf0 zf1 zf2 zf3 zf4 zf5 zf6 hb3 HREF; obtain ⟨i0, i1, i2, i3, i4, i5, i6, if0, if1, if2, if3, if4, if5, if6⟩ := ib3.out.facts; obtain ⟨z0, z1, z2, z3, z4, z5, z6, zf0, zf1, zf2, zf3, zf4, zf5, zf6⟩ := zb3.out.facts))
  refine bodyPost_ret (v := .tuple #[.agg #[.int .i64 0, .int .i64 0, .string ⟨#[]⟩, .bool false, .string ⟨#[]⟩, .string ⟨#[]⟩, .string ⟨#[]⟩], .int .i64 4]) (by simp [results, Tryz.results6, go_sem, *]) rfl ⟨by rw [HR.out]; rfl, ?_⟩
  refine Below.alloc ?_ ?_ _
  · exact ((((((((((hB3.out.setCell (p := ⟨w2.heap.size, 3, none⟩) (Nat.le_of_lt hs2) _).setCell (p := ⟨w2.heap.size, 4, none⟩) (Nat.le_of_lt hs2) _).setCell (p := ⟨w2.heap.size, 5, none⟩) (Nat.le_of_lt hs2) _).setCell (p := ⟨w2.heap.size, 6, none⟩) (Nat.le_of_lt hs2) _).setCell (Nat.le_refl _) _).setCell (Nat.le_refl _) _).setCell (Nat.le_refl _) _).setCell (Nat.le_refl _) _).setCell (Nat.le_refl _) _).setCell (Nat.le_refl _) _).setCell (Nat.le_refl _) _
  · exact (((((((((((hB3.out.setCell (p := ⟨w2.heap.size, 3, none⟩) (Nat.le_of_lt hs2) _).setCell (p := ⟨w2.heap.size, 4, none⟩) (Nat.le_of_lt hs2) _).setCell (p := ⟨w2.heap.size, 5, none⟩) (Nat.le_of_lt hs2) _).setCell (p := ⟨w2.heap.size, 6, none⟩) (Nat.le_of_lt hs2) _).setCell (Nat.le_refl _) _).setCell (Nat.le_refl _) _).setCell (Nat.le_refl _) _).setCell (Nat.le_refl _) _).setCell (Nat.le_refl _) _).setCell (Nat.le_refl _) _).setCell (Nat.le_refl _) _).size

set_option maxRecDepth 100000 in
set_option maxHeartbeats 800000 in
theorem parse_8_bad (s : ByteArray) (hs : s.size ≤ 1099511627776) (p0 : List UInt8) (rest : List (List UInt8)) (hps : cutL 32 s.data.toList = p0 :: rest) (hk : opdI (opOf p0) = 8) (hc : (p0 :: rest).length = 2) (hq : rfOK ((p0 :: rest).getD 1 []) = true) (hi : ickI ⟨opOf p0, 0, ⟨#[]⟩, rfB ((p0 :: rest).getD 1 []), ⟨(rfC ((p0 :: rest).getD 1 [])).toArray⟩, ⟨(rfN ((p0 :: rest).getD 1 [])).toArray⟩, ⟨(rfD ((p0 :: rest).getD 1 [])).toArray⟩⟩ ≠ 0) (w : World) : Calls Tryz.prog 6 #[.string s] w fun e w' => e = .returned (outI (parI (8) (opOf p0) (p0 :: rest))) ∧ Below w.heap.size w w' := by
  have HCUT0 := rCut_any 32 s hs
  rw [hps] at HCUT0
  have HOP0 := rOp_any ⟨p0.toArray⟩
  have HO0 := rOperand_any (opOf p0)
  rw [hk] at HO0
  have hob : opOf p0 ≤ 41 := op_le p0
  obtain ⟨P0, hP0⟩ : ∃ P : ByteArray, P = ⟨p0.toArray⟩ := ⟨_, rfl⟩
  obtain ⟨o, ho⟩ : ∃ o, o = opOf p0 := ⟨_, rfl⟩
  simp only at HOP0
  rw [← ho] at HOP0 HO0 hob ⊢
  rw [← hP0] at HOP0
  have HO : Hid (∀ w, _) := HO0
  have HOP : Hid (∀ w, _) := HOP0
  clear HO0 HOP0
  obtain ⟨ps, hpe⟩ : ∃ ps, ps = p0 :: rest := ⟨_, rfl⟩
  have hpn : ps ≠ [] := by rw [hpe]; simp
  have hp0 : ps[0]? = some p0 := by rw [hpe]; rfl
  rw [← hpe] at HCUT0 ⊢
  obtain ⟨cnt, hcnt⟩ : ∃ cnt, ps.length = cnt := ⟨_, rfl⟩
  have hcnt0 : 0 < cnt := by rw [← hcnt, hpe]; simp
  rw [← hpe] at hc hq hi
  rw [hcnt] at hc
  rw [← ho] at hi
  obtain ⟨p1, hp1⟩ : ∃ p1, ps[1]? = some p1 := ⟨_, List.getElem?_eq_getElem (by omega)⟩
  have hg1' : ps.getD 1 [] = p1 := by rw [List.getD_eq_getElem?_getD, hp1]; rfl
  obtain ⟨P1, hP1⟩ : ∃ P : ByteArray, P = ⟨p1.toArray⟩ := ⟨_, rfl⟩
  rw [hg1'] at hq hi
  have hcd : candI (8) o ps = some ⟨o, 0, ⟨#[]⟩, rfB p1, ⟨(rfC p1).toArray⟩, ⟨(rfN p1).toArray⟩, ⟨(rfD p1).toArray⟩⟩ := by rw [candI, if_neg (by decide), if_neg (by decide), if_neg (by decide), if_neg (by decide), hg1', if_pos ⟨by rw [hcnt]; exact hc, hq⟩]
  have HR : Hid _ := parI_bad hcd hi
  have hps1 := word_size hs (hps.trans hpe.symm) hp1
  have HN0 := rParseRefText_any ⟨p1.toArray⟩ (by unfold maxLen; omega)
  simp only at HN0
  rw [← hP1] at HN0
  rw [rfOut_ok hq] at HN0
  obtain ⟨hz1, hz2, hz3⟩ := rf_len hq
  obtain ⟨r, hr⟩ : ∃ r, r = rfB p1 := ⟨_, rfl⟩
  obtain ⟨C, hC⟩ : ∃ C : ByteArray, C = ⟨(rfC p1).toArray⟩ := ⟨_, rfl⟩
  obtain ⟨M, hM⟩ : ∃ M : ByteArray, M = ⟨(rfN p1).toArray⟩ := ⟨_, rfl⟩
  obtain ⟨D, hD⟩ : ∃ D : ByteArray, D = ⟨(rfD p1).toArray⟩ := ⟨_, rfl⟩
  rw [← hr, ← hC, ← hM, ← hD] at HN0 hi
  rw [← hC] at hz1
  rw [← hM] at hz2
  rw [← hD] at hz3
  have HREF : Hid (∀ w, _) := HN0
  clear HN0
  have HCK0 := rCheck_any o 0 ⟨#[]⟩ r C M D (by decide) hz1 hz2 hz3
  rw [show ickE (o : Int) 0 ⟨#[]⟩ r C M D = 1 from (ick_01 _ _ _ _ _ _ _).resolve_left hi] at HCK0
  have HCK : Hid (∀ w, _) := HCK0
  clear HCK0
  have HCUT : Hid (∀ w, Calls Tryz.prog 15 #[.string s, .int .u8 32] w fun e w' => ∃ g cap, e = .returned (.slice (some ⟨g, 0, none⟩) cnt cap) ∧ cnt ≤ cap ∧ cap ≤ 9223372036854775807 ∧ w.heap.size ≤ g ∧ g < w'.heap.size ∧ w'.cell? ⟨g, 0, none⟩ = some (.string P0) ∧ Hid (w'.cell? ⟨g, 1, none⟩ = some (.string P1) ∧ True) ∧ Below w.heap.size w w') := fun w => (HCUT0 w).mono fun e w' ⟨v, he, ho1, hb⟩ => by
    obtain ⟨g, cap, rfl, h1, h2, h3, h4, h5⟩ := own_words ho1 hpn
    rw [hcnt] at he h1
    unfold maxLen at h2
    exact ⟨g, cap, he, h1, h2, h3, h4, by rw [hP0]; exact h5 0 p0 hp0, ⟨by rw [hP1]; exact h5 1 p1 hp1, trivial⟩, hb⟩
  clear HCUT0 hP0 hpe
  have hcn : ((cnt : Int) == 2) = true := by rw [hc]; rfl
  have hcn2 : ((cnt : Int) != 2) = false := by rw [hc]; rfl
  clear hk hps ho hpn hp0 hcnt hP1 hp1 hg1' hq hps1 hcd hi hr hC hM hD hz1 hz2 hz3
  subst hc
  go_enter Tryz.func6, Tryz.ntmps6
  go_wp2_with (first
    | (go_at_call 15; refine (HCUT.out _).mono ?_; rintro e w1 ⟨g, cap, rfl, hcap1, hcap2, hg0, hg1, hc0, HJ, hb1⟩; simp at hg0; have hs1 : w.heap.size < w1.heap.size := (by have := hb1.size; simp at this; omega); have zb1 : Hid (ZB w1 w.heap.size) := ZB.keep (heap_alloc_new w _) hb1 (by simp); have hB1 : Hid (Below w.heap.size w w1) := Below.step ((Below.refl _ _).alloc (Nat.le_refl _) _) hb1; clear hb1 HCUT)
    | (go_at_call 16; refine (HOP.out _).mono ?_; rintro e w2 ⟨rfl, hb2⟩; have hs2 : w.heap.size < w2.heap.size := (by have := hb2.size; omega); have hg2 : g < w2.heap.size := (by have := hb2.size; omega); have hd0 : w2.cell? ⟨g, 1, none⟩ = some (.string P1) := (hb2.cell (p := ⟨g, 1, none⟩) hg1).trans (HJ.out.1); have zb2 : Hid (ZB w2 w.heap.size) := zb1.out.keep hb2 hs1; obtain ⟨z0, z1, z2, z3, z4, z5, z6, zf0, zf1, zf2, zf3, zf4, zf5, zf6⟩ := zb2.out.facts; have hB2 : Hid (Below w.heap.size w w2) := Below.step hB1.out hb2; clear hb2 HOP)
    | (go_at_call 17; refine (HO.out _).mono ?_; rintro e w9 ⟨rfl, hw9⟩; rw [hw9]; clear hw9 HO)
    | (go_at_call 9; refine (HREF.out _).mono ?_; rintro e w3 ⟨rfl, hb3⟩; have hs3 : w.heap.size < w3.heap.size := (by have := hb3.size; simp at this; omega); have hq3 : w2.heap.size < w3.heap.size := (by have := hb3.size; simp at this; omega); have ib3 : Hid (IB w3 w2.heap.size ⟨o, 0, ⟨#[]⟩, false, ⟨#[]⟩, ⟨#[]⟩, ⟨#[]⟩⟩) := IB.keep (heap_alloc_new w2 _) hb3 (by simp); have zb3 : Hid (ZB w3 w.heap.size) := ZB.keep (zb2.out.new hs2) hb3 (by simp; omega); have hB3 : Hid (Below w.heap.size w w3) := Below.step (hB2.out.alloc hB2.out.size _) hb3; clear z0 z1 z2 z3 z4 z5 z6 zf0 zf1 zf2 zf3 zf4 zf5 zf6 hb3 HREF; obtain ⟨i0, i1, i2, i3, i4, i5, i6, if0, if1, if2, if3, if4, if5, if6⟩ := ib3.out.facts; obtain ⟨z0, z1, z2, z3, z4, z5, z6, zf0, zf1, zf2, zf3, zf4, zf5, zf6⟩ := zb3.out.facts)
    | (go_at_call 19; refine (HCK.out _).mono ?_; rintro e w4 ⟨rfl, hb4⟩; have hs4 : w.heap.size < w4.heap.size := (by have := hb4.size; simp at this; omega); have ib4 : Hid (IB w4 w2.heap.size ⟨o, 0, ⟨#[]⟩, r, C, M, D⟩) := IB.keep ((ib3.out.setR r C M D).new (by simp; omega)) hb4 (by simp; omega); have zb4 : Hid (ZB w4 w.heap.size) := ZB.keep (((((zb3.out.set (by omega)).set (by omega)).set (by omega)).set (by omega)).new (by simp; omega)) hb4 (by simp; omega); have hB4 : Hid (Below w.heap.size w w4) := Below.step (Below.alloc ((((hB3.out.setCell (p := ⟨w2.heap.size, 3, none⟩) (Nat.le_of_lt hs2) _).setCell (p := ⟨w2.heap.size, 4, none⟩) (Nat.le_of_lt hs2) _).setCell (p := ⟨w2.heap.size, 5, none⟩) (Nat.le_of_lt hs2) _).setCell (p := ⟨w2.heap.size, 6, none⟩) (Nat.le_of_lt hs2) _) (by simp; omega) _) hb4; clear z0 z1 z2 z3 z4 z5 z6 zf0 zf1 zf2 zf3 zf4 zf5 zf6 i0 i1 i2 i3 i4 i5 i6 if0 if1 if2 if3 if4 if5 if6 hb4 HCK; obtain ⟨j0, j1, j2, j3, j4, j5, j6, jf0, jf1, jf2, jf3, jf4, jf5, jf6⟩ := ib4.out.facts; obtain ⟨y0, y1, y2, y3, y4, y5, y6, yf0, yf1, yf2, yf3, yf4, yf5, yf6⟩ := zb4.out.facts))
  refine bodyPost_ret (v := .tuple #[.agg #[.int .i64 0, .int .i64 0, .string ⟨#[]⟩, .bool false, .string ⟨#[]⟩, .string ⟨#[]⟩, .string ⟨#[]⟩], .int .i64 4]) (by simp [results, Tryz.results6, go_sem, *]) rfl ⟨by rw [HR.out]; rfl, ?_⟩
  exact ((((((hB4.out.setCell (Nat.le_refl _) _).setCell (Nat.le_refl _) _).setCell (Nat.le_refl _) _).setCell (Nat.le_refl _) _).setCell (Nat.le_refl _) _).setCell (Nat.le_refl _) _).setCell (Nat.le_refl _) _

set_option maxRecDepth 100000 in
set_option maxHeartbeats 800000 in
theorem parse_8_yes (s : ByteArray) (hs : s.size ≤ 1099511627776) (p0 : List UInt8) (rest : List (List UInt8)) (hps : cutL 32 s.data.toList = p0 :: rest) (hk : opdI (opOf p0) = 8) (hc : (p0 :: rest).length = 2) (hq : rfOK ((p0 :: rest).getD 1 []) = true) (hi : ickI ⟨opOf p0, 0, ⟨#[]⟩, rfB ((p0 :: rest).getD 1 []), ⟨(rfC ((p0 :: rest).getD 1 [])).toArray⟩, ⟨(rfN ((p0 :: rest).getD 1 [])).toArray⟩, ⟨(rfD ((p0 :: rest).getD 1 [])).toArray⟩⟩ = 0) (w : World) : Calls Tryz.prog 6 #[.string s] w fun e w' => e = .returned (outI (parI (8) (opOf p0) (p0 :: rest))) ∧ Below w.heap.size w w' := by
  have HCUT0 := rCut_any 32 s hs
  rw [hps] at HCUT0
  have HOP0 := rOp_any ⟨p0.toArray⟩
  have HO0 := rOperand_any (opOf p0)
  rw [hk] at HO0
  have hob : opOf p0 ≤ 41 := op_le p0
  obtain ⟨P0, hP0⟩ : ∃ P : ByteArray, P = ⟨p0.toArray⟩ := ⟨_, rfl⟩
  obtain ⟨o, ho⟩ : ∃ o, o = opOf p0 := ⟨_, rfl⟩
  simp only at HOP0
  rw [← ho] at HOP0 HO0 hob ⊢
  rw [← hP0] at HOP0
  have HO : Hid (∀ w, _) := HO0
  have HOP : Hid (∀ w, _) := HOP0
  clear HO0 HOP0
  obtain ⟨ps, hpe⟩ : ∃ ps, ps = p0 :: rest := ⟨_, rfl⟩
  have hpn : ps ≠ [] := by rw [hpe]; simp
  have hp0 : ps[0]? = some p0 := by rw [hpe]; rfl
  rw [← hpe] at HCUT0 ⊢
  obtain ⟨cnt, hcnt⟩ : ∃ cnt, ps.length = cnt := ⟨_, rfl⟩
  have hcnt0 : 0 < cnt := by rw [← hcnt, hpe]; simp
  rw [← hpe] at hc hq hi
  rw [hcnt] at hc
  rw [← ho] at hi
  obtain ⟨p1, hp1⟩ : ∃ p1, ps[1]? = some p1 := ⟨_, List.getElem?_eq_getElem (by omega)⟩
  have hg1' : ps.getD 1 [] = p1 := by rw [List.getD_eq_getElem?_getD, hp1]; rfl
  obtain ⟨P1, hP1⟩ : ∃ P : ByteArray, P = ⟨p1.toArray⟩ := ⟨_, rfl⟩
  rw [hg1'] at hq hi
  have hcd : candI (8) o ps = some ⟨o, 0, ⟨#[]⟩, rfB p1, ⟨(rfC p1).toArray⟩, ⟨(rfN p1).toArray⟩, ⟨(rfD p1).toArray⟩⟩ := by rw [candI, if_neg (by decide), if_neg (by decide), if_neg (by decide), if_neg (by decide), hg1', if_pos ⟨by rw [hcnt]; exact hc, hq⟩]
  have HR : Hid _ := parI_yes hcd hi
  have hps1 := word_size hs (hps.trans hpe.symm) hp1
  have HN0 := rParseRefText_any ⟨p1.toArray⟩ (by unfold maxLen; omega)
  simp only at HN0
  rw [← hP1] at HN0
  rw [rfOut_ok hq] at HN0
  obtain ⟨hz1, hz2, hz3⟩ := rf_len hq
  obtain ⟨r, hr⟩ : ∃ r, r = rfB p1 := ⟨_, rfl⟩
  obtain ⟨C, hC⟩ : ∃ C : ByteArray, C = ⟨(rfC p1).toArray⟩ := ⟨_, rfl⟩
  obtain ⟨M, hM⟩ : ∃ M : ByteArray, M = ⟨(rfN p1).toArray⟩ := ⟨_, rfl⟩
  obtain ⟨D, hD⟩ : ∃ D : ByteArray, D = ⟨(rfD p1).toArray⟩ := ⟨_, rfl⟩
  rw [← hr, ← hC, ← hM, ← hD] at HN0 hi HR
  rw [← hC] at hz1
  rw [← hM] at hz2
  rw [← hD] at hz3
  have HREF : Hid (∀ w, _) := HN0
  clear HN0
  have HCK0 := rCheck_any o 0 ⟨#[]⟩ r C M D (by decide) hz1 hz2 hz3
  rw [show ickE (o : Int) 0 ⟨#[]⟩ r C M D = 0 from hi] at HCK0
  have HCK : Hid (∀ w, _) := HCK0
  clear HCK0
  have HCUT : Hid (∀ w, Calls Tryz.prog 15 #[.string s, .int .u8 32] w fun e w' => ∃ g cap, e = .returned (.slice (some ⟨g, 0, none⟩) cnt cap) ∧ cnt ≤ cap ∧ cap ≤ 9223372036854775807 ∧ w.heap.size ≤ g ∧ g < w'.heap.size ∧ w'.cell? ⟨g, 0, none⟩ = some (.string P0) ∧ Hid (w'.cell? ⟨g, 1, none⟩ = some (.string P1) ∧ True) ∧ Below w.heap.size w w') := fun w => (HCUT0 w).mono fun e w' ⟨v, he, ho1, hb⟩ => by
    obtain ⟨g, cap, rfl, h1, h2, h3, h4, h5⟩ := own_words ho1 hpn
    rw [hcnt] at he h1
    unfold maxLen at h2
    exact ⟨g, cap, he, h1, h2, h3, h4, by rw [hP0]; exact h5 0 p0 hp0, ⟨by rw [hP1]; exact h5 1 p1 hp1, trivial⟩, hb⟩
  clear HCUT0 hP0 hpe
  have hcn : ((cnt : Int) == 2) = true := by rw [hc]; rfl
  have hcn2 : ((cnt : Int) != 2) = false := by rw [hc]; rfl
  clear hk hps ho hpn hp0 hcnt hP1 hp1 hg1' hq hps1 hcd hi hr hC hM hD hz1 hz2 hz3
  subst hc
  go_enter Tryz.func6, Tryz.ntmps6
  go_wp2_with (first
    | (go_at_call 15; refine (HCUT.out _).mono ?_; rintro e w1 ⟨g, cap, rfl, hcap1, hcap2, hg0, hg1, hc0, HJ, hb1⟩; simp at hg0; have hs1 : w.heap.size < w1.heap.size := (by have := hb1.size; simp at this; omega); have zb1 : Hid (ZB w1 w.heap.size) := ZB.keep (heap_alloc_new w _) hb1 (by simp); have hB1 : Hid (Below w.heap.size w w1) := Below.step ((Below.refl _ _).alloc (Nat.le_refl _) _) hb1; clear hb1 HCUT)
    | (go_at_call 16; refine (HOP.out _).mono ?_; rintro e w2 ⟨rfl, hb2⟩; have hs2 : w.heap.size < w2.heap.size := (by have := hb2.size; omega); have hg2 : g < w2.heap.size := (by have := hb2.size; omega); have hd0 : w2.cell? ⟨g, 1, none⟩ = some (.string P1) := (hb2.cell (p := ⟨g, 1, none⟩) hg1).trans (HJ.out.1); have zb2 : Hid (ZB w2 w.heap.size) := zb1.out.keep hb2 hs1; obtain ⟨z0, z1, z2, z3, z4, z5, z6, zf0, zf1, zf2, zf3, zf4, zf5, zf6⟩ := zb2.out.facts; have hB2 : Hid (Below w.heap.size w w2) := Below.step hB1.out hb2; clear hb2 HOP)
    | (go_at_call 17; refine (HO.out _).mono ?_; rintro e w9 ⟨rfl, hw9⟩; rw [hw9]; clear hw9 HO)
    | (go_at_call 9; refine (HREF.out _).mono ?_; rintro e w3 ⟨rfl, hb3⟩; have hs3 : w.heap.size < w3.heap.size := (by have := hb3.size; simp at this; omega); have hq3 : w2.heap.size < w3.heap.size := (by have := hb3.size; simp at this; omega); have ib3 : Hid (IB w3 w2.heap.size ⟨o, 0, ⟨#[]⟩, false, ⟨#[]⟩, ⟨#[]⟩, ⟨#[]⟩⟩) := IB.keep (heap_alloc_new w2 _) hb3 (by simp); have zb3 : Hid (ZB w3 w.heap.size) := ZB.keep (zb2.out.new hs2) hb3 (by simp; omega); have hB3 : Hid (Below w.heap.size w w3) := Below.step (hB2.out.alloc hB2.out.size _) hb3; clear z0 z1 z2 z3 z4 z5 z6 zf0 zf1 zf2 zf3 zf4 zf5 zf6 hb3 HREF; obtain ⟨i0, i1, i2, i3, i4, i5, i6, if0, if1, if2, if3, if4, if5, if6⟩ := ib3.out.facts; obtain ⟨z0, z1, z2, z3, z4, z5, z6, zf0, zf1, zf2, zf3, zf4, zf5, zf6⟩ := zb3.out.facts)
    | (go_at_call 19; refine (HCK.out _).mono ?_; rintro e w4 ⟨rfl, hb4⟩; have hs4 : w.heap.size < w4.heap.size := (by have := hb4.size; simp at this; omega); have ib4 : Hid (IB w4 w2.heap.size ⟨o, 0, ⟨#[]⟩, r, C, M, D⟩) := IB.keep ((ib3.out.setR r C M D).new (by simp; omega)) hb4 (by simp; omega); have zb4 : Hid (ZB w4 w.heap.size) := ZB.keep (((((zb3.out.set (by omega)).set (by omega)).set (by omega)).set (by omega)).new (by simp; omega)) hb4 (by simp; omega); have hB4 : Hid (Below w.heap.size w w4) := Below.step (Below.alloc ((((hB3.out.setCell (p := ⟨w2.heap.size, 3, none⟩) (Nat.le_of_lt hs2) _).setCell (p := ⟨w2.heap.size, 4, none⟩) (Nat.le_of_lt hs2) _).setCell (p := ⟨w2.heap.size, 5, none⟩) (Nat.le_of_lt hs2) _).setCell (p := ⟨w2.heap.size, 6, none⟩) (Nat.le_of_lt hs2) _) (by simp; omega) _) hb4; clear z0 z1 z2 z3 z4 z5 z6 zf0 zf1 zf2 zf3 zf4 zf5 zf6 i0 i1 i2 i3 i4 i5 i6 if0 if1 if2 if3 if4 if5 if6 hb4 HCK; obtain ⟨j0, j1, j2, j3, j4, j5, j6, jf0, jf1, jf2, jf3, jf4, jf5, jf6⟩ := ib4.out.facts; obtain ⟨y0, y1, y2, y3, y4, y5, y6, yf0, yf1, yf2, yf3, yf4, yf5, yf6⟩ := zb4.out.facts))
  refine bodyPost_ret (v := .tuple #[.agg #[.int .i64 (o : Int), .int .i64 0, .string ⟨#[]⟩, .bool r, .string C, .string M, .string D], .int .i64 0]) (by simp [results, Tryz.results6, go_sem, *]) rfl ⟨by rw [HR.out]; rfl, ?_⟩
  exact ((((((hB4.out.setCell (Nat.le_refl _) _).setCell (Nat.le_refl _) _).setCell (Nat.le_refl _) _).setCell (Nat.le_refl _) _).setCell (Nat.le_refl _) _).setCell (Nat.le_refl _) _).setCell (Nat.le_refl _) _

end Go.Proofs.YtijlipllahfakaaGreatDoor

namespace Go.Proofs.YtijlipllahfakaaGreatDoor
open Go.RowKit

theorem rParse2_any (s : ByteArray) (hs : s.size ≤ 1099511627776) (w : World) : Calls Tryz.prog 6 #[.string s] w fun e w' => e = .returned (outI (docP s.data.toList)) ∧ Below w.heap.size w w' := by
  cases hps : cutL 32 s.data.toList with
  | nil => exact absurd hps (cutL_ne _ _)
  | cons p0 rest =>
    have hd : docP s.data.toList = parI (opdI (opOf p0)) (opOf p0) (p0 :: rest) := by rw [docP, hps]; rfl
    rw [hd]
    rcases opd_cases (opOf p0) with hk | hk | hk | hk | hk | hk | hk | hk | hk | hk
    · rw [hk]
      by_cases hc : (p0 :: rest).length = 1
      · by_cases hi : ickI ⟨opOf p0, 0, ⟨#[]⟩, false, ⟨#[]⟩, ⟨#[]⟩, ⟨#[]⟩⟩ = 0
        · exact parse_none_yes s hs p0 rest hps hk hc hi w
        · exact parse_none_bad s hs p0 rest hps hk hc hi w
      · exact parse_none_cnt s hs p0 rest hps hk hc w
    · rw [hk]
      by_cases hc : (p0 :: rest).length = 1
      · by_cases hi : ickI ⟨opOf p0, 0, ⟨#[]⟩, false, ⟨#[]⟩, ⟨#[]⟩, ⟨#[]⟩⟩ = 0
        · exact parse_0_yes s hs p0 rest hps hk hc hi w
        · exact parse_0_bad s hs p0 rest hps hk hc hi w
      · exact parse_0_cnt s hs p0 rest hps hk hc w
    · rw [hk]
      by_cases hc : (p0 :: rest).length = 2
      · cases hq : (numR ((p0 :: rest).getD 1 [])).2 with
        | false => exact parse_1_num s hs p0 rest hps hk hc hq w
        | true =>
          by_cases hi : ickI ⟨opOf p0, (numR ((p0 :: rest).getD 1 [])).1, ⟨#[]⟩, false, ⟨#[]⟩, ⟨#[]⟩, ⟨#[]⟩⟩ = 0
          · exact parse_1_yes s hs p0 rest hps hk hc hq hi w
          · exact parse_1_bad s hs p0 rest hps hk hc hq hi w
      · exact parse_1_cnt s hs p0 rest hps hk hc w
    · rw [hk]
      by_cases hc : (p0 :: rest).length = 2
      · cases hq : (numR ((p0 :: rest).getD 1 [])).2 with
        | false => exact parse_2_num s hs p0 rest hps hk hc hq w
        | true =>
          by_cases hi : ickI ⟨opOf p0, (numR ((p0 :: rest).getD 1 [])).1, ⟨#[]⟩, false, ⟨#[]⟩, ⟨#[]⟩, ⟨#[]⟩⟩ = 0
          · exact parse_2_yes s hs p0 rest hps hk hc hq hi w
          · exact parse_2_bad s hs p0 rest hps hk hc hq hi w
      · exact parse_2_cnt s hs p0 rest hps hk hc w
    · rw [hk]
      by_cases hc : (p0 :: rest).length = 2
      · cases hq : (numR ((p0 :: rest).getD 1 [])).2 with
        | false => exact parse_3_num s hs p0 rest hps hk hc hq w
        | true =>
          by_cases hi : ickI ⟨opOf p0, (numR ((p0 :: rest).getD 1 [])).1, ⟨#[]⟩, false, ⟨#[]⟩, ⟨#[]⟩, ⟨#[]⟩⟩ = 0
          · exact parse_3_yes s hs p0 rest hps hk hc hq hi w
          · exact parse_3_bad s hs p0 rest hps hk hc hq hi w
      · exact parse_3_cnt s hs p0 rest hps hk hc w
    · rw [hk]
      by_cases hc : (p0 :: rest).length = 2
      · by_cases hi : ickI ⟨opOf p0, 0, ⟨((p0 :: rest).getD 1 []).toArray⟩, false, ⟨#[]⟩, ⟨#[]⟩, ⟨#[]⟩⟩ = 0
        · exact parse_4_yes s hs p0 rest hps hk hc hi w
        · exact parse_4_bad s hs p0 rest hps hk hc hi w
      · exact parse_4_cnt s hs p0 rest hps hk hc w
    · rw [hk]
      by_cases hc : (p0 :: rest).length = 2
      · by_cases hi : ickI ⟨opOf p0, 0, ⟨((p0 :: rest).getD 1 []).toArray⟩, false, ⟨#[]⟩, ⟨#[]⟩, ⟨#[]⟩⟩ = 0
        · exact parse_5_yes s hs p0 rest hps hk hc hi w
        · exact parse_5_bad s hs p0 rest hps hk hc hi w
      · exact parse_5_cnt s hs p0 rest hps hk hc w
    · rw [hk]
      by_cases hc : (p0 :: rest).length = 2
      · by_cases hi : ickI ⟨opOf p0, 0, ⟨((p0 :: rest).getD 1 []).toArray⟩, false, ⟨#[]⟩, ⟨#[]⟩, ⟨#[]⟩⟩ = 0
        · exact parse_6_yes s hs p0 rest hps hk hc hi w
        · exact parse_6_bad s hs p0 rest hps hk hc hi w
      · exact parse_6_cnt s hs p0 rest hps hk hc w
    · rw [hk]
      by_cases hc : (p0 :: rest).length = 3
      · cases hq : (numR ((p0 :: rest).getD 1 [])).2 with
        | false => exact parse_7_num s hs p0 rest hps hk hc hq w
        | true =>
          by_cases hi : ickI ⟨opOf p0, (numR ((p0 :: rest).getD 1 [])).1, ⟨((p0 :: rest).getD 2 []).toArray⟩, false, ⟨#[]⟩, ⟨#[]⟩, ⟨#[]⟩⟩ = 0
          · exact parse_7_yes s hs p0 rest hps hk hc hq hi w
          · exact parse_7_bad s hs p0 rest hps hk hc hq hi w
      · exact parse_7_cnt s hs p0 rest hps hk hc w
    · rw [hk]
      by_cases hc : (p0 :: rest).length = 2
      · cases hq : rfOK ((p0 :: rest).getD 1 []) with
        | false => exact parse_8_ref s hs p0 rest hps hk hc hq w
        | true =>
          by_cases hi : ickI ⟨opOf p0, 0, ⟨#[]⟩, rfB ((p0 :: rest).getD 1 []), ⟨(rfC ((p0 :: rest).getD 1 [])).toArray⟩, ⟨(rfN ((p0 :: rest).getD 1 [])).toArray⟩, ⟨(rfD ((p0 :: rest).getD 1 [])).toArray⟩⟩ = 0
          · exact parse_8_yes s hs p0 rest hps hk hc hq hi w
          · exact parse_8_bad s hs p0 rest hps hk hc hq hi w
      · exact parse_8_cnt s hs p0 rest hps hk hc w

end Go.Proofs.YtijlipllahfakaaGreatDoor

namespace Go.Proofs.YtijlipllahfakaaGreatDoor
open Go.RowKit

theorem piece_size (s : ByteArray) (l : List UInt8) (h : l.length ≤ s.data.toList.length) : (⟨l.toArray⟩ : ByteArray).size ≤ s.size := by
  rw [mk_size]
  have : s.data.toList.length = s.size := by simp
  omega
theorem cutA_len (l : List UInt8) : (cutA l).length ≤ l.length := by unfold cutA; rw [List.length_take]; omega
theorem cutB_len (l : List UInt8) : (cutB l).length ≤ l.length := by unfold cutB; rw [List.length_drop]; omega


set_option maxRecDepth 100000 in
set_option maxHeartbeats 2000000 in
theorem readOp_none (o : Int) (hk : opdI o = -1) (x : ByteArray) (w : World) : Calls Tryz.prog 13 #[.int .i64 o, .string x] w fun e w' => e = .returned (insV (rdI o x.data.toList)) ∧ Below w.heap.size w w' := by
  have HO := operand_any o
  rw [hk] at HO
  have HO : Hid (∀ w, _) := HO
  have HR : insV (rdI o x.data.toList) = .agg #[.int .i64 o, .int .i64 0, .string ⟨#[]⟩, .bool false, .string ⟨#[]⟩, .string ⟨#[]⟩, .string ⟨#[]⟩] := by rw [rdI, if_neg (by omega), if_neg (by omega), if_neg (by omega), if_neg (by omega)]; rfl
  rw [HR]
  clear HR hk
  go_enter Tryz.func13, Tryz.ntmps13
  go_wp2_with (first
    | (go_at_call 26; refine ((HO.out) _).mono ?_; rintro e w0 ⟨rfl, hw0⟩; rw [hw0]; clear hw0 HO))
  refine bodyPost_ret (v := .agg #[.int .i64 o, .int .i64 0, .string ⟨#[]⟩, .bool false, .string ⟨#[]⟩, .string ⟨#[]⟩, .string ⟨#[]⟩]) (by simp [results, Tryz.results13, go_sem, *]) rfl ⟨rfl, ?_⟩
  exact ((Below.refl _ _).alloc (Nat.le_refl _) _)

set_option maxRecDepth 100000 in
set_option maxHeartbeats 2000000 in
theorem readOp_0 (o : Int) (hk : opdI o = 0) (x : ByteArray) (w : World) : Calls Tryz.prog 13 #[.int .i64 o, .string x] w fun e w' => e = .returned (insV (rdI o x.data.toList)) ∧ Below w.heap.size w w' := by
  have HO := operand_any o
  rw [hk] at HO
  have HO : Hid (∀ w, _) := HO
  have HR : insV (rdI o x.data.toList) = .agg #[.int .i64 o, .int .i64 0, .string ⟨#[]⟩, .bool false, .string ⟨#[]⟩, .string ⟨#[]⟩, .string ⟨#[]⟩] := by rw [rdI, if_neg (by omega), if_neg (by omega), if_neg (by omega), if_neg (by omega)]; rfl
  rw [HR]
  clear HR hk
  go_enter Tryz.func13, Tryz.ntmps13
  go_wp2_with (first
    | (go_at_call 26; refine ((HO.out) _).mono ?_; rintro e w0 ⟨rfl, hw0⟩; rw [hw0]; clear hw0 HO))
  refine bodyPost_ret (v := .agg #[.int .i64 o, .int .i64 0, .string ⟨#[]⟩, .bool false, .string ⟨#[]⟩, .string ⟨#[]⟩, .string ⟨#[]⟩]) (by simp [results, Tryz.results13, go_sem, *]) rfl ⟨rfl, ?_⟩
  exact ((Below.refl _ _).alloc (Nat.le_refl _) _)

set_option maxRecDepth 100000 in
set_option maxHeartbeats 2000000 in
theorem readOp_1 (o : Int) (hk : opdI o = 1) (x : ByteArray) (w : World) (hs : x.size ≤ 140737488351232) (hE : EIn w) : Calls Tryz.prog 13 #[.int .i64 o, .string x] w fun e w' => e = .returned (insV (rdI o x.data.toList)) ∧ Below w.heap.size w w' := by
  have HO := operand_any o
  rw [hk] at HO
  have HO : Hid (∀ w, _) := HO
  have HR : insV (rdI o x.data.toList) = .agg #[.int .i64 o, .int .i64 (rdN x.data.toList), .string ⟨#[]⟩, .bool false, .string ⟨#[]⟩, .string ⟨#[]⟩, .string ⟨#[]⟩] := by rw [rdI, if_pos (by omega)]; rfl
  rw [HR]
  clear HR hk
  have HX : Hid (∀ w, EIn w → _) := fun w h => readNumber_any x hs w h
  have HE : Hid (EIn (w.alloc (.cells #[.int .i64 0, .int .i64 0, .string ⟨#[]⟩, .bool false, .string ⟨#[]⟩, .string ⟨#[]⟩, .string ⟨#[]⟩] 26))) := hE.keep ((Below.refl _ _).alloc (Nat.le_refl _) _)
  clear hE hs
  generalize rdN x.data.toList = rn at *
  go_enter Tryz.func13, Tryz.ntmps13
  go_wp2_with (first
    | (go_at_call 26; refine ((HO.out) _).mono ?_; rintro e w0 ⟨rfl, hw0⟩; rw [hw0]; clear hw0 HO)
    | (go_at_call 29; refine ((HX.out) _ HE.out).mono ?_; rintro e w1 ⟨rfl, hb1⟩; have hs1 : w.heap.size < w1.heap.size := (by have := hb1.size; simp at this; omega); have hz10 : w1.cell? ⟨w.heap.size, 0, none⟩ = some (.int .i64 0) := (hb1.cell (p := ⟨w.heap.size, 0, none⟩) (by first | (simp; done) | (simp; omega))).trans (by first | assumption | (simp [go_sem, *]; done)); have hf10 : w1.frozen? ⟨w.heap.size, 0, none⟩ = false := (hb1.frozen (p := ⟨w.heap.size, 0, none⟩) (by first | (simp; done) | (simp; omega))).trans (by first | assumption | (simp [go_sem, *]; done)); have hz11 : w1.cell? ⟨w.heap.size, 1, none⟩ = some (.int .i64 0) := (hb1.cell (p := ⟨w.heap.size, 1, none⟩) (by first | (simp; done) | (simp; omega))).trans (by first | assumption | (simp [go_sem, *]; done)); have hf11 : w1.frozen? ⟨w.heap.size, 1, none⟩ = false := (hb1.frozen (p := ⟨w.heap.size, 1, none⟩) (by first | (simp; done) | (simp; omega))).trans (by first | assumption | (simp [go_sem, *]; done)); have hz12 : w1.cell? ⟨w.heap.size, 2, none⟩ = some (.string ⟨#[]⟩) := (hb1.cell (p := ⟨w.heap.size, 2, none⟩) (by first | (simp; done) | (simp; omega))).trans (by first | assumption | (simp [go_sem, *]; done)); have hf12 : w1.frozen? ⟨w.heap.size, 2, none⟩ = false := (hb1.frozen (p := ⟨w.heap.size, 2, none⟩) (by first | (simp; done) | (simp; omega))).trans (by first | assumption | (simp [go_sem, *]; done)); have hz13 : w1.cell? ⟨w.heap.size, 3, none⟩ = some (.bool false) := (hb1.cell (p := ⟨w.heap.size, 3, none⟩) (by first | (simp; done) | (simp; omega))).trans (by first | assumption | (simp [go_sem, *]; done)); have hf13 : w1.frozen? ⟨w.heap.size, 3, none⟩ = false := (hb1.frozen (p := ⟨w.heap.size, 3, none⟩) (by first | (simp; done) | (simp; omega))).trans (by first | assumption | (simp [go_sem, *]; done)); have hz14 : w1.cell? ⟨w.heap.size, 4, none⟩ = some (.string ⟨#[]⟩) := (hb1.cell (p := ⟨w.heap.size, 4, none⟩) (by first | (simp; done) | (simp; omega))).trans (by first | assumption | (simp [go_sem, *]; done)); have hf14 : w1.frozen? ⟨w.heap.size, 4, none⟩ = false := (hb1.frozen (p := ⟨w.heap.size, 4, none⟩) (by first | (simp; done) | (simp; omega))).trans (by first | assumption | (simp [go_sem, *]; done)); have hz15 : w1.cell? ⟨w.heap.size, 5, none⟩ = some (.string ⟨#[]⟩) := (hb1.cell (p := ⟨w.heap.size, 5, none⟩) (by first | (simp; done) | (simp; omega))).trans (by first | assumption | (simp [go_sem, *]; done)); have hf15 : w1.frozen? ⟨w.heap.size, 5, none⟩ = false := (hb1.frozen (p := ⟨w.heap.size, 5, none⟩) (by first | (simp; done) | (simp; omega))).trans (by first | assumption | (simp [go_sem, *]; done)); have hz16 : w1.cell? ⟨w.heap.size, 6, none⟩ = some (.string ⟨#[]⟩) := (hb1.cell (p := ⟨w.heap.size, 6, none⟩) (by first | (simp; done) | (simp; omega))).trans (by first | assumption | (simp [go_sem, *]; done)); have hf16 : w1.frozen? ⟨w.heap.size, 6, none⟩ = false := (hb1.frozen (p := ⟨w.heap.size, 6, none⟩) (by first | (simp; done) | (simp; omega))).trans (by first | assumption | (simp [go_sem, *]; done)); have hB1 : Hid (Below w.heap.size w w1) := Below.step ((Below.refl _ _).alloc (Nat.le_refl _) _) hb1; clear hb1))
  refine bodyPost_ret (v := .agg #[.int .i64 o, .int .i64 rn, .string ⟨#[]⟩, .bool false, .string ⟨#[]⟩, .string ⟨#[]⟩, .string ⟨#[]⟩]) (by simp [results, Tryz.results13, go_sem, *]) rfl ⟨rfl, ?_⟩
  exact (((((((hB1.out).setCell (Nat.le_refl _) _).setCell (Nat.le_refl _) _).setCell (Nat.le_refl _) _).setCell (Nat.le_refl _) _).setCell (Nat.le_refl _) _).setCell (Nat.le_refl _) _).setCell (Nat.le_refl _) _

set_option maxRecDepth 100000 in
set_option maxHeartbeats 2000000 in
theorem readOp_2 (o : Int) (hk : opdI o = 2) (x : ByteArray) (w : World) (hs : x.size ≤ 140737488351232) (hE : EIn w) : Calls Tryz.prog 13 #[.int .i64 o, .string x] w fun e w' => e = .returned (insV (rdI o x.data.toList)) ∧ Below w.heap.size w w' := by
  have HO := operand_any o
  rw [hk] at HO
  have HO : Hid (∀ w, _) := HO
  have HR : insV (rdI o x.data.toList) = .agg #[.int .i64 o, .int .i64 (rdN x.data.toList), .string ⟨#[]⟩, .bool false, .string ⟨#[]⟩, .string ⟨#[]⟩, .string ⟨#[]⟩] := by rw [rdI, if_pos (by omega)]; rfl
  rw [HR]
  clear HR hk
  have HX : Hid (∀ w, EIn w → _) := fun w h => readNumber_any x hs w h
  have HE : Hid (EIn (w.alloc (.cells #[.int .i64 0, .int .i64 0, .string ⟨#[]⟩, .bool false, .string ⟨#[]⟩, .string ⟨#[]⟩, .string ⟨#[]⟩] 26))) := hE.keep ((Below.refl _ _).alloc (Nat.le_refl _) _)
  clear hE hs
  generalize rdN x.data.toList = rn at *
  go_enter Tryz.func13, Tryz.ntmps13
  go_wp2_with (first
    | (go_at_call 26; refine ((HO.out) _).mono ?_; rintro e w0 ⟨rfl, hw0⟩; rw [hw0]; clear hw0 HO)
    | (go_at_call 29; refine ((HX.out) _ HE.out).mono ?_; rintro e w1 ⟨rfl, hb1⟩; have hs1 : w.heap.size < w1.heap.size := (by have := hb1.size; simp at this; omega); have hz10 : w1.cell? ⟨w.heap.size, 0, none⟩ = some (.int .i64 0) := (hb1.cell (p := ⟨w.heap.size, 0, none⟩) (by first | (simp; done) | (simp; omega))).trans (by first | assumption | (simp [go_sem, *]; done)); have hf10 : w1.frozen? ⟨w.heap.size, 0, none⟩ = false := (hb1.frozen (p := ⟨w.heap.size, 0, none⟩) (by first | (simp; done) | (simp; omega))).trans (by first | assumption | (simp [go_sem, *]; done)); have hz11 : w1.cell? ⟨w.heap.size, 1, none⟩ = some (.int .i64 0) := (hb1.cell (p := ⟨w.heap.size, 1, none⟩) (by first | (simp; done) | (simp; omega))).trans (by first | assumption | (simp [go_sem, *]; done)); have hf11 : w1.frozen? ⟨w.heap.size, 1, none⟩ = false := (hb1.frozen (p := ⟨w.heap.size, 1, none⟩) (by first | (simp; done) | (simp; omega))).trans (by first | assumption | (simp [go_sem, *]; done)); have hz12 : w1.cell? ⟨w.heap.size, 2, none⟩ = some (.string ⟨#[]⟩) := (hb1.cell (p := ⟨w.heap.size, 2, none⟩) (by first | (simp; done) | (simp; omega))).trans (by first | assumption | (simp [go_sem, *]; done)); have hf12 : w1.frozen? ⟨w.heap.size, 2, none⟩ = false := (hb1.frozen (p := ⟨w.heap.size, 2, none⟩) (by first | (simp; done) | (simp; omega))).trans (by first | assumption | (simp [go_sem, *]; done)); have hz13 : w1.cell? ⟨w.heap.size, 3, none⟩ = some (.bool false) := (hb1.cell (p := ⟨w.heap.size, 3, none⟩) (by first | (simp; done) | (simp; omega))).trans (by first | assumption | (simp [go_sem, *]; done)); have hf13 : w1.frozen? ⟨w.heap.size, 3, none⟩ = false := (hb1.frozen (p := ⟨w.heap.size, 3, none⟩) (by first | (simp; done) | (simp; omega))).trans (by first | assumption | (simp [go_sem, *]; done)); have hz14 : w1.cell? ⟨w.heap.size, 4, none⟩ = some (.string ⟨#[]⟩) := (hb1.cell (p := ⟨w.heap.size, 4, none⟩) (by first | (simp; done) | (simp; omega))).trans (by first | assumption | (simp [go_sem, *]; done)); have hf14 : w1.frozen? ⟨w.heap.size, 4, none⟩ = false := (hb1.frozen (p := ⟨w.heap.size, 4, none⟩) (by first | (simp; done) | (simp; omega))).trans (by first | assumption | (simp [go_sem, *]; done)); have hz15 : w1.cell? ⟨w.heap.size, 5, none⟩ = some (.string ⟨#[]⟩) := (hb1.cell (p := ⟨w.heap.size, 5, none⟩) (by first | (simp; done) | (simp; omega))).trans (by first | assumption | (simp [go_sem, *]; done)); have hf15 : w1.frozen? ⟨w.heap.size, 5, none⟩ = false := (hb1.frozen (p := ⟨w.heap.size, 5, none⟩) (by first | (simp; done) | (simp; omega))).trans (by first | assumption | (simp [go_sem, *]; done)); have hz16 : w1.cell? ⟨w.heap.size, 6, none⟩ = some (.string ⟨#[]⟩) := (hb1.cell (p := ⟨w.heap.size, 6, none⟩) (by first | (simp; done) | (simp; omega))).trans (by first | assumption | (simp [go_sem, *]; done)); have hf16 : w1.frozen? ⟨w.heap.size, 6, none⟩ = false := (hb1.frozen (p := ⟨w.heap.size, 6, none⟩) (by first | (simp; done) | (simp; omega))).trans (by first | assumption | (simp [go_sem, *]; done)); have hB1 : Hid (Below w.heap.size w w1) := Below.step ((Below.refl _ _).alloc (Nat.le_refl _) _) hb1; clear hb1))
  refine bodyPost_ret (v := .agg #[.int .i64 o, .int .i64 rn, .string ⟨#[]⟩, .bool false, .string ⟨#[]⟩, .string ⟨#[]⟩, .string ⟨#[]⟩]) (by simp [results, Tryz.results13, go_sem, *]) rfl ⟨rfl, ?_⟩
  exact (((((((hB1.out).setCell (Nat.le_refl _) _).setCell (Nat.le_refl _) _).setCell (Nat.le_refl _) _).setCell (Nat.le_refl _) _).setCell (Nat.le_refl _) _).setCell (Nat.le_refl _) _).setCell (Nat.le_refl _) _

set_option maxRecDepth 100000 in
set_option maxHeartbeats 2000000 in
theorem readOp_3 (o : Int) (hk : opdI o = 3) (x : ByteArray) (w : World) (hs : x.size ≤ 140737488351232) (hE : EIn w) : Calls Tryz.prog 13 #[.int .i64 o, .string x] w fun e w' => e = .returned (insV (rdI o x.data.toList)) ∧ Below w.heap.size w w' := by
  have HO := operand_any o
  rw [hk] at HO
  have HO : Hid (∀ w, _) := HO
  have HR : insV (rdI o x.data.toList) = .agg #[.int .i64 o, .int .i64 (rdN x.data.toList), .string ⟨#[]⟩, .bool false, .string ⟨#[]⟩, .string ⟨#[]⟩, .string ⟨#[]⟩] := by rw [rdI, if_pos (by omega)]; rfl
  rw [HR]
  clear HR hk
  have HX : Hid (∀ w, EIn w → _) := fun w h => readNumber_any x hs w h
  have HE : Hid (EIn (w.alloc (.cells #[.int .i64 0, .int .i64 0, .string ⟨#[]⟩, .bool false, .string ⟨#[]⟩, .string ⟨#[]⟩, .string ⟨#[]⟩] 26))) := hE.keep ((Below.refl _ _).alloc (Nat.le_refl _) _)
  clear hE hs
  generalize rdN x.data.toList = rn at *
  go_enter Tryz.func13, Tryz.ntmps13
  go_wp2_with (first
    | (go_at_call 26; refine ((HO.out) _).mono ?_; rintro e w0 ⟨rfl, hw0⟩; rw [hw0]; clear hw0 HO)
    | (go_at_call 29; refine ((HX.out) _ HE.out).mono ?_; rintro e w1 ⟨rfl, hb1⟩; have hs1 : w.heap.size < w1.heap.size := (by have := hb1.size; simp at this; omega); have hz10 : w1.cell? ⟨w.heap.size, 0, none⟩ = some (.int .i64 0) := (hb1.cell (p := ⟨w.heap.size, 0, none⟩) (by first | (simp; done) | (simp; omega))).trans (by first | assumption | (simp [go_sem, *]; done)); have hf10 : w1.frozen? ⟨w.heap.size, 0, none⟩ = false := (hb1.frozen (p := ⟨w.heap.size, 0, none⟩) (by first | (simp; done) | (simp; omega))).trans (by first | assumption | (simp [go_sem, *]; done)); have hz11 : w1.cell? ⟨w.heap.size, 1, none⟩ = some (.int .i64 0) := (hb1.cell (p := ⟨w.heap.size, 1, none⟩) (by first | (simp; done) | (simp; omega))).trans (by first | assumption | (simp [go_sem, *]; done)); have hf11 : w1.frozen? ⟨w.heap.size, 1, none⟩ = false := (hb1.frozen (p := ⟨w.heap.size, 1, none⟩) (by first | (simp; done) | (simp; omega))).trans (by first | assumption | (simp [go_sem, *]; done)); have hz12 : w1.cell? ⟨w.heap.size, 2, none⟩ = some (.string ⟨#[]⟩) := (hb1.cell (p := ⟨w.heap.size, 2, none⟩) (by first | (simp; done) | (simp; omega))).trans (by first | assumption | (simp [go_sem, *]; done)); have hf12 : w1.frozen? ⟨w.heap.size, 2, none⟩ = false := (hb1.frozen (p := ⟨w.heap.size, 2, none⟩) (by first | (simp; done) | (simp; omega))).trans (by first | assumption | (simp [go_sem, *]; done)); have hz13 : w1.cell? ⟨w.heap.size, 3, none⟩ = some (.bool false) := (hb1.cell (p := ⟨w.heap.size, 3, none⟩) (by first | (simp; done) | (simp; omega))).trans (by first | assumption | (simp [go_sem, *]; done)); have hf13 : w1.frozen? ⟨w.heap.size, 3, none⟩ = false := (hb1.frozen (p := ⟨w.heap.size, 3, none⟩) (by first | (simp; done) | (simp; omega))).trans (by first | assumption | (simp [go_sem, *]; done)); have hz14 : w1.cell? ⟨w.heap.size, 4, none⟩ = some (.string ⟨#[]⟩) := (hb1.cell (p := ⟨w.heap.size, 4, none⟩) (by first | (simp; done) | (simp; omega))).trans (by first | assumption | (simp [go_sem, *]; done)); have hf14 : w1.frozen? ⟨w.heap.size, 4, none⟩ = false := (hb1.frozen (p := ⟨w.heap.size, 4, none⟩) (by first | (simp; done) | (simp; omega))).trans (by first | assumption | (simp [go_sem, *]; done)); have hz15 : w1.cell? ⟨w.heap.size, 5, none⟩ = some (.string ⟨#[]⟩) := (hb1.cell (p := ⟨w.heap.size, 5, none⟩) (by first | (simp; done) | (simp; omega))).trans (by first | assumption | (simp [go_sem, *]; done)); have hf15 : w1.frozen? ⟨w.heap.size, 5, none⟩ = false := (hb1.frozen (p := ⟨w.heap.size, 5, none⟩) (by first | (simp; done) | (simp; omega))).trans (by first | assumption | (simp [go_sem, *]; done)); have hz16 : w1.cell? ⟨w.heap.size, 6, none⟩ = some (.string ⟨#[]⟩) := (hb1.cell (p := ⟨w.heap.size, 6, none⟩) (by first | (simp; done) | (simp; omega))).trans (by first | assumption | (simp [go_sem, *]; done)); have hf16 : w1.frozen? ⟨w.heap.size, 6, none⟩ = false := (hb1.frozen (p := ⟨w.heap.size, 6, none⟩) (by first | (simp; done) | (simp; omega))).trans (by first | assumption | (simp [go_sem, *]; done)); have hB1 : Hid (Below w.heap.size w w1) := Below.step ((Below.refl _ _).alloc (Nat.le_refl _) _) hb1; clear hb1))
  refine bodyPost_ret (v := .agg #[.int .i64 o, .int .i64 rn, .string ⟨#[]⟩, .bool false, .string ⟨#[]⟩, .string ⟨#[]⟩, .string ⟨#[]⟩]) (by simp [results, Tryz.results13, go_sem, *]) rfl ⟨rfl, ?_⟩
  exact (((((((hB1.out).setCell (Nat.le_refl _) _).setCell (Nat.le_refl _) _).setCell (Nat.le_refl _) _).setCell (Nat.le_refl _) _).setCell (Nat.le_refl _) _).setCell (Nat.le_refl _) _).setCell (Nat.le_refl _) _

set_option maxRecDepth 100000 in
set_option maxHeartbeats 2000000 in
theorem readOp_4 (o : Int) (hk : opdI o = 4) (x : ByteArray) (w : World) : Calls Tryz.prog 13 #[.int .i64 o, .string x] w fun e w' => e = .returned (insV (rdI o x.data.toList)) ∧ Below w.heap.size w w' := by
  have HO := operand_any o
  rw [hk] at HO
  have HO : Hid (∀ w, _) := HO
  have HR : insV (rdI o x.data.toList) = .agg #[.int .i64 o, .int .i64 0, .string ⟨x.data.toList.toArray⟩, .bool false, .string ⟨#[]⟩, .string ⟨#[]⟩, .string ⟨#[]⟩] := by rw [rdI, if_neg (by omega), if_pos (by omega)]; rfl
  rw [HR]
  clear HR hk
  have hxx : (⟨x.data.toList.toArray⟩ : ByteArray) = x := by apply bytes_ext; simp
  rw [hxx]
  clear hxx
  go_enter Tryz.func13, Tryz.ntmps13
  go_wp2_with (first
    | (go_at_call 26; refine ((HO.out) _).mono ?_; rintro e w0 ⟨rfl, hw0⟩; rw [hw0]; clear hw0 HO))
  refine bodyPost_ret (v := .agg #[.int .i64 o, .int .i64 0, .string x, .bool false, .string ⟨#[]⟩, .string ⟨#[]⟩, .string ⟨#[]⟩]) (by simp [results, Tryz.results13, go_sem, *]) rfl ⟨rfl, ?_⟩
  exact ((Below.refl _ _).alloc (Nat.le_refl _) _)

set_option maxRecDepth 100000 in
set_option maxHeartbeats 2000000 in
theorem readOp_5 (o : Int) (hk : opdI o = 5) (x : ByteArray) (w : World) : Calls Tryz.prog 13 #[.int .i64 o, .string x] w fun e w' => e = .returned (insV (rdI o x.data.toList)) ∧ Below w.heap.size w w' := by
  have HO := operand_any o
  rw [hk] at HO
  have HO : Hid (∀ w, _) := HO
  have HR : insV (rdI o x.data.toList) = .agg #[.int .i64 o, .int .i64 0, .string ⟨x.data.toList.toArray⟩, .bool false, .string ⟨#[]⟩, .string ⟨#[]⟩, .string ⟨#[]⟩] := by rw [rdI, if_neg (by omega), if_pos (by omega)]; rfl
  rw [HR]
  clear HR hk
  have hxx : (⟨x.data.toList.toArray⟩ : ByteArray) = x := by apply bytes_ext; simp
  rw [hxx]
  clear hxx
  go_enter Tryz.func13, Tryz.ntmps13
  go_wp2_with (first
    | (go_at_call 26; refine ((HO.out) _).mono ?_; rintro e w0 ⟨rfl, hw0⟩; rw [hw0]; clear hw0 HO))
  refine bodyPost_ret (v := .agg #[.int .i64 o, .int .i64 0, .string x, .bool false, .string ⟨#[]⟩, .string ⟨#[]⟩, .string ⟨#[]⟩]) (by simp [results, Tryz.results13, go_sem, *]) rfl ⟨rfl, ?_⟩
  exact ((Below.refl _ _).alloc (Nat.le_refl _) _)

set_option maxRecDepth 100000 in
set_option maxHeartbeats 2000000 in
theorem readOp_6 (o : Int) (hk : opdI o = 6) (x : ByteArray) (w : World) : Calls Tryz.prog 13 #[.int .i64 o, .string x] w fun e w' => e = .returned (insV (rdI o x.data.toList)) ∧ Below w.heap.size w w' := by
  have HO := operand_any o
  rw [hk] at HO
  have HO : Hid (∀ w, _) := HO
  have HR : insV (rdI o x.data.toList) = .agg #[.int .i64 o, .int .i64 0, .string ⟨x.data.toList.toArray⟩, .bool false, .string ⟨#[]⟩, .string ⟨#[]⟩, .string ⟨#[]⟩] := by rw [rdI, if_neg (by omega), if_pos (by omega)]; rfl
  rw [HR]
  clear HR hk
  have hxx : (⟨x.data.toList.toArray⟩ : ByteArray) = x := by apply bytes_ext; simp
  rw [hxx]
  clear hxx
  go_enter Tryz.func13, Tryz.ntmps13
  go_wp2_with (first
    | (go_at_call 26; refine ((HO.out) _).mono ?_; rintro e w0 ⟨rfl, hw0⟩; rw [hw0]; clear hw0 HO))
  refine bodyPost_ret (v := .agg #[.int .i64 o, .int .i64 0, .string x, .bool false, .string ⟨#[]⟩, .string ⟨#[]⟩, .string ⟨#[]⟩]) (by simp [results, Tryz.results13, go_sem, *]) rfl ⟨rfl, ?_⟩
  exact ((Below.refl _ _).alloc (Nat.le_refl _) _)

set_option maxRecDepth 100000 in
set_option maxHeartbeats 2000000 in
theorem readOp_7 (o : Int) (hk : opdI o = 7) (x : ByteArray) (w : World) (hs : x.size ≤ 140737488351232) (hE : EIn w) : Calls Tryz.prog 13 #[.int .i64 o, .string x] w fun e w' => e = .returned (insV (rdI o x.data.toList)) ∧ Below w.heap.size w w' := by
  have HO := operand_any o
  rw [hk] at HO
  have HO : Hid (∀ w, _) := HO
  have HR : insV (rdI o x.data.toList) = .agg #[.int .i64 o, .int .i64 (rdN (cutA x.data.toList)), .string ⟨(cutB x.data.toList).toArray⟩, .bool false, .string ⟨#[]⟩, .string ⟨#[]⟩, .string ⟨#[]⟩] := by rw [rdI, if_neg (by omega), if_neg (by omega), if_pos hk]; rfl
  rw [HR]
  clear HR hk
  obtain ⟨q, HQ⟩ := cut_any x (by unfold maxLen; omega)
  have HQ : Hid (∀ w : World, _) := HQ
  have hsA : (⟨(cutA x.data.toList).toArray⟩ : ByteArray).size ≤ 140737488351232 := Nat.le_trans (piece_size x _ (cutA_len _)) hs
  have HX : Hid (∀ w, EIn w → Calls Tryz.prog 29 #[.string ⟨(cutA x.data.toList).toArray⟩] w fun e w' => e = .returned (.int .i64 (rdN (cutA x.data.toList))) ∧ Below w.heap.size w w') := fun w h => readNumber_any ⟨(cutA x.data.toList).toArray⟩ hsA w h
  have HE : Hid (∀ w', Below w.heap.size w w' → EIn w') := fun w' h => hE.keep h
  clear hE hs hsA
  generalize rdN (cutA x.data.toList) = rn at *
  generalize (⟨(cutA x.data.toList).toArray⟩ : ByteArray) = A at *
  generalize (⟨(cutB x.data.toList).toArray⟩ : ByteArray) = B at *
  go_enter Tryz.func13, Tryz.ntmps13
  go_wp2_with (first
    | (go_at_call 26; refine ((HO.out) _).mono ?_; rintro e w0 ⟨rfl, hw0⟩; rw [hw0]; clear hw0 HO)
    | (go_at_call 12; refine ((HQ.out) _).mono ?_; rintro e w1 ⟨rfl, hb1⟩; have hs1 : w.heap.size < w1.heap.size := (by have := hb1.size; simp at this; omega); have hz10 : w1.cell? ⟨w.heap.size, 0, none⟩ = some (.int .i64 0) := (hb1.cell (p := ⟨w.heap.size, 0, none⟩) (by first | (simp; done) | (simp; omega))).trans (by first | assumption | (simp [go_sem, *]; done)); have hf10 : w1.frozen? ⟨w.heap.size, 0, none⟩ = false := (hb1.frozen (p := ⟨w.heap.size, 0, none⟩) (by first | (simp; done) | (simp; omega))).trans (by first | assumption | (simp [go_sem, *]; done)); have hz11 : w1.cell? ⟨w.heap.size, 1, none⟩ = some (.int .i64 0) := (hb1.cell (p := ⟨w.heap.size, 1, none⟩) (by first | (simp; done) | (simp; omega))).trans (by first | assumption | (simp [go_sem, *]; done)); have hf11 : w1.frozen? ⟨w.heap.size, 1, none⟩ = false := (hb1.frozen (p := ⟨w.heap.size, 1, none⟩) (by first | (simp; done) | (simp; omega))).trans (by first | assumption | (simp [go_sem, *]; done)); have hz12 : w1.cell? ⟨w.heap.size, 2, none⟩ = some (.string ⟨#[]⟩) := (hb1.cell (p := ⟨w.heap.size, 2, none⟩) (by first | (simp; done) | (simp; omega))).trans (by first | assumption | (simp [go_sem, *]; done)); have hf12 : w1.frozen? ⟨w.heap.size, 2, none⟩ = false := (hb1.frozen (p := ⟨w.heap.size, 2, none⟩) (by first | (simp; done) | (simp; omega))).trans (by first | assumption | (simp [go_sem, *]; done)); have hz13 : w1.cell? ⟨w.heap.size, 3, none⟩ = some (.bool false) := (hb1.cell (p := ⟨w.heap.size, 3, none⟩) (by first | (simp; done) | (simp; omega))).trans (by first | assumption | (simp [go_sem, *]; done)); have hf13 : w1.frozen? ⟨w.heap.size, 3, none⟩ = false := (hb1.frozen (p := ⟨w.heap.size, 3, none⟩) (by first | (simp; done) | (simp; omega))).trans (by first | assumption | (simp [go_sem, *]; done)); have hz14 : w1.cell? ⟨w.heap.size, 4, none⟩ = some (.string ⟨#[]⟩) := (hb1.cell (p := ⟨w.heap.size, 4, none⟩) (by first | (simp; done) | (simp; omega))).trans (by first | assumption | (simp [go_sem, *]; done)); have hf14 : w1.frozen? ⟨w.heap.size, 4, none⟩ = false := (hb1.frozen (p := ⟨w.heap.size, 4, none⟩) (by first | (simp; done) | (simp; omega))).trans (by first | assumption | (simp [go_sem, *]; done)); have hz15 : w1.cell? ⟨w.heap.size, 5, none⟩ = some (.string ⟨#[]⟩) := (hb1.cell (p := ⟨w.heap.size, 5, none⟩) (by first | (simp; done) | (simp; omega))).trans (by first | assumption | (simp [go_sem, *]; done)); have hf15 : w1.frozen? ⟨w.heap.size, 5, none⟩ = false := (hb1.frozen (p := ⟨w.heap.size, 5, none⟩) (by first | (simp; done) | (simp; omega))).trans (by first | assumption | (simp [go_sem, *]; done)); have hz16 : w1.cell? ⟨w.heap.size, 6, none⟩ = some (.string ⟨#[]⟩) := (hb1.cell (p := ⟨w.heap.size, 6, none⟩) (by first | (simp; done) | (simp; omega))).trans (by first | assumption | (simp [go_sem, *]; done)); have hf16 : w1.frozen? ⟨w.heap.size, 6, none⟩ = false := (hb1.frozen (p := ⟨w.heap.size, 6, none⟩) (by first | (simp; done) | (simp; omega))).trans (by first | assumption | (simp [go_sem, *]; done)); have hB1 : Hid (Below w.heap.size w w1) := Below.step ((Below.refl _ _).alloc (Nat.le_refl _) _) hb1; clear hb1)
    | (go_at_call 29; refine ((HX.out) _ (HE.out _ hB1.out)).mono ?_; rintro e w2 ⟨rfl, hb2⟩; have hs2 : w.heap.size < w2.heap.size := Nat.lt_of_lt_of_le hs1 hb2.size; have hz20 : w2.cell? ⟨w.heap.size, 0, none⟩ = some (.int .i64 0) := (hb2.cell (p := ⟨w.heap.size, 0, none⟩) (by first | (simp; done) | (simp; omega))).trans (by first | assumption | (simp [go_sem, *]; done)); have hf20 : w2.frozen? ⟨w.heap.size, 0, none⟩ = false := (hb2.frozen (p := ⟨w.heap.size, 0, none⟩) (by first | (simp; done) | (simp; omega))).trans (by first | assumption | (simp [go_sem, *]; done)); have hz21 : w2.cell? ⟨w.heap.size, 1, none⟩ = some (.int .i64 0) := (hb2.cell (p := ⟨w.heap.size, 1, none⟩) (by first | (simp; done) | (simp; omega))).trans (by first | assumption | (simp [go_sem, *]; done)); have hf21 : w2.frozen? ⟨w.heap.size, 1, none⟩ = false := (hb2.frozen (p := ⟨w.heap.size, 1, none⟩) (by first | (simp; done) | (simp; omega))).trans (by first | assumption | (simp [go_sem, *]; done)); have hz22 : w2.cell? ⟨w.heap.size, 2, none⟩ = some (.string ⟨#[]⟩) := (hb2.cell (p := ⟨w.heap.size, 2, none⟩) (by first | (simp; done) | (simp; omega))).trans (by first | assumption | (simp [go_sem, *]; done)); have hf22 : w2.frozen? ⟨w.heap.size, 2, none⟩ = false := (hb2.frozen (p := ⟨w.heap.size, 2, none⟩) (by first | (simp; done) | (simp; omega))).trans (by first | assumption | (simp [go_sem, *]; done)); have hz23 : w2.cell? ⟨w.heap.size, 3, none⟩ = some (.bool false) := (hb2.cell (p := ⟨w.heap.size, 3, none⟩) (by first | (simp; done) | (simp; omega))).trans (by first | assumption | (simp [go_sem, *]; done)); have hf23 : w2.frozen? ⟨w.heap.size, 3, none⟩ = false := (hb2.frozen (p := ⟨w.heap.size, 3, none⟩) (by first | (simp; done) | (simp; omega))).trans (by first | assumption | (simp [go_sem, *]; done)); have hz24 : w2.cell? ⟨w.heap.size, 4, none⟩ = some (.string ⟨#[]⟩) := (hb2.cell (p := ⟨w.heap.size, 4, none⟩) (by first | (simp; done) | (simp; omega))).trans (by first | assumption | (simp [go_sem, *]; done)); have hf24 : w2.frozen? ⟨w.heap.size, 4, none⟩ = false := (hb2.frozen (p := ⟨w.heap.size, 4, none⟩) (by first | (simp; done) | (simp; omega))).trans (by first | assumption | (simp [go_sem, *]; done)); have hz25 : w2.cell? ⟨w.heap.size, 5, none⟩ = some (.string ⟨#[]⟩) := (hb2.cell (p := ⟨w.heap.size, 5, none⟩) (by first | (simp; done) | (simp; omega))).trans (by first | assumption | (simp [go_sem, *]; done)); have hf25 : w2.frozen? ⟨w.heap.size, 5, none⟩ = false := (hb2.frozen (p := ⟨w.heap.size, 5, none⟩) (by first | (simp; done) | (simp; omega))).trans (by first | assumption | (simp [go_sem, *]; done)); have hz26 : w2.cell? ⟨w.heap.size, 6, none⟩ = some (.string ⟨#[]⟩) := (hb2.cell (p := ⟨w.heap.size, 6, none⟩) (by first | (simp; done) | (simp; omega))).trans (by first | assumption | (simp [go_sem, *]; done)); have hf26 : w2.frozen? ⟨w.heap.size, 6, none⟩ = false := (hb2.frozen (p := ⟨w.heap.size, 6, none⟩) (by first | (simp; done) | (simp; omega))).trans (by first | assumption | (simp [go_sem, *]; done)); have hB2 : Hid (Below w.heap.size w w2) := hB1.out.trans (hb2.mono hB1.out.size); clear hb2))
  refine bodyPost_ret (v := .agg #[.int .i64 o, .int .i64 rn, .string B, .bool false, .string ⟨#[]⟩, .string ⟨#[]⟩, .string ⟨#[]⟩]) (by simp [results, Tryz.results13, go_sem, *]) rfl ⟨rfl, ?_⟩
  exact (((((((hB2.out).setCell (Nat.le_refl _) _).setCell (Nat.le_refl _) _).setCell (Nat.le_refl _) _).setCell (Nat.le_refl _) _).setCell (Nat.le_refl _) _).setCell (Nat.le_refl _) _).setCell (Nat.le_refl _) _

set_option maxRecDepth 100000 in
set_option maxHeartbeats 2000000 in
theorem readOp_8 (o : Int) (hk : opdI o = 8) (x : ByteArray) (w : World) (hs : x.size ≤ maxLen) : Calls Tryz.prog 13 #[.int .i64 o, .string x] w fun e w' => e = .returned (insV (rdI o x.data.toList)) ∧ Below w.heap.size w w' := by
  have HO := operand_any o
  rw [hk] at HO
  have HO : Hid (∀ w, _) := HO
  have HR : insV (rdI o x.data.toList) = .agg #[.int .i64 o, .int .i64 0, .string ⟨#[]⟩, .bool (rfOK x.data.toList && rfB x.data.toList), .string (if rfOK x.data.toList then ⟨(rfC x.data.toList).toArray⟩ else ⟨#[]⟩), .string (if rfOK x.data.toList then ⟨(rfN x.data.toList).toArray⟩ else ⟨#[]⟩), .string (if rfOK x.data.toList then ⟨(rfD x.data.toList).toArray⟩ else ⟨#[]⟩)] := by rw [rdI, if_neg (by omega), if_neg (by omega), if_neg (by omega), if_pos hk]; rfl
  rw [HR]
  clear HR hk
  have HX := parseRefText_any x hs
  unfold rfOut at HX
  have HX : Hid (∀ w : World, _) := HX
  clear hs
  generalize (rfOK x.data.toList && rfB x.data.toList) = qb at *
  generalize (if rfOK x.data.toList = true then (⟨(rfC x.data.toList).toArray⟩ : ByteArray) else ⟨#[]⟩) = C at *
  generalize (if rfOK x.data.toList = true then (⟨(rfN x.data.toList).toArray⟩ : ByteArray) else ⟨#[]⟩) = M at *
  generalize (if rfOK x.data.toList = true then (⟨(rfD x.data.toList).toArray⟩ : ByteArray) else ⟨#[]⟩) = D at *
  generalize (if rfOK x.data.toList = true then (0 : Int) else 4) = er at *
  go_enter Tryz.func13, Tryz.ntmps13
  go_wp2_with (first
    | (go_at_call 26; refine ((HO.out) _).mono ?_; rintro e w0 ⟨rfl, hw0⟩; rw [hw0]; clear hw0 HO)
    | (go_at_call 8; refine ((HX.out) _).mono ?_; rintro e w1 ⟨rfl, hb1⟩; have hs1 : w.heap.size < w1.heap.size := (by have := hb1.size; simp at this; omega); have hz10 : w1.cell? ⟨w.heap.size, 0, none⟩ = some (.int .i64 0) := (hb1.cell (p := ⟨w.heap.size, 0, none⟩) (by first | (simp; done) | (simp; omega))).trans (by first | assumption | (simp [go_sem, *]; done)); have hf10 : w1.frozen? ⟨w.heap.size, 0, none⟩ = false := (hb1.frozen (p := ⟨w.heap.size, 0, none⟩) (by first | (simp; done) | (simp; omega))).trans (by first | assumption | (simp [go_sem, *]; done)); have hz11 : w1.cell? ⟨w.heap.size, 1, none⟩ = some (.int .i64 0) := (hb1.cell (p := ⟨w.heap.size, 1, none⟩) (by first | (simp; done) | (simp; omega))).trans (by first | assumption | (simp [go_sem, *]; done)); have hf11 : w1.frozen? ⟨w.heap.size, 1, none⟩ = false := (hb1.frozen (p := ⟨w.heap.size, 1, none⟩) (by first | (simp; done) | (simp; omega))).trans (by first | assumption | (simp [go_sem, *]; done)); have hz12 : w1.cell? ⟨w.heap.size, 2, none⟩ = some (.string ⟨#[]⟩) := (hb1.cell (p := ⟨w.heap.size, 2, none⟩) (by first | (simp; done) | (simp; omega))).trans (by first | assumption | (simp [go_sem, *]; done)); have hf12 : w1.frozen? ⟨w.heap.size, 2, none⟩ = false := (hb1.frozen (p := ⟨w.heap.size, 2, none⟩) (by first | (simp; done) | (simp; omega))).trans (by first | assumption | (simp [go_sem, *]; done)); have hz13 : w1.cell? ⟨w.heap.size, 3, none⟩ = some (.bool false) := (hb1.cell (p := ⟨w.heap.size, 3, none⟩) (by first | (simp; done) | (simp; omega))).trans (by first | assumption | (simp [go_sem, *]; done)); have hf13 : w1.frozen? ⟨w.heap.size, 3, none⟩ = false := (hb1.frozen (p := ⟨w.heap.size, 3, none⟩) (by first | (simp; done) | (simp; omega))).trans (by first | assumption | (simp [go_sem, *]; done)); have hz14 : w1.cell? ⟨w.heap.size, 4, none⟩ = some (.string ⟨#[]⟩) := (hb1.cell (p := ⟨w.heap.size, 4, none⟩) (by first | (simp; done) | (simp; omega))).trans (by first | assumption | (simp [go_sem, *]; done)); have hf14 : w1.frozen? ⟨w.heap.size, 4, none⟩ = false := (hb1.frozen (p := ⟨w.heap.size, 4, none⟩) (by first | (simp; done) | (simp; omega))).trans (by first | assumption | (simp [go_sem, *]; done)); have hz15 : w1.cell? ⟨w.heap.size, 5, none⟩ = some (.string ⟨#[]⟩) := (hb1.cell (p := ⟨w.heap.size, 5, none⟩) (by first | (simp; done) | (simp; omega))).trans (by first | assumption | (simp [go_sem, *]; done)); have hf15 : w1.frozen? ⟨w.heap.size, 5, none⟩ = false := (hb1.frozen (p := ⟨w.heap.size, 5, none⟩) (by first | (simp; done) | (simp; omega))).trans (by first | assumption | (simp [go_sem, *]; done)); have hz16 : w1.cell? ⟨w.heap.size, 6, none⟩ = some (.string ⟨#[]⟩) := (hb1.cell (p := ⟨w.heap.size, 6, none⟩) (by first | (simp; done) | (simp; omega))).trans (by first | assumption | (simp [go_sem, *]; done)); have hf16 : w1.frozen? ⟨w.heap.size, 6, none⟩ = false := (hb1.frozen (p := ⟨w.heap.size, 6, none⟩) (by first | (simp; done) | (simp; omega))).trans (by first | assumption | (simp [go_sem, *]; done)); have hB1 : Hid (Below w.heap.size w w1) := Below.step ((Below.refl _ _).alloc (Nat.le_refl _) _) hb1; clear hb1; have hA : Below w1.heap.size w1 (w1.alloc (.cells #[.bool qb, .string C, .string M, .string D] 24)) := (Below.refl _ _).alloc (Nat.le_refl _) _; have hz40 : (w1.alloc (.cells #[.bool qb, .string C, .string M, .string D] 24)).cell? ⟨w.heap.size, 0, none⟩ = some (.int .i64 0) := (hA.cell (p := ⟨w.heap.size, 0, none⟩) (by first | (simp; done) | (simp; omega))).trans (by first | assumption | (simp [go_sem, *]; done)); have hf40 : (w1.alloc (.cells #[.bool qb, .string C, .string M, .string D] 24)).frozen? ⟨w.heap.size, 0, none⟩ = false := (hA.frozen (p := ⟨w.heap.size, 0, none⟩) (by first | (simp; done) | (simp; omega))).trans (by first | assumption | (simp [go_sem, *]; done)); have hz41 : (w1.alloc (.cells #[.bool qb, .string C, .string M, .string D] 24)).cell? ⟨w.heap.size, 1, none⟩ = some (.int .i64 0) := (hA.cell (p := ⟨w.heap.size, 1, none⟩) (by first | (simp; done) | (simp; omega))).trans (by first | assumption | (simp [go_sem, *]; done)); have hf41 : (w1.alloc (.cells #[.bool qb, .string C, .string M, .string D] 24)).frozen? ⟨w.heap.size, 1, none⟩ = false := (hA.frozen (p := ⟨w.heap.size, 1, none⟩) (by first | (simp; done) | (simp; omega))).trans (by first | assumption | (simp [go_sem, *]; done)); have hz42 : (w1.alloc (.cells #[.bool qb, .string C, .string M, .string D] 24)).cell? ⟨w.heap.size, 2, none⟩ = some (.string ⟨#[]⟩) := (hA.cell (p := ⟨w.heap.size, 2, none⟩) (by first | (simp; done) | (simp; omega))).trans (by first | assumption | (simp [go_sem, *]; done)); have hf42 : (w1.alloc (.cells #[.bool qb, .string C, .string M, .string D] 24)).frozen? ⟨w.heap.size, 2, none⟩ = false := (hA.frozen (p := ⟨w.heap.size, 2, none⟩) (by first | (simp; done) | (simp; omega))).trans (by first | assumption | (simp [go_sem, *]; done)); have hz43 : (w1.alloc (.cells #[.bool qb, .string C, .string M, .string D] 24)).cell? ⟨w.heap.size, 3, none⟩ = some (.bool false) := (hA.cell (p := ⟨w.heap.size, 3, none⟩) (by first | (simp; done) | (simp; omega))).trans (by first | assumption | (simp [go_sem, *]; done)); have hf43 : (w1.alloc (.cells #[.bool qb, .string C, .string M, .string D] 24)).frozen? ⟨w.heap.size, 3, none⟩ = false := (hA.frozen (p := ⟨w.heap.size, 3, none⟩) (by first | (simp; done) | (simp; omega))).trans (by first | assumption | (simp [go_sem, *]; done)); have hz44 : (w1.alloc (.cells #[.bool qb, .string C, .string M, .string D] 24)).cell? ⟨w.heap.size, 4, none⟩ = some (.string ⟨#[]⟩) := (hA.cell (p := ⟨w.heap.size, 4, none⟩) (by first | (simp; done) | (simp; omega))).trans (by first | assumption | (simp [go_sem, *]; done)); have hf44 : (w1.alloc (.cells #[.bool qb, .string C, .string M, .string D] 24)).frozen? ⟨w.heap.size, 4, none⟩ = false := (hA.frozen (p := ⟨w.heap.size, 4, none⟩) (by first | (simp; done) | (simp; omega))).trans (by first | assumption | (simp [go_sem, *]; done)); have hz45 : (w1.alloc (.cells #[.bool qb, .string C, .string M, .string D] 24)).cell? ⟨w.heap.size, 5, none⟩ = some (.string ⟨#[]⟩) := (hA.cell (p := ⟨w.heap.size, 5, none⟩) (by first | (simp; done) | (simp; omega))).trans (by first | assumption | (simp [go_sem, *]; done)); have hf45 : (w1.alloc (.cells #[.bool qb, .string C, .string M, .string D] 24)).frozen? ⟨w.heap.size, 5, none⟩ = false := (hA.frozen (p := ⟨w.heap.size, 5, none⟩) (by first | (simp; done) | (simp; omega))).trans (by first | assumption | (simp [go_sem, *]; done)); have hz46 : (w1.alloc (.cells #[.bool qb, .string C, .string M, .string D] 24)).cell? ⟨w.heap.size, 6, none⟩ = some (.string ⟨#[]⟩) := (hA.cell (p := ⟨w.heap.size, 6, none⟩) (by first | (simp; done) | (simp; omega))).trans (by first | assumption | (simp [go_sem, *]; done)); have hf46 : (w1.alloc (.cells #[.bool qb, .string C, .string M, .string D] 24)).frozen? ⟨w.heap.size, 6, none⟩ = false := (hA.frozen (p := ⟨w.heap.size, 6, none⟩) (by first | (simp; done) | (simp; omega))).trans (by first | assumption | (simp [go_sem, *]; done)); clear hA))
  refine bodyPost_ret (v := .agg #[.int .i64 o, .int .i64 0, .string ⟨#[]⟩, .bool qb, .string C, .string M, .string D]) (by simp [results, Tryz.results13, go_sem, *]) rfl ⟨rfl, ?_⟩
  exact (let h7 := (((((((hB1.out).setCell (Nat.le_refl _) _).setCell (Nat.le_refl _) _).setCell (Nat.le_refl _) _).setCell (Nat.le_refl _) _).setCell (Nat.le_refl _) _).setCell (Nat.le_refl _) _).setCell (Nat.le_refl _) _; h7.alloc h7.size _)

theorem readOp_any (o : Int) (x : ByteArray) (hs : x.size ≤ 140737488351232) (w : World) (hE : EIn w) : Calls Tryz.prog 13 #[.int .i64 o, .string x] w fun e w' => e = .returned (insV (rdI o x.data.toList)) ∧ Below w.heap.size w w' := by
  rcases opd_cases o with e | e | e | e | e | e | e | e | e | e
  · exact readOp_none o e x w
  · exact readOp_0 o e x w
  · exact readOp_1 o e x w hs hE
  · exact readOp_2 o e x w hs hE
  · exact readOp_3 o e x w hs hE
  · exact readOp_4 o e x w
  · exact readOp_5 o e x w
  · exact readOp_6 o e x w
  · exact readOp_7 o e x w hs hE
  · exact readOp_8 o e x w (by unfold maxLen; omega)

theorem rf_size (x : ByteArray) (p : Bool) (l : List UInt8) (h : l.length ≤ x.data.toList.length) (hx : x.size ≤ maxLen) : (if p = true then (⟨l.toArray⟩ : ByteArray) else ⟨#[]⟩).size ≤ maxLen := by
  cases p
  · show (⟨#[]⟩ : ByteArray).size ≤ maxLen; decide
  · exact Nat.le_trans (piece_size x l h) hx
/-- what is read is an instruction whose numbers are ints and whose texts are texts -/
theorem rdI_ok (o : Int) (x : ByteArray) (hx : x.size ≤ maxLen) : (-9223372036854775808 ≤ (rdI o x.data.toList).n ∧ (rdI o x.data.toList).n ≤ 9223372036854775807) ∧ InsOK (rdI o x.data.toList) := by
  have hz : (⟨#[]⟩ : ByteArray).size ≤ maxLen := by decide
  unfold rdI
  split
  · exact ⟨rdN_bounds _, hz, hz, hz, hz⟩
  · split
    · exact ⟨⟨by simp only; omega, by simp only; omega⟩, Nat.le_trans (piece_size x _ (Nat.le_refl _)) hx, hz, hz, hz⟩
    · split
      · exact ⟨rdN_bounds _, Nat.le_trans (piece_size x _ (cutB_len _)) hx, hz, hz, hz⟩
      · split
        · refine ⟨⟨by simp only; omega, by simp only; omega⟩, hz, rf_size x _ _ ?_ hx, rf_size x _ _ ?_ hx, rf_size x _ _ ?_ hx⟩
          · unfold rfC; rw [List.length_take]; omega
          · unfold rfN; rw [List.length_take, List.length_drop]; omega
          · unfold rfD; rw [List.length_drop]; omega
        · exact ⟨⟨by simp only; omega, by simp only; omega⟩, hz, hz, hz, hz⟩


set_option maxRecDepth 100000 in
set_option maxHeartbeats 4000000 in
theorem parse_yes (s A B P : ByteArray) (q : Bool) (op : Nat) (io iN : Int) (it : ByteArray) (ib : Bool) (ic im id : ByteArray) (hcmp : (P.toList == s.toList) = true) (w : World)
    (HQ : ∀ w' : World, Calls Tryz.prog 12 #[.string s, .string ⟨#[32]⟩] w' fun e w'' => e = .returned (.tuple #[.string A, .string B, .bool q]) ∧ Below w'.heap.size w' w'')
    (HO : ∀ w', Below w.heap.size w w' → Calls Tryz.prog 14 #[.string A] w' fun e w'' => e = .returned (.int .i64 (op : Int)) ∧ w'' = w')
    (HR : ∀ w', Below w.heap.size w w' → Calls Tryz.prog 13 #[.int .i64 (op : Int), .string B] w' fun e w'' => e = .returned (.agg #[.int .i64 io, .int .i64 iN, .string it, .bool ib, .string ic, .string im, .string id]) ∧ Below w'.heap.size w' w'')
    (HP : ∀ w', Below w.heap.size w w' → Calls Tryz.prog 11 #[.agg #[.int .i64 io, .int .i64 iN, .string it, .bool ib, .string ic, .string im, .string id]] w' fun e w'' => e = .returned (.tuple #[.string P, .int .i64 0]) ∧ Below w'.heap.size w' w'') :
    Calls Tryz.prog 5 #[.string s] w fun e w' => e = .returned (.tuple #[.agg #[.int .i64 io, .int .i64 iN, .string it, .bool ib, .string ic, .string im, .string id], .int .i64 0]) ∧ Below w.heap.size w w' := by
  have HQ : Hid (∀ w' : World, _) := HQ
  have HO : Hid (∀ w' : World, _ → _) := HO
  have HR : Hid (∀ w' : World, _ → _) := HR
  have HP : Hid (∀ w' : World, _ → _) := HP
  have hne : (P.toList != s.toList) = !true := by rw [bne, hcmp]
  go_enter Tryz.func5, Tryz.ntmps5
  go_wp2_with (first
    | (go_at_call 12; refine (HQ.out _).mono ?_; rintro e w1 ⟨rfl, hb1⟩; have hs1 : w.heap.size < w1.heap.size := (by have := hb1.size; simp at this; omega); have hz10 : w1.cell? ⟨w.heap.size, 0, none⟩ = some (.int .i64 0) := (hb1.cell (p := ⟨w.heap.size, 0, none⟩) (by first | (simp; done) | (simp; omega))).trans (by first | assumption | (simp [go_sem, *]; done)); have hf10 : w1.frozen? ⟨w.heap.size, 0, none⟩ = false := (hb1.frozen (p := ⟨w.heap.size, 0, none⟩) (by first | (simp; done) | (simp; omega))).trans (by first | assumption | (simp [go_sem, *]; done)); have hz11 : w1.cell? ⟨w.heap.size, 1, none⟩ = some (.int .i64 0) := (hb1.cell (p := ⟨w.heap.size, 1, none⟩) (by first | (simp; done) | (simp; omega))).trans (by first | assumption | (simp [go_sem, *]; done)); have hf11 : w1.frozen? ⟨w.heap.size, 1, none⟩ = false := (hb1.frozen (p := ⟨w.heap.size, 1, none⟩) (by first | (simp; done) | (simp; omega))).trans (by first | assumption | (simp [go_sem, *]; done)); have hz12 : w1.cell? ⟨w.heap.size, 2, none⟩ = some (.string ⟨#[]⟩) := (hb1.cell (p := ⟨w.heap.size, 2, none⟩) (by first | (simp; done) | (simp; omega))).trans (by first | assumption | (simp [go_sem, *]; done)); have hf12 : w1.frozen? ⟨w.heap.size, 2, none⟩ = false := (hb1.frozen (p := ⟨w.heap.size, 2, none⟩) (by first | (simp; done) | (simp; omega))).trans (by first | assumption | (simp [go_sem, *]; done)); have hz13 : w1.cell? ⟨w.heap.size, 3, none⟩ = some (.bool false) := (hb1.cell (p := ⟨w.heap.size, 3, none⟩) (by first | (simp; done) | (simp; omega))).trans (by first | assumption | (simp [go_sem, *]; done)); have hf13 : w1.frozen? ⟨w.heap.size, 3, none⟩ = false := (hb1.frozen (p := ⟨w.heap.size, 3, none⟩) (by first | (simp; done) | (simp; omega))).trans (by first | assumption | (simp [go_sem, *]; done)); have hz14 : w1.cell? ⟨w.heap.size, 4, none⟩ = some (.string ⟨#[]⟩) := (hb1.cell (p := ⟨w.heap.size, 4, none⟩) (by first | (simp; done) | (simp; omega))).trans (by first | assumption | (simp [go_sem, *]; done)); have hf14 : w1.frozen? ⟨w.heap.size, 4, none⟩ = false := (hb1.frozen (p := ⟨w.heap.size, 4, none⟩) (by first | (simp; done) | (simp; omega))).trans (by first | assumption | (simp [go_sem, *]; done)); have hz15 : w1.cell? ⟨w.heap.size, 5, none⟩ = some (.string ⟨#[]⟩) := (hb1.cell (p := ⟨w.heap.size, 5, none⟩) (by first | (simp; done) | (simp; omega))).trans (by first | assumption | (simp [go_sem, *]; done)); have hf15 : w1.frozen? ⟨w.heap.size, 5, none⟩ = false := (hb1.frozen (p := ⟨w.heap.size, 5, none⟩) (by first | (simp; done) | (simp; omega))).trans (by first | assumption | (simp [go_sem, *]; done)); have hz16 : w1.cell? ⟨w.heap.size, 6, none⟩ = some (.string ⟨#[]⟩) := (hb1.cell (p := ⟨w.heap.size, 6, none⟩) (by first | (simp; done) | (simp; omega))).trans (by first | assumption | (simp [go_sem, *]; done)); have hf16 : w1.frozen? ⟨w.heap.size, 6, none⟩ = false := (hb1.frozen (p := ⟨w.heap.size, 6, none⟩) (by first | (simp; done) | (simp; omega))).trans (by first | assumption | (simp [go_sem, *]; done)); have hB1 : Hid (Below w.heap.size w w1) := Below.step ((Below.refl _ _).alloc (Nat.le_refl _) _) hb1; clear hb1 HQ)
    | (go_at_call 14; refine (HO.out _ hB1.out).mono ?_; rintro e w9 ⟨rfl, hw9⟩; rw [hw9]; clear hw9 HO)
    | (go_at_call 13; refine (HR.out _ hB1.out).mono ?_; rintro e w2 ⟨rfl, hb2⟩; have hs2 : w.heap.size < w2.heap.size := Nat.lt_of_lt_of_le hs1 hb2.size; have hz20 : w2.cell? ⟨w.heap.size, 0, none⟩ = some (.int .i64 0) := (hb2.cell (p := ⟨w.heap.size, 0, none⟩) (by first | (simp; done) | (simp; omega))).trans (by first | assumption | (simp [go_sem, *]; done)); have hf20 : w2.frozen? ⟨w.heap.size, 0, none⟩ = false := (hb2.frozen (p := ⟨w.heap.size, 0, none⟩) (by first | (simp; done) | (simp; omega))).trans (by first | assumption | (simp [go_sem, *]; done)); have hz21 : w2.cell? ⟨w.heap.size, 1, none⟩ = some (.int .i64 0) := (hb2.cell (p := ⟨w.heap.size, 1, none⟩) (by first | (simp; done) | (simp; omega))).trans (by first | assumption | (simp [go_sem, *]; done)); have hf21 : w2.frozen? ⟨w.heap.size, 1, none⟩ = false := (hb2.frozen (p := ⟨w.heap.size, 1, none⟩) (by first | (simp; done) | (simp; omega))).trans (by first | assumption | (simp [go_sem, *]; done)); have hz22 : w2.cell? ⟨w.heap.size, 2, none⟩ = some (.string ⟨#[]⟩) := (hb2.cell (p := ⟨w.heap.size, 2, none⟩) (by first | (simp; done) | (simp; omega))).trans (by first | assumption | (simp [go_sem, *]; done)); have hf22 : w2.frozen? ⟨w.heap.size, 2, none⟩ = false := (hb2.frozen (p := ⟨w.heap.size, 2, none⟩) (by first | (simp; done) | (simp; omega))).trans (by first | assumption | (simp [go_sem, *]; done)); have hz23 : w2.cell? ⟨w.heap.size, 3, none⟩ = some (.bool false) := (hb2.cell (p := ⟨w.heap.size, 3, none⟩) (by first | (simp; done) | (simp; omega))).trans (by first | assumption | (simp [go_sem, *]; done)); have hf23 : w2.frozen? ⟨w.heap.size, 3, none⟩ = false := (hb2.frozen (p := ⟨w.heap.size, 3, none⟩) (by first | (simp; done) | (simp; omega))).trans (by first | assumption | (simp [go_sem, *]; done)); have hz24 : w2.cell? ⟨w.heap.size, 4, none⟩ = some (.string ⟨#[]⟩) := (hb2.cell (p := ⟨w.heap.size, 4, none⟩) (by first | (simp; done) | (simp; omega))).trans (by first | assumption | (simp [go_sem, *]; done)); have hf24 : w2.frozen? ⟨w.heap.size, 4, none⟩ = false := (hb2.frozen (p := ⟨w.heap.size, 4, none⟩) (by first | (simp; done) | (simp; omega))).trans (by first | assumption | (simp [go_sem, *]; done)); have hz25 : w2.cell? ⟨w.heap.size, 5, none⟩ = some (.string ⟨#[]⟩) := (hb2.cell (p := ⟨w.heap.size, 5, none⟩) (by first | (simp; done) | (simp; omega))).trans (by first | assumption | (simp [go_sem, *]; done)); have hf25 : w2.frozen? ⟨w.heap.size, 5, none⟩ = false := (hb2.frozen (p := ⟨w.heap.size, 5, none⟩) (by first | (simp; done) | (simp; omega))).trans (by first | assumption | (simp [go_sem, *]; done)); have hz26 : w2.cell? ⟨w.heap.size, 6, none⟩ = some (.string ⟨#[]⟩) := (hb2.cell (p := ⟨w.heap.size, 6, none⟩) (by first | (simp; done) | (simp; omega))).trans (by first | assumption | (simp [go_sem, *]; done)); have hf26 : w2.frozen? ⟨w.heap.size, 6, none⟩ = false := (hb2.frozen (p := ⟨w.heap.size, 6, none⟩) (by first | (simp; done) | (simp; omega))).trans (by first | assumption | (simp [go_sem, *]; done)); have hB2 : Hid (Below w.heap.size w w2) := hB1.out.trans (hb2.mono hB1.out.size); clear hb2 HR)
    | (go_at_call 11; refine (HP.out _ (hB2.out.alloc hB2.out.size _)).mono ?_; rintro e w3 ⟨rfl, hb3⟩; have hr0 : w3.cell? ⟨w2.heap.size, 0, none⟩ = some (.int .i64 io) := (hb3.cell (p := ⟨w2.heap.size, 0, none⟩) (by simp)).trans (by simp [go_sem, *]); have hr1 : w3.cell? ⟨w2.heap.size, 1, none⟩ = some (.int .i64 iN) := (hb3.cell (p := ⟨w2.heap.size, 1, none⟩) (by simp)).trans (by simp [go_sem, *]); have hr2 : w3.cell? ⟨w2.heap.size, 2, none⟩ = some (.string it) := (hb3.cell (p := ⟨w2.heap.size, 2, none⟩) (by simp)).trans (by simp [go_sem, *]); have hr3 : w3.cell? ⟨w2.heap.size, 3, none⟩ = some (.bool ib) := (hb3.cell (p := ⟨w2.heap.size, 3, none⟩) (by simp)).trans (by simp [go_sem, *]); have hr4 : w3.cell? ⟨w2.heap.size, 4, none⟩ = some (.string ic) := (hb3.cell (p := ⟨w2.heap.size, 4, none⟩) (by simp)).trans (by simp [go_sem, *]); have hr5 : w3.cell? ⟨w2.heap.size, 5, none⟩ = some (.string im) := (hb3.cell (p := ⟨w2.heap.size, 5, none⟩) (by simp)).trans (by simp [go_sem, *]); have hr6 : w3.cell? ⟨w2.heap.size, 6, none⟩ = some (.string id) := (hb3.cell (p := ⟨w2.heap.size, 6, none⟩) (by simp)).trans (by simp [go_sem, *]); have hs3 : w.heap.size < w3.heap.size := (by have := hb3.size; simp at this; omega); have hz30 : w3.cell? ⟨w.heap.size, 0, none⟩ = some (.int .i64 0) := (hb3.cell (p := ⟨w.heap.size, 0, none⟩) (by first | (simp; done) | (simp; omega))).trans (by first | assumption | (simp [go_sem, *]; done)); have hf30 : w3.frozen? ⟨w.heap.size, 0, none⟩ = false := (hb3.frozen (p := ⟨w.heap.size, 0, none⟩) (by first | (simp; done) | (simp; omega))).trans (by first | assumption | (simp [go_sem, *]; done)); have hz31 : w3.cell? ⟨w.heap.size, 1, none⟩ = some (.int .i64 0) := (hb3.cell (p := ⟨w.heap.size, 1, none⟩) (by first | (simp; done) | (simp; omega))).trans (by first | assumption | (simp [go_sem, *]; done)); have hf31 : w3.frozen? ⟨w.heap.size, 1, none⟩ = false := (hb3.frozen (p := ⟨w.heap.size, 1, none⟩) (by first | (simp; done) | (simp; omega))).trans (by first | assumption | (simp [go_sem, *]; done)); have hz32 : w3.cell? ⟨w.heap.size, 2, none⟩ = some (.string ⟨#[]⟩) := (hb3.cell (p := ⟨w.heap.size, 2, none⟩) (by first | (simp; done) | (simp; omega))).trans (by first | assumption | (simp [go_sem, *]; done)); have hf32 : w3.frozen? ⟨w.heap.size, 2, none⟩ = false := (hb3.frozen (p := ⟨w.heap.size, 2, none⟩) (by first | (simp; done) | (simp; omega))).trans (by first | assumption | (simp [go_sem, *]; done)); have hz33 : w3.cell? ⟨w.heap.size, 3, none⟩ = some (.bool false) := (hb3.cell (p := ⟨w.heap.size, 3, none⟩) (by first | (simp; done) | (simp; omega))).trans (by first | assumption | (simp [go_sem, *]; done)); have hf33 : w3.frozen? ⟨w.heap.size, 3, none⟩ = false := (hb3.frozen (p := ⟨w.heap.size, 3, none⟩) (by first | (simp; done) | (simp; omega))).trans (by first | assumption | (simp [go_sem, *]; done)); have hz34 : w3.cell? ⟨w.heap.size, 4, none⟩ = some (.string ⟨#[]⟩) := (hb3.cell (p := ⟨w.heap.size, 4, none⟩) (by first | (simp; done) | (simp; omega))).trans (by first | assumption | (simp [go_sem, *]; done)); have hf34 : w3.frozen? ⟨w.heap.size, 4, none⟩ = false := (hb3.frozen (p := ⟨w.heap.size, 4, none⟩) (by first | (simp; done) | (simp; omega))).trans (by first | assumption | (simp [go_sem, *]; done)); have hz35 : w3.cell? ⟨w.heap.size, 5, none⟩ = some (.string ⟨#[]⟩) := (hb3.cell (p := ⟨w.heap.size, 5, none⟩) (by first | (simp; done) | (simp; omega))).trans (by first | assumption | (simp [go_sem, *]; done)); have hf35 : w3.frozen? ⟨w.heap.size, 5, none⟩ = false := (hb3.frozen (p := ⟨w.heap.size, 5, none⟩) (by first | (simp; done) | (simp; omega))).trans (by first | assumption | (simp [go_sem, *]; done)); have hz36 : w3.cell? ⟨w.heap.size, 6, none⟩ = some (.string ⟨#[]⟩) := (hb3.cell (p := ⟨w.heap.size, 6, none⟩) (by first | (simp; done) | (simp; omega))).trans (by first | assumption | (simp [go_sem, *]; done)); have hf36 : w3.frozen? ⟨w.heap.size, 6, none⟩ = false := (hb3.frozen (p := ⟨w.heap.size, 6, none⟩) (by first | (simp; done) | (simp; omega))).trans (by first | assumption | (simp [go_sem, *]; done)); have hB3 : Hid (Below w.heap.size w w3) := Below.step (hB2.out.alloc hB2.out.size _) hb3; clear hb3 HP))
  refine bodyPost_ret (v := .tuple #[.agg #[.int .i64 io, .int .i64 iN, .string it, .bool ib, .string ic, .string im, .string id], .int .i64 0]) (by simp [results, Tryz.results5, go_sem, *]) rfl ⟨rfl, ?_⟩
  exact (((((((hB3.out).setCell (Nat.le_refl _) _).setCell (Nat.le_refl _) _).setCell (Nat.le_refl _) _).setCell (Nat.le_refl _) _).setCell (Nat.le_refl _) _).setCell (Nat.le_refl _) _).setCell (Nat.le_refl _) _

set_option maxRecDepth 100000 in
set_option maxHeartbeats 4000000 in
theorem parse_other (s A B P : ByteArray) (q : Bool) (op : Nat) (io iN : Int) (it : ByteArray) (ib : Bool) (ic im id : ByteArray) (hcmp : (P.toList == s.toList) = false) (w : World)
    (HQ : ∀ w' : World, Calls Tryz.prog 12 #[.string s, .string ⟨#[32]⟩] w' fun e w'' => e = .returned (.tuple #[.string A, .string B, .bool q]) ∧ Below w'.heap.size w' w'')
    (HO : ∀ w', Below w.heap.size w w' → Calls Tryz.prog 14 #[.string A] w' fun e w'' => e = .returned (.int .i64 (op : Int)) ∧ w'' = w')
    (HR : ∀ w', Below w.heap.size w w' → Calls Tryz.prog 13 #[.int .i64 (op : Int), .string B] w' fun e w'' => e = .returned (.agg #[.int .i64 io, .int .i64 iN, .string it, .bool ib, .string ic, .string im, .string id]) ∧ Below w'.heap.size w' w'')
    (HP : ∀ w', Below w.heap.size w w' → Calls Tryz.prog 11 #[.agg #[.int .i64 io, .int .i64 iN, .string it, .bool ib, .string ic, .string im, .string id]] w' fun e w'' => e = .returned (.tuple #[.string P, .int .i64 0]) ∧ Below w'.heap.size w' w'') :
    Calls Tryz.prog 5 #[.string s] w fun e w' => e = .returned (.tuple #[.agg #[.int .i64 0, .int .i64 0, .string ⟨#[]⟩, .bool false, .string ⟨#[]⟩, .string ⟨#[]⟩, .string ⟨#[]⟩], .int .i64 4]) ∧ Below w.heap.size w w' := by
  have HQ : Hid (∀ w' : World, _) := HQ
  have HO : Hid (∀ w' : World, _ → _) := HO
  have HR : Hid (∀ w' : World, _ → _) := HR
  have HP : Hid (∀ w' : World, _ → _) := HP
  have hne : (P.toList != s.toList) = !false := by rw [bne, hcmp]
  go_enter Tryz.func5, Tryz.ntmps5
  go_wp2_with (first
    | (go_at_call 12; refine (HQ.out _).mono ?_; rintro e w1 ⟨rfl, hb1⟩; have hs1 : w.heap.size < w1.heap.size := (by have := hb1.size; simp at this; omega); have hz10 : w1.cell? ⟨w.heap.size, 0, none⟩ = some (.int .i64 0) := (hb1.cell (p := ⟨w.heap.size, 0, none⟩) (by first | (simp; done) | (simp; omega))).trans (by first | assumption | (simp [go_sem, *]; done)); have hf10 : w1.frozen? ⟨w.heap.size, 0, none⟩ = false := (hb1.frozen (p := ⟨w.heap.size, 0, none⟩) (by first | (simp; done) | (simp; omega))).trans (by first | assumption | (simp [go_sem, *]; done)); have hz11 : w1.cell? ⟨w.heap.size, 1, none⟩ = some (.int .i64 0) := (hb1.cell (p := ⟨w.heap.size, 1, none⟩) (by first | (simp; done) | (simp; omega))).trans (by first | assumption | (simp [go_sem, *]; done)); have hf11 : w1.frozen? ⟨w.heap.size, 1, none⟩ = false := (hb1.frozen (p := ⟨w.heap.size, 1, none⟩) (by first | (simp; done) | (simp; omega))).trans (by first | assumption | (simp [go_sem, *]; done)); have hz12 : w1.cell? ⟨w.heap.size, 2, none⟩ = some (.string ⟨#[]⟩) := (hb1.cell (p := ⟨w.heap.size, 2, none⟩) (by first | (simp; done) | (simp; omega))).trans (by first | assumption | (simp [go_sem, *]; done)); have hf12 : w1.frozen? ⟨w.heap.size, 2, none⟩ = false := (hb1.frozen (p := ⟨w.heap.size, 2, none⟩) (by first | (simp; done) | (simp; omega))).trans (by first | assumption | (simp [go_sem, *]; done)); have hz13 : w1.cell? ⟨w.heap.size, 3, none⟩ = some (.bool false) := (hb1.cell (p := ⟨w.heap.size, 3, none⟩) (by first | (simp; done) | (simp; omega))).trans (by first | assumption | (simp [go_sem, *]; done)); have hf13 : w1.frozen? ⟨w.heap.size, 3, none⟩ = false := (hb1.frozen (p := ⟨w.heap.size, 3, none⟩) (by first | (simp; done) | (simp; omega))).trans (by first | assumption | (simp [go_sem, *]; done)); have hz14 : w1.cell? ⟨w.heap.size, 4, none⟩ = some (.string ⟨#[]⟩) := (hb1.cell (p := ⟨w.heap.size, 4, none⟩) (by first | (simp; done) | (simp; omega))).trans (by first | assumption | (simp [go_sem, *]; done)); have hf14 : w1.frozen? ⟨w.heap.size, 4, none⟩ = false := (hb1.frozen (p := ⟨w.heap.size, 4, none⟩) (by first | (simp; done) | (simp; omega))).trans (by first | assumption | (simp [go_sem, *]; done)); have hz15 : w1.cell? ⟨w.heap.size, 5, none⟩ = some (.string ⟨#[]⟩) := (hb1.cell (p := ⟨w.heap.size, 5, none⟩) (by first | (simp; done) | (simp; omega))).trans (by first | assumption | (simp [go_sem, *]; done)); have hf15 : w1.frozen? ⟨w.heap.size, 5, none⟩ = false := (hb1.frozen (p := ⟨w.heap.size, 5, none⟩) (by first | (simp; done) | (simp; omega))).trans (by first | assumption | (simp [go_sem, *]; done)); have hz16 : w1.cell? ⟨w.heap.size, 6, none⟩ = some (.string ⟨#[]⟩) := (hb1.cell (p := ⟨w.heap.size, 6, none⟩) (by first | (simp; done) | (simp; omega))).trans (by first | assumption | (simp [go_sem, *]; done)); have hf16 : w1.frozen? ⟨w.heap.size, 6, none⟩ = false := (hb1.frozen (p := ⟨w.heap.size, 6, none⟩) (by first | (simp; done) | (simp; omega))).trans (by first | assumption | (simp [go_sem, *]; done)); have hB1 : Hid (Below w.heap.size w w1) := Below.step ((Below.refl _ _).alloc (Nat.le_refl _) _) hb1; clear hb1 HQ)
    | (go_at_call 14; refine (HO.out _ hB1.out).mono ?_; rintro e w9 ⟨rfl, hw9⟩; rw [hw9]; clear hw9 HO)
    | (go_at_call 13; refine (HR.out _ hB1.out).mono ?_; rintro e w2 ⟨rfl, hb2⟩; have hs2 : w.heap.size < w2.heap.size := Nat.lt_of_lt_of_le hs1 hb2.size; have hz20 : w2.cell? ⟨w.heap.size, 0, none⟩ = some (.int .i64 0) := (hb2.cell (p := ⟨w.heap.size, 0, none⟩) (by first | (simp; done) | (simp; omega))).trans (by first | assumption | (simp [go_sem, *]; done)); have hf20 : w2.frozen? ⟨w.heap.size, 0, none⟩ = false := (hb2.frozen (p := ⟨w.heap.size, 0, none⟩) (by first | (simp; done) | (simp; omega))).trans (by first | assumption | (simp [go_sem, *]; done)); have hz21 : w2.cell? ⟨w.heap.size, 1, none⟩ = some (.int .i64 0) := (hb2.cell (p := ⟨w.heap.size, 1, none⟩) (by first | (simp; done) | (simp; omega))).trans (by first | assumption | (simp [go_sem, *]; done)); have hf21 : w2.frozen? ⟨w.heap.size, 1, none⟩ = false := (hb2.frozen (p := ⟨w.heap.size, 1, none⟩) (by first | (simp; done) | (simp; omega))).trans (by first | assumption | (simp [go_sem, *]; done)); have hz22 : w2.cell? ⟨w.heap.size, 2, none⟩ = some (.string ⟨#[]⟩) := (hb2.cell (p := ⟨w.heap.size, 2, none⟩) (by first | (simp; done) | (simp; omega))).trans (by first | assumption | (simp [go_sem, *]; done)); have hf22 : w2.frozen? ⟨w.heap.size, 2, none⟩ = false := (hb2.frozen (p := ⟨w.heap.size, 2, none⟩) (by first | (simp; done) | (simp; omega))).trans (by first | assumption | (simp [go_sem, *]; done)); have hz23 : w2.cell? ⟨w.heap.size, 3, none⟩ = some (.bool false) := (hb2.cell (p := ⟨w.heap.size, 3, none⟩) (by first | (simp; done) | (simp; omega))).trans (by first | assumption | (simp [go_sem, *]; done)); have hf23 : w2.frozen? ⟨w.heap.size, 3, none⟩ = false := (hb2.frozen (p := ⟨w.heap.size, 3, none⟩) (by first | (simp; done) | (simp; omega))).trans (by first | assumption | (simp [go_sem, *]; done)); have hz24 : w2.cell? ⟨w.heap.size, 4, none⟩ = some (.string ⟨#[]⟩) := (hb2.cell (p := ⟨w.heap.size, 4, none⟩) (by first | (simp; done) | (simp; omega))).trans (by first | assumption | (simp [go_sem, *]; done)); have hf24 : w2.frozen? ⟨w.heap.size, 4, none⟩ = false := (hb2.frozen (p := ⟨w.heap.size, 4, none⟩) (by first | (simp; done) | (simp; omega))).trans (by first | assumption | (simp [go_sem, *]; done)); have hz25 : w2.cell? ⟨w.heap.size, 5, none⟩ = some (.string ⟨#[]⟩) := (hb2.cell (p := ⟨w.heap.size, 5, none⟩) (by first | (simp; done) | (simp; omega))).trans (by first | assumption | (simp [go_sem, *]; done)); have hf25 : w2.frozen? ⟨w.heap.size, 5, none⟩ = false := (hb2.frozen (p := ⟨w.heap.size, 5, none⟩) (by first | (simp; done) | (simp; omega))).trans (by first | assumption | (simp [go_sem, *]; done)); have hz26 : w2.cell? ⟨w.heap.size, 6, none⟩ = some (.string ⟨#[]⟩) := (hb2.cell (p := ⟨w.heap.size, 6, none⟩) (by first | (simp; done) | (simp; omega))).trans (by first | assumption | (simp [go_sem, *]; done)); have hf26 : w2.frozen? ⟨w.heap.size, 6, none⟩ = false := (hb2.frozen (p := ⟨w.heap.size, 6, none⟩) (by first | (simp; done) | (simp; omega))).trans (by first | assumption | (simp [go_sem, *]; done)); have hB2 : Hid (Below w.heap.size w w2) := hB1.out.trans (hb2.mono hB1.out.size); clear hb2 HR)
    | (go_at_call 11; refine (HP.out _ (hB2.out.alloc hB2.out.size _)).mono ?_; rintro e w3 ⟨rfl, hb3⟩; have hr0 : w3.cell? ⟨w2.heap.size, 0, none⟩ = some (.int .i64 io) := (hb3.cell (p := ⟨w2.heap.size, 0, none⟩) (by simp)).trans (by simp [go_sem, *]); have hr1 : w3.cell? ⟨w2.heap.size, 1, none⟩ = some (.int .i64 iN) := (hb3.cell (p := ⟨w2.heap.size, 1, none⟩) (by simp)).trans (by simp [go_sem, *]); have hr2 : w3.cell? ⟨w2.heap.size, 2, none⟩ = some (.string it) := (hb3.cell (p := ⟨w2.heap.size, 2, none⟩) (by simp)).trans (by simp [go_sem, *]); have hr3 : w3.cell? ⟨w2.heap.size, 3, none⟩ = some (.bool ib) := (hb3.cell (p := ⟨w2.heap.size, 3, none⟩) (by simp)).trans (by simp [go_sem, *]); have hr4 : w3.cell? ⟨w2.heap.size, 4, none⟩ = some (.string ic) := (hb3.cell (p := ⟨w2.heap.size, 4, none⟩) (by simp)).trans (by simp [go_sem, *]); have hr5 : w3.cell? ⟨w2.heap.size, 5, none⟩ = some (.string im) := (hb3.cell (p := ⟨w2.heap.size, 5, none⟩) (by simp)).trans (by simp [go_sem, *]); have hr6 : w3.cell? ⟨w2.heap.size, 6, none⟩ = some (.string id) := (hb3.cell (p := ⟨w2.heap.size, 6, none⟩) (by simp)).trans (by simp [go_sem, *]); have hs3 : w.heap.size < w3.heap.size := (by have := hb3.size; simp at this; omega); have hz30 : w3.cell? ⟨w.heap.size, 0, none⟩ = some (.int .i64 0) := (hb3.cell (p := ⟨w.heap.size, 0, none⟩) (by first | (simp; done) | (simp; omega))).trans (by first | assumption | (simp [go_sem, *]; done)); have hf30 : w3.frozen? ⟨w.heap.size, 0, none⟩ = false := (hb3.frozen (p := ⟨w.heap.size, 0, none⟩) (by first | (simp; done) | (simp; omega))).trans (by first | assumption | (simp [go_sem, *]; done)); have hz31 : w3.cell? ⟨w.heap.size, 1, none⟩ = some (.int .i64 0) := (hb3.cell (p := ⟨w.heap.size, 1, none⟩) (by first | (simp; done) | (simp; omega))).trans (by first | assumption | (simp [go_sem, *]; done)); have hf31 : w3.frozen? ⟨w.heap.size, 1, none⟩ = false := (hb3.frozen (p := ⟨w.heap.size, 1, none⟩) (by first | (simp; done) | (simp; omega))).trans (by first | assumption | (simp [go_sem, *]; done)); have hz32 : w3.cell? ⟨w.heap.size, 2, none⟩ = some (.string ⟨#[]⟩) := (hb3.cell (p := ⟨w.heap.size, 2, none⟩) (by first | (simp; done) | (simp; omega))).trans (by first | assumption | (simp [go_sem, *]; done)); have hf32 : w3.frozen? ⟨w.heap.size, 2, none⟩ = false := (hb3.frozen (p := ⟨w.heap.size, 2, none⟩) (by first | (simp; done) | (simp; omega))).trans (by first | assumption | (simp [go_sem, *]; done)); have hz33 : w3.cell? ⟨w.heap.size, 3, none⟩ = some (.bool false) := (hb3.cell (p := ⟨w.heap.size, 3, none⟩) (by first | (simp; done) | (simp; omega))).trans (by first | assumption | (simp [go_sem, *]; done)); have hf33 : w3.frozen? ⟨w.heap.size, 3, none⟩ = false := (hb3.frozen (p := ⟨w.heap.size, 3, none⟩) (by first | (simp; done) | (simp; omega))).trans (by first | assumption | (simp [go_sem, *]; done)); have hz34 : w3.cell? ⟨w.heap.size, 4, none⟩ = some (.string ⟨#[]⟩) := (hb3.cell (p := ⟨w.heap.size, 4, none⟩) (by first | (simp; done) | (simp; omega))).trans (by first | assumption | (simp [go_sem, *]; done)); have hf34 : w3.frozen? ⟨w.heap.size, 4, none⟩ = false := (hb3.frozen (p := ⟨w.heap.size, 4, none⟩) (by first | (simp; done) | (simp; omega))).trans (by first | assumption | (simp [go_sem, *]; done)); have hz35 : w3.cell? ⟨w.heap.size, 5, none⟩ = some (.string ⟨#[]⟩) := (hb3.cell (p := ⟨w.heap.size, 5, none⟩) (by first | (simp; done) | (simp; omega))).trans (by first | assumption | (simp [go_sem, *]; done)); have hf35 : w3.frozen? ⟨w.heap.size, 5, none⟩ = false := (hb3.frozen (p := ⟨w.heap.size, 5, none⟩) (by first | (simp; done) | (simp; omega))).trans (by first | assumption | (simp [go_sem, *]; done)); have hz36 : w3.cell? ⟨w.heap.size, 6, none⟩ = some (.string ⟨#[]⟩) := (hb3.cell (p := ⟨w.heap.size, 6, none⟩) (by first | (simp; done) | (simp; omega))).trans (by first | assumption | (simp [go_sem, *]; done)); have hf36 : w3.frozen? ⟨w.heap.size, 6, none⟩ = false := (hb3.frozen (p := ⟨w.heap.size, 6, none⟩) (by first | (simp; done) | (simp; omega))).trans (by first | assumption | (simp [go_sem, *]; done)); have hB3 : Hid (Below w.heap.size w w3) := Below.step (hB2.out.alloc hB2.out.size _) hb3; clear hb3 HP))
  refine bodyPost_ret (v := .tuple #[.agg #[.int .i64 0, .int .i64 0, .string ⟨#[]⟩, .bool false, .string ⟨#[]⟩, .string ⟨#[]⟩, .string ⟨#[]⟩], .int .i64 4]) (by simp [results, Tryz.results5, go_sem, *]) rfl ⟨rfl, ?_⟩
  exact (((((((hB3.out).setCell (Nat.le_refl _) _).setCell (Nat.le_refl _) _).setCell (Nat.le_refl _) _).setCell (Nat.le_refl _) _).setCell (Nat.le_refl _) _).setCell (Nat.le_refl _) _).setCell (Nat.le_refl _) _

set_option maxRecDepth 100000 in
set_option maxHeartbeats 4000000 in
theorem parse_bad (s A B P : ByteArray) (q : Bool) (op : Nat) (io iN : Int) (it : ByteArray) (ib : Bool) (ic im id : ByteArray) (w : World)
    (HQ : ∀ w' : World, Calls Tryz.prog 12 #[.string s, .string ⟨#[32]⟩] w' fun e w'' => e = .returned (.tuple #[.string A, .string B, .bool q]) ∧ Below w'.heap.size w' w'')
    (HO : ∀ w', Below w.heap.size w w' → Calls Tryz.prog 14 #[.string A] w' fun e w'' => e = .returned (.int .i64 (op : Int)) ∧ w'' = w')
    (HR : ∀ w', Below w.heap.size w w' → Calls Tryz.prog 13 #[.int .i64 (op : Int), .string B] w' fun e w'' => e = .returned (.agg #[.int .i64 io, .int .i64 iN, .string it, .bool ib, .string ic, .string im, .string id]) ∧ Below w'.heap.size w' w'')
    (HP : ∀ w', Below w.heap.size w w' → Calls Tryz.prog 11 #[.agg #[.int .i64 io, .int .i64 iN, .string it, .bool ib, .string ic, .string im, .string id]] w' fun e w'' => e = .returned (.tuple #[.string P, .int .i64 1]) ∧ Below w'.heap.size w' w'') :
    Calls Tryz.prog 5 #[.string s] w fun e w' => e = .returned (.tuple #[.agg #[.int .i64 0, .int .i64 0, .string ⟨#[]⟩, .bool false, .string ⟨#[]⟩, .string ⟨#[]⟩, .string ⟨#[]⟩], .int .i64 4]) ∧ Below w.heap.size w w' := by
  have HQ : Hid (∀ w' : World, _) := HQ
  have HO : Hid (∀ w' : World, _ → _) := HO
  have HR : Hid (∀ w' : World, _ → _) := HR
  have HP : Hid (∀ w' : World, _ → _) := HP

  go_enter Tryz.func5, Tryz.ntmps5
  go_wp2_with (first
    | (go_at_call 12; refine (HQ.out _).mono ?_; rintro e w1 ⟨rfl, hb1⟩; have hs1 : w.heap.size < w1.heap.size := (by have := hb1.size; simp at this; omega); have hz10 : w1.cell? ⟨w.heap.size, 0, none⟩ = some (.int .i64 0) := (hb1.cell (p := ⟨w.heap.size, 0, none⟩) (by first | (simp; done) | (simp; omega))).trans (by first | assumption | (simp [go_sem, *]; done)); have hf10 : w1.frozen? ⟨w.heap.size, 0, none⟩ = false := (hb1.frozen (p := ⟨w.heap.size, 0, none⟩) (by first | (simp; done) | (simp; omega))).trans (by first | assumption | (simp [go_sem, *]; done)); have hz11 : w1.cell? ⟨w.heap.size, 1, none⟩ = some (.int .i64 0) := (hb1.cell (p := ⟨w.heap.size, 1, none⟩) (by first | (simp; done) | (simp; omega))).trans (by first | assumption | (simp [go_sem, *]; done)); have hf11 : w1.frozen? ⟨w.heap.size, 1, none⟩ = false := (hb1.frozen (p := ⟨w.heap.size, 1, none⟩) (by first | (simp; done) | (simp; omega))).trans (by first | assumption | (simp [go_sem, *]; done)); have hz12 : w1.cell? ⟨w.heap.size, 2, none⟩ = some (.string ⟨#[]⟩) := (hb1.cell (p := ⟨w.heap.size, 2, none⟩) (by first | (simp; done) | (simp; omega))).trans (by first | assumption | (simp [go_sem, *]; done)); have hf12 : w1.frozen? ⟨w.heap.size, 2, none⟩ = false := (hb1.frozen (p := ⟨w.heap.size, 2, none⟩) (by first | (simp; done) | (simp; omega))).trans (by first | assumption | (simp [go_sem, *]; done)); have hz13 : w1.cell? ⟨w.heap.size, 3, none⟩ = some (.bool false) := (hb1.cell (p := ⟨w.heap.size, 3, none⟩) (by first | (simp; done) | (simp; omega))).trans (by first | assumption | (simp [go_sem, *]; done)); have hf13 : w1.frozen? ⟨w.heap.size, 3, none⟩ = false := (hb1.frozen (p := ⟨w.heap.size, 3, none⟩) (by first | (simp; done) | (simp; omega))).trans (by first | assumption | (simp [go_sem, *]; done)); have hz14 : w1.cell? ⟨w.heap.size, 4, none⟩ = some (.string ⟨#[]⟩) := (hb1.cell (p := ⟨w.heap.size, 4, none⟩) (by first | (simp; done) | (simp; omega))).trans (by first | assumption | (simp [go_sem, *]; done)); have hf14 : w1.frozen? ⟨w.heap.size, 4, none⟩ = false := (hb1.frozen (p := ⟨w.heap.size, 4, none⟩) (by first | (simp; done) | (simp; omega))).trans (by first | assumption | (simp [go_sem, *]; done)); have hz15 : w1.cell? ⟨w.heap.size, 5, none⟩ = some (.string ⟨#[]⟩) := (hb1.cell (p := ⟨w.heap.size, 5, none⟩) (by first | (simp; done) | (simp; omega))).trans (by first | assumption | (simp [go_sem, *]; done)); have hf15 : w1.frozen? ⟨w.heap.size, 5, none⟩ = false := (hb1.frozen (p := ⟨w.heap.size, 5, none⟩) (by first | (simp; done) | (simp; omega))).trans (by first | assumption | (simp [go_sem, *]; done)); have hz16 : w1.cell? ⟨w.heap.size, 6, none⟩ = some (.string ⟨#[]⟩) := (hb1.cell (p := ⟨w.heap.size, 6, none⟩) (by first | (simp; done) | (simp; omega))).trans (by first | assumption | (simp [go_sem, *]; done)); have hf16 : w1.frozen? ⟨w.heap.size, 6, none⟩ = false := (hb1.frozen (p := ⟨w.heap.size, 6, none⟩) (by first | (simp; done) | (simp; omega))).trans (by first | assumption | (simp [go_sem, *]; done)); have hB1 : Hid (Below w.heap.size w w1) := Below.step ((Below.refl _ _).alloc (Nat.le_refl _) _) hb1; clear hb1 HQ)
    | (go_at_call 14; refine (HO.out _ hB1.out).mono ?_; rintro e w9 ⟨rfl, hw9⟩; rw [hw9]; clear hw9 HO)
    | (go_at_call 13; refine (HR.out _ hB1.out).mono ?_; rintro e w2 ⟨rfl, hb2⟩; have hs2 : w.heap.size < w2.heap.size := Nat.lt_of_lt_of_le hs1 hb2.size; have hz20 : w2.cell? ⟨w.heap.size, 0, none⟩ = some (.int .i64 0) := (hb2.cell (p := ⟨w.heap.size, 0, none⟩) (by first | (simp; done) | (simp; omega))).trans (by first | assumption | (simp [go_sem, *]; done)); have hf20 : w2.frozen? ⟨w.heap.size, 0, none⟩ = false := (hb2.frozen (p := ⟨w.heap.size, 0, none⟩) (by first | (simp; done) | (simp; omega))).trans (by first | assumption | (simp [go_sem, *]; done)); have hz21 : w2.cell? ⟨w.heap.size, 1, none⟩ = some (.int .i64 0) := (hb2.cell (p := ⟨w.heap.size, 1, none⟩) (by first | (simp; done) | (simp; omega))).trans (by first | assumption | (simp [go_sem, *]; done)); have hf21 : w2.frozen? ⟨w.heap.size, 1, none⟩ = false := (hb2.frozen (p := ⟨w.heap.size, 1, none⟩) (by first | (simp; done) | (simp; omega))).trans (by first | assumption | (simp [go_sem, *]; done)); have hz22 : w2.cell? ⟨w.heap.size, 2, none⟩ = some (.string ⟨#[]⟩) := (hb2.cell (p := ⟨w.heap.size, 2, none⟩) (by first | (simp; done) | (simp; omega))).trans (by first | assumption | (simp [go_sem, *]; done)); have hf22 : w2.frozen? ⟨w.heap.size, 2, none⟩ = false := (hb2.frozen (p := ⟨w.heap.size, 2, none⟩) (by first | (simp; done) | (simp; omega))).trans (by first | assumption | (simp [go_sem, *]; done)); have hz23 : w2.cell? ⟨w.heap.size, 3, none⟩ = some (.bool false) := (hb2.cell (p := ⟨w.heap.size, 3, none⟩) (by first | (simp; done) | (simp; omega))).trans (by first | assumption | (simp [go_sem, *]; done)); have hf23 : w2.frozen? ⟨w.heap.size, 3, none⟩ = false := (hb2.frozen (p := ⟨w.heap.size, 3, none⟩) (by first | (simp; done) | (simp; omega))).trans (by first | assumption | (simp [go_sem, *]; done)); have hz24 : w2.cell? ⟨w.heap.size, 4, none⟩ = some (.string ⟨#[]⟩) := (hb2.cell (p := ⟨w.heap.size, 4, none⟩) (by first | (simp; done) | (simp; omega))).trans (by first | assumption | (simp [go_sem, *]; done)); have hf24 : w2.frozen? ⟨w.heap.size, 4, none⟩ = false := (hb2.frozen (p := ⟨w.heap.size, 4, none⟩) (by first | (simp; done) | (simp; omega))).trans (by first | assumption | (simp [go_sem, *]; done)); have hz25 : w2.cell? ⟨w.heap.size, 5, none⟩ = some (.string ⟨#[]⟩) := (hb2.cell (p := ⟨w.heap.size, 5, none⟩) (by first | (simp; done) | (simp; omega))).trans (by first | assumption | (simp [go_sem, *]; done)); have hf25 : w2.frozen? ⟨w.heap.size, 5, none⟩ = false := (hb2.frozen (p := ⟨w.heap.size, 5, none⟩) (by first | (simp; done) | (simp; omega))).trans (by first | assumption | (simp [go_sem, *]; done)); have hz26 : w2.cell? ⟨w.heap.size, 6, none⟩ = some (.string ⟨#[]⟩) := (hb2.cell (p := ⟨w.heap.size, 6, none⟩) (by first | (simp; done) | (simp; omega))).trans (by first | assumption | (simp [go_sem, *]; done)); have hf26 : w2.frozen? ⟨w.heap.size, 6, none⟩ = false := (hb2.frozen (p := ⟨w.heap.size, 6, none⟩) (by first | (simp; done) | (simp; omega))).trans (by first | assumption | (simp [go_sem, *]; done)); have hB2 : Hid (Below w.heap.size w w2) := hB1.out.trans (hb2.mono hB1.out.size); clear hb2 HR)
    | (go_at_call 11; refine (HP.out _ (hB2.out.alloc hB2.out.size _)).mono ?_; rintro e w3 ⟨rfl, hb3⟩; have hr0 : w3.cell? ⟨w2.heap.size, 0, none⟩ = some (.int .i64 io) := (hb3.cell (p := ⟨w2.heap.size, 0, none⟩) (by simp)).trans (by simp [go_sem, *]); have hr1 : w3.cell? ⟨w2.heap.size, 1, none⟩ = some (.int .i64 iN) := (hb3.cell (p := ⟨w2.heap.size, 1, none⟩) (by simp)).trans (by simp [go_sem, *]); have hr2 : w3.cell? ⟨w2.heap.size, 2, none⟩ = some (.string it) := (hb3.cell (p := ⟨w2.heap.size, 2, none⟩) (by simp)).trans (by simp [go_sem, *]); have hr3 : w3.cell? ⟨w2.heap.size, 3, none⟩ = some (.bool ib) := (hb3.cell (p := ⟨w2.heap.size, 3, none⟩) (by simp)).trans (by simp [go_sem, *]); have hr4 : w3.cell? ⟨w2.heap.size, 4, none⟩ = some (.string ic) := (hb3.cell (p := ⟨w2.heap.size, 4, none⟩) (by simp)).trans (by simp [go_sem, *]); have hr5 : w3.cell? ⟨w2.heap.size, 5, none⟩ = some (.string im) := (hb3.cell (p := ⟨w2.heap.size, 5, none⟩) (by simp)).trans (by simp [go_sem, *]); have hr6 : w3.cell? ⟨w2.heap.size, 6, none⟩ = some (.string id) := (hb3.cell (p := ⟨w2.heap.size, 6, none⟩) (by simp)).trans (by simp [go_sem, *]); have hs3 : w.heap.size < w3.heap.size := (by have := hb3.size; simp at this; omega); have hz30 : w3.cell? ⟨w.heap.size, 0, none⟩ = some (.int .i64 0) := (hb3.cell (p := ⟨w.heap.size, 0, none⟩) (by first | (simp; done) | (simp; omega))).trans (by first | assumption | (simp [go_sem, *]; done)); have hf30 : w3.frozen? ⟨w.heap.size, 0, none⟩ = false := (hb3.frozen (p := ⟨w.heap.size, 0, none⟩) (by first | (simp; done) | (simp; omega))).trans (by first | assumption | (simp [go_sem, *]; done)); have hz31 : w3.cell? ⟨w.heap.size, 1, none⟩ = some (.int .i64 0) := (hb3.cell (p := ⟨w.heap.size, 1, none⟩) (by first | (simp; done) | (simp; omega))).trans (by first | assumption | (simp [go_sem, *]; done)); have hf31 : w3.frozen? ⟨w.heap.size, 1, none⟩ = false := (hb3.frozen (p := ⟨w.heap.size, 1, none⟩) (by first | (simp; done) | (simp; omega))).trans (by first | assumption | (simp [go_sem, *]; done)); have hz32 : w3.cell? ⟨w.heap.size, 2, none⟩ = some (.string ⟨#[]⟩) := (hb3.cell (p := ⟨w.heap.size, 2, none⟩) (by first | (simp; done) | (simp; omega))).trans (by first | assumption | (simp [go_sem, *]; done)); have hf32 : w3.frozen? ⟨w.heap.size, 2, none⟩ = false := (hb3.frozen (p := ⟨w.heap.size, 2, none⟩) (by first | (simp; done) | (simp; omega))).trans (by first | assumption | (simp [go_sem, *]; done)); have hz33 : w3.cell? ⟨w.heap.size, 3, none⟩ = some (.bool false) := (hb3.cell (p := ⟨w.heap.size, 3, none⟩) (by first | (simp; done) | (simp; omega))).trans (by first | assumption | (simp [go_sem, *]; done)); have hf33 : w3.frozen? ⟨w.heap.size, 3, none⟩ = false := (hb3.frozen (p := ⟨w.heap.size, 3, none⟩) (by first | (simp; done) | (simp; omega))).trans (by first | assumption | (simp [go_sem, *]; done)); have hz34 : w3.cell? ⟨w.heap.size, 4, none⟩ = some (.string ⟨#[]⟩) := (hb3.cell (p := ⟨w.heap.size, 4, none⟩) (by first | (simp; done) | (simp; omega))).trans (by first | assumption | (simp [go_sem, *]; done)); have hf34 : w3.frozen? ⟨w.heap.size, 4, none⟩ = false := (hb3.frozen (p := ⟨w.heap.size, 4, none⟩) (by first | (simp; done) | (simp; omega))).trans (by first | assumption | (simp [go_sem, *]; done)); have hz35 : w3.cell? ⟨w.heap.size, 5, none⟩ = some (.string ⟨#[]⟩) := (hb3.cell (p := ⟨w.heap.size, 5, none⟩) (by first | (simp; done) | (simp; omega))).trans (by first | assumption | (simp [go_sem, *]; done)); have hf35 : w3.frozen? ⟨w.heap.size, 5, none⟩ = false := (hb3.frozen (p := ⟨w.heap.size, 5, none⟩) (by first | (simp; done) | (simp; omega))).trans (by first | assumption | (simp [go_sem, *]; done)); have hz36 : w3.cell? ⟨w.heap.size, 6, none⟩ = some (.string ⟨#[]⟩) := (hb3.cell (p := ⟨w.heap.size, 6, none⟩) (by first | (simp; done) | (simp; omega))).trans (by first | assumption | (simp [go_sem, *]; done)); have hf36 : w3.frozen? ⟨w.heap.size, 6, none⟩ = false := (hb3.frozen (p := ⟨w.heap.size, 6, none⟩) (by first | (simp; done) | (simp; omega))).trans (by first | assumption | (simp [go_sem, *]; done)); have hB3 : Hid (Below w.heap.size w w3) := Below.step (hB2.out.alloc hB2.out.size _) hb3; clear hb3 HP))
  refine bodyPost_ret (v := .tuple #[.agg #[.int .i64 0, .int .i64 0, .string ⟨#[]⟩, .bool false, .string ⟨#[]⟩, .string ⟨#[]⟩, .string ⟨#[]⟩], .int .i64 4]) (by simp [results, Tryz.results5, go_sem, *]) rfl ⟨rfl, ?_⟩
  exact (((((((hB3.out).setCell (Nat.le_refl _) _).setCell (Nat.le_refl _) _).setCell (Nat.le_refl _) _).setCell (Nat.le_refl _) _).setCell (Nat.le_refl _) _).setCell (Nat.le_refl _) _).setCell (Nat.le_refl _) _

/-- Parse of package code -/
theorem oparse_any (s : ByteArray) (hs : s.size ≤ 140737488351232) (w : World) (hG : GIn w) (hW : WordsRow w) (hE : EIn w) : Calls Tryz.prog 5 #[.string s] w fun e w' => e = .returned (outI (ownP s.data.toList)) ∧ Below w.heap.size w w' := by
  obtain ⟨q, HQ⟩ := cut_any s (by unfold maxLen; omega)
  have hsB : (⟨(cutB s.data.toList).toArray⟩ : ByteArray).size ≤ 140737488351232 := Nat.le_trans (piece_size s _ (cutB_len _)) hs
  have HO : ∀ w', Below w.heap.size w w' → Calls Tryz.prog 14 #[.string ⟨(cutA s.data.toList).toArray⟩] w' fun e w'' => e = .returned (.int .i64 ((opOf (cutA s.data.toList) : Nat) : Int)) ∧ w'' = w' := fun w' hb => opOf_any ⟨(cutA s.data.toList).toArray⟩ w' (hW.keep hb)
  have HR : ∀ w', Below w.heap.size w w' → Calls Tryz.prog 13 #[.int .i64 ((opOf (cutA s.data.toList) : Nat) : Int), .string ⟨(cutB s.data.toList).toArray⟩] w' fun e w'' => e = .returned (insV (ownR s.data.toList)) ∧ Below w'.heap.size w' w'' := fun w' hb => readOp_any _ ⟨(cutB s.data.toList).toArray⟩ hsB w' (hE.keep hb)
  have hio := rdI_ok ((opOf (cutA s.data.toList) : Nat) : Int) ⟨(cutB s.data.toList).toArray⟩ (by unfold maxLen; omega)
  have hown : ownP s.data.toList = if ickI (ownR s.data.toList) = 0 ∧ prtI (ownR s.data.toList) = s.data.toList then some (ownR s.data.toList) else none := rfl
  have hrd : rdI ((opOf (cutA s.data.toList) : Nat) : Int) (⟨(cutB s.data.toList).toArray⟩ : ByteArray).data.toList = ownR s.data.toList := rfl
  rw [hrd] at hio
  obtain ⟨⟨n1, n2⟩, k1, k2, k3, k4⟩ := hio
  have HP := fun w' (hb : Below w.heap.size w w') => oprint_any (ownR s.data.toList).op (ownR s.data.toList).n n1 n2 (ownR s.data.toList).t (ownR s.data.toList).b (ownR s.data.toList).c (ownR s.data.toList).m (ownR s.data.toList).d k1 k2 k3 k4 w' (hG.keep hb)
  clear hrd
  generalize ownR s.data.toList = i at *
  have hpr : (⟨(prtI i).toArray⟩ : ByteArray).toList = prtI i := by rw [Lib.toList_data]
  have hst : s.toList = s.data.toList := Lib.toList_data s
  rcases ick_01 i.op i.n i.t i.b i.c i.m i.d with hi | hi
  · simp only [hi] at HP
    by_cases he : prtI i = s.data.toList
    · rw [hown, if_pos ⟨hi, he⟩]
      exact parse_yes s _ _ ⟨(prtI i).toArray⟩ q _ i.op i.n i.t i.b i.c i.m i.d (by rw [hpr, hst, he]; simp) w HQ HO HR HP
    · rw [hown, if_neg (fun h => he h.2)]
      exact parse_other s _ _ ⟨(prtI i).toArray⟩ q _ i.op i.n i.t i.b i.c i.m i.d (by rw [hpr, hst]; simpa using he) w HQ HO HR HP
  · simp only [hi] at HP
    rw [hown, if_neg (fun h => absurd (h.1.symm.trans hi) (by decide))]
    exact parse_bad s _ _ ⟨(prtI i).toArray⟩ q _ i.op i.n i.t i.b i.c i.m i.d w HQ HO HR HP
end Go.Proofs.YtijlipllahfakaaGreatDoor

namespace Go.Proofs.YtijlipllahfakaaGreatDoor
open Go.RowKit

theorem five_text : prtL 1 (-5) ⟨#[]⟩ false ⟨#[]⟩ ⟨#[]⟩ ⟨#[]⟩ = [105, 99, 111, 110, 115, 116, 32, 45, 53] ∧ ickE 1 (-5) ⟨#[]⟩ false ⟨#[]⟩ ⟨#[]⟩ ⟨#[]⟩ = 0 := by
  have h0 : (⟨#[]⟩ : ByteArray).toList = [] := by rw [Lib.toList_data]
  have h1 : ickE 1 (-5) ⟨#[]⟩ false ⟨#[]⟩ ⟨#[]⟩ ⟨#[]⟩ = 0 := by
    rw [ickE, show opdI 1 = 1 from rfl, noRefB, h0]; rfl
  refine ⟨?_, h1⟩
  rw [prtL, if_pos h1, show opdI 1 = 1 from rfl, restL, if_pos (.inl rfl), Lib.itoa, if_pos (by decide), dec_small (by decide)]
  rfl

set_option maxRecDepth 100000 in
set_option maxHeartbeats 1000000 in
theorem awake_any (w : World) (hG : GIn w) : Calls Tryz.prog 4 #[] w fun e w' => e = .returned (.bool true) ∧ Below w.heap.size w w' := by
  have HP : Hid (∀ w, GIn w → Calls Tryz.prog 11 #[.agg #[.int .i64 1, .int .i64 (-5), .string ⟨#[]⟩, .bool false, .string ⟨#[]⟩, .string ⟨#[]⟩, .string ⟨#[]⟩]] w fun e w' => e = .returned (.tuple #[.string ⟨#[105, 99, 111, 110, 115, 116, 32, 45, 53]⟩, .int .i64 0]) ∧ Below w.heap.size w w') := fun w h => by
    have hz : (⟨#[]⟩ : ByteArray).size ≤ maxLen := by decide
    have := oprint_any 1 (-5) (by decide) (by decide) ⟨#[]⟩ false ⟨#[]⟩ ⟨#[]⟩ ⟨#[]⟩ hz hz hz hz w h
    rw [five_text.1, five_text.2] at this
    exact this
  have HG : Hid (GIn w) := hG
  clear hG
  go_enter Tryz.func4, Tryz.ntmps4
  go_wp2_with (go_at_call 11; refine (HP.out _ HG.out).mono ?_; rintro e w1 ⟨rfl, hb1⟩)
  go_ret
  exact ⟨rfl, hb1⟩

/-- the seven cells of an instruction that lies in a block of its own -/
def Boxed (w : World) (k : Nat) (op n : Int) (t : ByteArray) (b : Bool) (c m d : ByteArray) : Prop :=
  w.cell? ⟨k, 0, none⟩ = some (.int .i64 op) ∧ w.cell? ⟨k, 1, none⟩ = some (.int .i64 n) ∧ w.cell? ⟨k, 2, none⟩ = some (.string t) ∧ w.cell? ⟨k, 3, none⟩ = some (.bool b) ∧ w.cell? ⟨k, 4, none⟩ = some (.string c) ∧ w.cell? ⟨k, 5, none⟩ = some (.string m) ∧ w.cell? ⟨k, 6, none⟩ = some (.string d)
theorem Boxed.keep {w w' : World} {N k : Nat} {op n : Int} {t : ByteArray} {b : Bool} {c m d : ByteArray} (h : Boxed w k op n t b c m d) (hb : Below N w w') (hk : k < N) : Boxed w' k op n t b c m d :=
  ⟨(hb.cell hk).trans h.1, (hb.cell hk).trans h.2.1, (hb.cell hk).trans h.2.2.1, (hb.cell hk).trans h.2.2.2.1, (hb.cell hk).trans h.2.2.2.2.1, (hb.cell hk).trans h.2.2.2.2.2.1, (hb.cell hk).trans h.2.2.2.2.2.2⟩
theorem Boxed.new (w : World) (op n : Int) (t : ByteArray) (b : Bool) (c m d : ByteArray) : Boxed (w.alloc (.cells #[.int .i64 op, .int .i64 n, .string t, .bool b, .string c, .string m, .string d] 26)) w.heap.size op n t b c m d := by
  refine ⟨?_, ?_, ?_, ?_, ?_, ?_, ?_⟩ <;> simp [go_sem]

/-- the worlds behind a law's entry: what was there is as it was, the boxed argument too -/
def LawW (w BX w' : World) : Prop := Below (w.heap.size + 1) BX w'

end Go.Proofs.YtijlipllahfakaaGreatDoor

namespace Go.Proofs.YtijlipllahfakaaGreatDoor
open Go.RowKit

set_option maxRecDepth 100000 in
set_option maxHeartbeats 4000000 in
theorem parse_law (s : ByteArray) (io iN : Int) (it : ByteArray) (ib : Bool) (ic im id : ByteArray) (ez : Int) (qb : Bool) (C M D : ByteArray) (er : Int) (w : World)
    (HA : ∀ w', Below w.heap.size w w' → Calls Tryz.prog 4 #[] w' fun e w'' => e = .returned (.bool true) ∧ Below w'.heap.size w' w'')
    (H5 : ∀ w', Below w.heap.size w w' → Calls Tryz.prog 5 #[.string s] w' fun e w'' => e = .returned (.tuple #[.agg #[.int .i64 io, .int .i64 iN, .string it, .bool ib, .string ic, .string im, .string id], .int .i64 ez]) ∧ Below w'.heap.size w' w'')
    (H6 : ∀ w', Below w.heap.size w w' → Calls Tryz.prog 6 #[.string s] w' fun e w'' => e = .returned (.tuple #[.agg #[.int .i64 io, .int .i64 iN, .string it, .bool ib, .string ic, .string im, .string id], .int .i64 ez]) ∧ Below w'.heap.size w' w'')
    (H7 : ∀ w', Below w.heap.size w w' → Calls Tryz.prog 7 #[.agg #[.int .i64 io, .int .i64 iN, .string it, .bool ib, .string ic, .string im, .string id], .agg #[.int .i64 io, .int .i64 iN, .string it, .bool ib, .string ic, .string im, .string id]] w' fun e w'' => e = .returned (.bool true) ∧ Below w'.heap.size w' w'')
    (H8 : ∀ w', Below w.heap.size w w' → Calls Tryz.prog 8 #[.string s] w' fun e w'' => e = .returned (.tuple #[.agg #[.bool qb, .string C, .string M, .string D], .int .i64 er]) ∧ Below w'.heap.size w' w'')
    (H9 : ∀ w', Below w.heap.size w w' → Calls Tryz.prog 9 #[.string s] w' fun e w'' => e = .returned (.tuple #[.agg #[.bool qb, .string C, .string M, .string D], .int .i64 er]) ∧ Below w'.heap.size w' w'')
    (H10 : ∀ w', Below w.heap.size w w' → Calls Tryz.prog 10 #[.agg #[.bool qb, .string C, .string M, .string D], .agg #[.bool qb, .string C, .string M, .string D]] w' fun e w'' => e = .returned (.bool true) ∧ Below w'.heap.size w' w'') : Calls Tryz.prog 3 #[.string s] w fun e w' => e = .returned (.bool true) ∧ Below w.heap.size w w' := by
  have HA : Hid (∀ w' : World, _ → _) := HA
  have H5 : Hid (∀ w' : World, _ → _) := H5
  have H6 : Hid (∀ w' : World, _ → _) := H6
  have H7 : Hid (∀ w' : World, _ → _) := H7
  have H8 : Hid (∀ w' : World, _ → _) := H8
  have H9 : Hid (∀ w' : World, _ → _) := H9
  have H10 : Hid (∀ w' : World, _ → _) := H10
  have he1 : (ez != ez) = false := by simp
  have he2 : (er == er) = true := by simp
  go_enter Tryz.func3, Tryz.ntmps3
  go_wp2_with (first
    | (go_at_call 4; refine (HA.out _ (Below.refl _ _)).mono ?_; rintro e1 w1 ⟨rfl, hb1⟩; have B1 : Hid (Below w.heap.size w w1) := hb1; clear hb1 HA)
    | (go_at_call 5; refine (H5.out _ B1.out).mono ?_; rintro e1 w2 ⟨rfl, hb2⟩; have B2 : Hid (Below w.heap.size w w2) := B1.out.trans (hb2.mono B1.out.size); clear hb2 H5)
    | (go_at_call 6; refine (H6.out _ (B2.out.alloc B2.out.size _)).mono ?_; rintro e1 w3 ⟨rfl, hb3⟩; have j0 : w3.cell? ⟨w2.heap.size, 0, none⟩ = some (.int .i64 io) := (hb3.cell (p := ⟨w2.heap.size, 0, none⟩) (by simp)).trans (by simp [go_sem, *]); have j1 : w3.cell? ⟨w2.heap.size, 1, none⟩ = some (.int .i64 iN) := (hb3.cell (p := ⟨w2.heap.size, 1, none⟩) (by simp)).trans (by simp [go_sem, *]); have j2 : w3.cell? ⟨w2.heap.size, 2, none⟩ = some (.string it) := (hb3.cell (p := ⟨w2.heap.size, 2, none⟩) (by simp)).trans (by simp [go_sem, *]); have j3 : w3.cell? ⟨w2.heap.size, 3, none⟩ = some (.bool ib) := (hb3.cell (p := ⟨w2.heap.size, 3, none⟩) (by simp)).trans (by simp [go_sem, *]); have j4 : w3.cell? ⟨w2.heap.size, 4, none⟩ = some (.string ic) := (hb3.cell (p := ⟨w2.heap.size, 4, none⟩) (by simp)).trans (by simp [go_sem, *]); have j5 : w3.cell? ⟨w2.heap.size, 5, none⟩ = some (.string im) := (hb3.cell (p := ⟨w2.heap.size, 5, none⟩) (by simp)).trans (by simp [go_sem, *]); have j6 : w3.cell? ⟨w2.heap.size, 6, none⟩ = some (.string id) := (hb3.cell (p := ⟨w2.heap.size, 6, none⟩) (by simp)).trans (by simp [go_sem, *]); have hs3 : w2.heap.size < w3.heap.size := (by have := hb3.size; simp at this; omega); have B3 : Hid (Below w.heap.size w w3) := Below.step (B2.out.alloc B2.out.size _) hb3; clear hb3 H6)
    | (go_at_call 7; refine (H7.out _ (B3.out.alloc B3.out.size _)).mono ?_; rintro e1 w4 ⟨rfl, hb4⟩; have B4 : Hid (Below w.heap.size w w4) := Below.step (B3.out.alloc B3.out.size _) hb4; clear hb4 H7)
    | (go_at_call 8; refine (H8.out _ B4.out).mono ?_; rintro e1 w5 ⟨rfl, hb5⟩; have B5 : Hid (Below w.heap.size w w5) := B4.out.trans (hb5.mono B4.out.size); clear hb5 H8)
    | (go_at_call 9; refine (H9.out _ (B5.out.alloc B5.out.size _)).mono ?_; rintro e1 w6 ⟨rfl, hb6⟩; have r0 : w6.cell? ⟨w5.heap.size, 0, none⟩ = some (.bool qb) := (hb6.cell (p := ⟨w5.heap.size, 0, none⟩) (by simp)).trans (by simp [go_sem, *]); have r1 : w6.cell? ⟨w5.heap.size, 1, none⟩ = some (.string C) := (hb6.cell (p := ⟨w5.heap.size, 1, none⟩) (by simp)).trans (by simp [go_sem, *]); have r2 : w6.cell? ⟨w5.heap.size, 2, none⟩ = some (.string M) := (hb6.cell (p := ⟨w5.heap.size, 2, none⟩) (by simp)).trans (by simp [go_sem, *]); have r3 : w6.cell? ⟨w5.heap.size, 3, none⟩ = some (.string D) := (hb6.cell (p := ⟨w5.heap.size, 3, none⟩) (by simp)).trans (by simp [go_sem, *]); have hs6 : w5.heap.size < w6.heap.size := (by have := hb6.size; simp at this; omega); have B6 : Hid (Below w.heap.size w w6) := Below.step (B5.out.alloc B5.out.size _) hb6; clear hb6 H9)
    | (go_at_call 10; refine (H10.out _ (B6.out.alloc B6.out.size _)).mono ?_; rintro e1 w7 ⟨rfl, hb7⟩; have B7 : Hid (Below w.heap.size w w7) := Below.step (B6.out.alloc B6.out.size _) hb7; clear hb7 H10))
  go_ret
  exact ⟨rfl, B7.out⟩

theorem CodeParse_any (s : ByteArray) (hs : s.size ≤ 1048576) (w : World) (hG : GIn w) (hW : WordsRow w) (hE : EIn w) : Calls Tryz.prog 3 #[.string s] w fun e w' => e = .returned (.bool true) ∧ Below w.heap.size w w' := by
  obtain ⟨i, e, ho⟩ : ∃ (i : Ins) (e : Int), outI (docP s.data.toList) = .tuple #[insV i, .int .i64 e] := by
    cases docP s.data.toList with
    | none => exact ⟨zeroI, 4, rfl⟩
    | some i => exact ⟨i, 0, rfl⟩
  obtain ⟨qb, C, M, D, er, hr⟩ : ∃ (qb : Bool) (C M D : ByteArray) (er : Int), rfOut s.data.toList = .tuple #[.agg #[.bool qb, .string C, .string M, .string D], .int .i64 er] := ⟨_, _, _, _, _, rfl⟩
  have hm : s.size ≤ maxLen := by unfold maxLen; omega
  refine parse_law s i.op i.n i.t i.b i.c i.m i.d e qb C M D er w (fun w' hb => awake_any w' (hG.keep hb)) ?_ ?_ ?_ ?_ ?_ ?_
  · intro w' hb
    have := oparse_any s (by omega) w' (hG.keep hb) (hW.keep hb) (hE.keep hb)
    rw [own_doc, ho] at this
    exact this
  · intro w' _
    have := rParse2_any s (by omega) w'
    rw [ho] at this
    exact this
  · intro w' _
    have := rSame_any i.op i.n i.t i.b i.c i.m i.d i.op i.n i.t i.b i.c i.m i.d w'
    rw [r_self] at this
    simp only [beq_self_eq_true, Bool.true_and] at this
    exact this
  · intro w' _
    have := parseRefText_any s hm w'
    rw [hr] at this
    exact this
  · intro w' _
    have := rParseRefText_any s hm w'
    rw [hr] at this
    exact this
  · intro w' _
    have := rSameRef_any qb C M D qb C M D w'
    rw [r_self] at this
    exact this

end Go.Proofs.YtijlipllahfakaaGreatDoor

namespace Go.Proofs.YtijlipllahfakaaGreatDoor
open Go.RowKit Go.ChangeShapes Go.WideShapes Go.ChangeAt Go.ChangeMaps

theorem Tryz.synT : (Tryz.prog.globals[2]?).map (·.type) = some 75 := by kernel_rfl
theorem Tryz.rngT : (Tryz.prog.globals[3]?).map (·.type) = some 75 := by kernel_rfl
theorem Tryz.star : "*" ++ "errors.errorString" = "*errors.errorString" := by decide
theorem Tryz.row134 (u : TypeId) (h : Tryz.prog.typeName? 3 u = some "*errors.errorString") : u = 134 :=
  typeName_ptr_named (nm := "errors.errorString") (by rw [Tryz.star]; kernel_rfl) (by kernel_rfl) (by decide) u (by rw [Tryz.star]; exact h)
theorem Tryz.c136 : Tryz.prog.cellsOf 136 = 1 := by kernel_rfl
theorem errs_in {r : List (String × DataW Unit)} {W : World} (h : laidMet Tryz.prog (("strconv.ErrRange", Rows.laid_strconv_ErrRange) :: ("strconv.ErrSyntax", Rows.laid_strconv_ErrSyntax) :: r) W) : EIn W := by
  obtain ⟨a0, s0, hv0, -, -, -⟩ := laid_sentinel h Tryz.rngG Tryz.rngT Tryz.underlying75 Tryz.row134 Tryz.underlying134 Tryz.underlying136 rfl rfl Tryz.underlying9 Tryz.c136 Tryz.cells9
  obtain ⟨a1, s1, hv1, -, -, -⟩ := laid_sentinel h.tail Tryz.synG Tryz.synT Tryz.underlying75 Tryz.row134 Tryz.underlying134 Tryz.underlying136 rfl rfl Tryz.underlying9 Tryz.c136 Tryz.cells9
  exact ⟨⟨_, _, hv1⟩, _, _, hv0⟩

theorem codeParse_own : ownKnob Tryz.prog.godebug = none := by kernel_rfl

theorem short_line {H : Type} {a0 : ByteArray} (hk : Rows.uptoSmall H [.lit (.string a0.data.toList)] = true) : a0.size ≤ 1048576 := by
  have h : Rows.uptoBulkAll (H := H) [.lit (.string a0.data.toList)] ≤ 1048576 := of_decide_eq_true hk
  simp only [Rows.uptoBulkAll, Rows.uptoBulk] at h
  have e0 : a0.data.toList.length = a0.size := by rw [Array.length_toList]; rfl
  omega

set_option linter.unusedVariables false in
set_option maxRecDepth 100000 in
theorem codeParse_contract (H : Type) (enc : TypeId × Value → H) (W : World) (base : Nat) (args : Array Value) (ds gs : List (DataW H)) (before : List MemPlace)
    (hval : ∀ (j : Nat) t v, Tryz.f3.params[j]? = some t → args[j]? = some v → Value.okWide Tryz.prog W .any base t v)
    (hW : DataW.Whole enc Tryz.prog Tryz.f3.params.toList Rows.codeParseSpec.vars false W args.toList ds gs before) (hL : laidMetH Tryz.prog Rows.codeParseUptoRow.laid W) (hk : Rows.uptoSmall H (ds ++ gs) = true) :
    Calls Tryz.prog 3 args W fun e W' => ∃ v, e = .returned v ∧ Rows.codeParseSpec.post enc Tryz.prog Tryz.f3 false true false false W args v W' := by
  have hW' := hW
  obtain ⟨p, q, hA0, hV, rfl, hfz, hnd⟩ := hW
  have hA : DataW.TrodAll enc Tryz.prog W 0 (fun _ => true) true Tryz.f3.params.toList args.toList ds p := hA0
  rw [Tryz.params3] at hA hval
  obtain ⟨v0, vs0, d0, ds0, p0, q0, hargs, rfl, rfl, h0, r0⟩ := trodAll_cons hA
  obtain ⟨rfl, rfl, rfl⟩ := trodAll_nil r0
  obtain rfl : args = #[v0] := by cases args; simp_all
  obtain ⟨rfl, rfl⟩ := trodVars_none hV
  obtain ⟨a0, rfl, rfl, rfl, m0⟩ := open_string Tryz.underlying9 (hval 0 9 v0 rfl rfl) h0
  clear hA0
  simp only [List.append_nil] at hW' hk
  rw [MakeChecks.laidMetH_plain _ _ _ (by kernel_rfl)] at hL
  have hF0 := words_in (Lib.laidMet.reads hL (n := "arbiter/code.words") (d := Rows.laid_arbiter_code_words) (by simp [Rows.codeParseUptoRow]))
  have hF1 := ten_in (Lib.laidMet.reads hL (n := "internal/strconv.uint64pow10") (d := Rows.laid_internal_strconv_uint64pow10) (by simp [Rows.codeParseUptoRow]))
  have hF2 := words_row (Lib.laidMet.reads hL (n := "arbiter/code.words") (d := Rows.laid_arbiter_code_words) (by simp [Rows.codeParseUptoRow]))
  have hF3 : EIn W := errs_in hL.tail.tail.tail
  refine (CodeParse_any a0 (short_line hk) W ⟨hF0, hF1⟩ hF2 hF3).mono fun e W' ⟨he, bel⟩ => ?_
  subst he
  exact ⟨_, rfl, _, _, _, [], [], [], hW', trodAll_mk1 (shut_bool Tryz.underlying4 _), trodAll_cons_mk (shut_string Tryz.underlying9 m0) trodAll_mk0, rfl, bel.frame _, fun h => by cases h⟩

set_option linter.unusedVariables false in
set_option maxRecDepth 100000 in
theorem codeParse_lifted (os : Os) (started : os.Started) (H : Type) (enc : TypeId × Value → H) (F : Stop.Interp) :
    ReturnsInHanded {} Tryz.checked os 3 .any ((Rows.OpenSpec.upto Rows.codeParseSpec).preRow enc Tryz.prog Tryz.f3 Rows.codeParseUptoRow.domain false Rows.codeParseUptoRow.laid) (((Rows.OpenSpec.upto Rows.codeParseSpec).at F).post enc Tryz.prog Tryz.f3 false true false false) := by
  have hok : Input.okWideB Tryz.prog ((World.laidAll Tryz.prog os Rows.codeParseUptoRow.laid).forCall (fun _ _ => 0) ⟨#[], #[.string ByteArray.empty], []⟩) 3 ⟨#[], #[.string ByteArray.empty], []⟩ = true := by kernel_rfl
  have hx : DataW.whole enc Tryz.prog ((World.laidAll Tryz.prog os Rows.codeParseUptoRow.laid).forCall (fun _ _ => 0) ⟨#[], #[.string ByteArray.empty], []⟩).memory Tryz.f3.params.toList (Rows.OpenSpec.upto Rows.codeParseSpec).vars false #[Value.string ByteArray.empty].toList 8 = some ([.lit (.string [])], [], []) := by kernel_rfl
  refine returnsInHanded_of_row (C := Tryz.checked) (s := Rows.OpenSpec.upto Rows.codeParseSpec) codeParse_own started (by kernel_rfl) Tryz.func3
    ⟨World.laidAll Tryz.prog os Rows.codeParseUptoRow.laid, fun _ _ => 0, ⟨#[], #[.string ByteArray.empty], []⟩, World.laidAll_os _ _ _, World.shaped_of_ZipB (by kernel_rfl) (by kernel_rfl), (Input.okWide_of_okWideB (base := 0) hok).1, (Input.okWide_of_okWideB hok).2,
      OpenSpec.preRow_of_cond 8 hx (by kernel_rfl) (fun k hk => by cases hk; kernel_rfl) (by kernel_rfl) (by rw [MakeChecks.laidMetH_plain _ _ _ (by kernel_rfl)]; exact laidMet_laidAll _ (by kernel_rfl) (by kernel_rfl)),
      by simp only [Assume.holds]; exact ⟨by simp, by simp, fun _ => Modest.zero, by simp, by simp⟩⟩ ?_
  intro W base args ds gs before hval hW _ hcond _ hL _ _
  exact codeParse_contract H enc W base args ds gs before hval hW hL (hcond _ rfl)

theorem codeParse_over : Rows.CodeParseUptoSaid :=
  OpenClaim.holds_of_cond 3 Tryz.f3 rfl rfl rfl rfl rfl rfl rfl ⟨rfl, rfl, rfl, rfl, rfl⟩ rfl rfl rfl rfl rfl (by kernel_rfl) Tryz.func3 (by kernel_rfl)
    (of_decide_eq_true (by kernel_rfl)) (by unfold Func.isWrapper; first | (rw [if_pos (by decide +kernel)]; kernel_rfl) | (rw [if_neg (by decide +kernel)]; exact ⟨rfl, rfl⟩))
    (fun os started H enc _ F => by rw [OpenClaim.pre_eq_preRow]; exact codeParse_lifted os started H enc F)

/-- THE STATEMENT -/
theorem codeParse_holds : Rows.CodeParseUptoCardSaid :=
  Claim7.holds_tied_plain_at .later [] _ _ _ _ codeParse_over (fun _ h => by cases h) (by kernel_rfl) (fun _ h => by cases h) codeParseUpto_row_tie rfl ⟨rfl, rfl⟩ (by kernel_rfl) rfl
    (fun f fn hf hfn => by
      obtain rfl : f = 3 := Option.some.inj ((show Tryz.prog.funcNamed "arbiter/arbiterlaw04.CodeParse" = some 3 by kernel_rfl).symm.trans hf) |>.symm
      obtain rfl : fn = Tryz.f3 := (Option.some.inj (Tryz.func3.symm.trans hfn)).symm
      exact ⟨by kernel_rfl, fun j t ht => by
        rw [Tryz.params3] at ht
        have hm : t ∈ [9] := by simpa using Array.mem_of_getElem? ht
        have hall : ([9].all fun u => !Tryz.prog.wantsStandIn u) = true := by kernel_rfl
        exact (show Tryz.prog.wantsStandIn t = false by simpa using List.all_eq_true.1 hall t hm)⟩)
    (by kernel_rfl)
#print axioms codeParse_holds

end Go.Proofs.YtijlipllahfakaaGreatDoor

