/- The walk of the document's ParseRefText (arbiterref04): a reference from its text; what was there before stays. -/
import Derived.Test.YtfbhjfpkhofifaaGreatDoorCodeL
namespace Go.Proofs.YtfbhjfpkhofifaaGreatDoor
open Go.RowKit

/-- how many bytes ahead are as p says -/
def spanN (p : UInt8 → Bool) (l : List UInt8) : Nat := (l.takeWhile p).length
def notMark (c : UInt8) : Bool := !decide (c = 46) && !decide (c = 58)
def notOpen (c : UInt8) : Bool := !decide (c = 40)
def markN (l : List UInt8) : Nat := spanN notMark l
def openN (l : List UInt8) : Nat := markN l + spanN notOpen (l.drop (markN l))

theorem span_at (p : UInt8 → Bool) (s : ByteArray) (k : Nat) (h : k < s.size) : spanN p (s.data.toList.drop k) = if p s[k] then 1 + spanN p (s.data.toList.drop (k + 1)) else 0 := by
  rw [drop_cons s k h, spanN, List.takeWhile_cons]
  split
  · rw [List.length_cons, spanN]; omega
  · rfl
theorem span_end (p : UInt8 → Bool) (s : ByteArray) (k : Nat) (h : s.size ≤ k) : spanN p (s.data.toList.drop k) = 0 := by
  rw [List.drop_of_length_le (by simpa using h)]; rfl

/-- class, name and descriptor in a reference's text -/
def rfC (l : List UInt8) : List UInt8 := l.take (markN l)
def rfN (l : List UInt8) : List UInt8 := (l.drop (markN l + 1)).take (openN l - (markN l + 1))
def rfD (l : List UInt8) : List UInt8 := l.drop (openN l)
def rfB (l : List UInt8) : Bool := (l.drop (markN l)).head? == some 58
/-- is it a reference's text? -/
def rfOK (l : List UInt8) : Bool := decide (openN l < l.length) && rckB (rfC l) (rfN l) (rfD l)

theorem ex_take (s : ByteArray) (m : Nat) : (s.extract 0 m).data.toList = s.data.toList.take m := by rw [Lib.extract_data]; simp
theorem ex_mid (s : ByteArray) (a b : Nat) : (s.extract a b).data.toList = (s.data.toList.drop a).take (b - a) := Lib.extract_data _ _ _

/-- the answer for a text -/
def rfOut (l : List UInt8) : Value := .tuple #[.agg #[.bool (rfOK l && rfB l), .string (if rfOK l then ⟨(rfC l).toArray⟩ else ⟨#[]⟩), .string (if rfOK l then ⟨(rfN l).toArray⟩ else ⟨#[]⟩), .string (if rfOK l then ⟨(rfD l).toArray⟩ else ⟨#[]⟩)], .int .i64 (if rfOK l then 0 else 4)]

theorem rfOut_no {l : List UInt8} (h : rfOK l = false) : rfOut l = .tuple #[.agg #[.bool false, .string ⟨#[]⟩, .string ⟨#[]⟩, .string ⟨#[]⟩], .int .i64 4] := by rw [rfOut, h]; rfl

theorem rfOut_yes (s : ByteArray) (m o : Nat) (q : Bool) (hm : markN s.data.toList = m) (ho : openN s.data.toList = o) (h : rfOK s.data.toList = true) (hq : rfB s.data.toList = q) :
    rfOut s.data.toList = .tuple #[.agg #[.bool q, .string (s.extract 0 m), .string (s.extract (m + 1) o), .string (s.extract o s.size)], .int .i64 0] := by
  rw [rfOut, h, hq]
  have e1 : (⟨(rfC s.data.toList).toArray⟩ : ByteArray) = s.extract 0 m := by apply bytes_ext; rw [ex_take, rfC, hm]
  have e2 : (⟨(rfN s.data.toList).toArray⟩ : ByteArray) = s.extract (m + 1) o := by apply bytes_ext; rw [ex_mid, rfN, hm, ho]
  have e3 : (⟨(rfD s.data.toList).toArray⟩ : ByteArray) = s.extract o s.size := by apply bytes_ext; rw [Lib.extract_to_end, rfD, ho]
  rw [e1, e2, e3]; rfl

set_option maxRecDepth 100000 in
set_option maxHeartbeats 4000000 in
theorem rParseRefText_any (s : ByteArray) (hs : s.size ≤ maxLen) (w : World) : Calls Tryz.prog 97 #[.string s] w fun e w' => e = .returned (rfOut s.data.toList) ∧ Below w.heap.size w w' := by
  have hlen : s.data.toList.length = s.size := by simp
  have HRC : Hid (∀ (b : Bool) (c n d : ByteArray), c.size ≤ maxLen → n.size ≤ maxLen → d.size ≤ maxLen → ∀ w, _) := rRefCheck_any
  have HEX : Hid (∀ a b, (s.extract a b).size ≤ maxLen) := fun a b => by simp [ByteArray.size_extract]; omega
  unfold maxLen at hs
  go_enter Tryz.func97, Tryz.ntmps97
  go_wp2
  go_loop [4] (fun kv => ∃ (k : Nat), kv = .int .i64 k ∧ k ≤ s.size ∧ Hid (markN s.data.toList = k + spanN notMark (s.data.toList.drop k))) (fun kv => s.size - (intOf kv).toNat)
  case atStart => exact ⟨0, rfl, Nat.zero_le _, by simp [Hid, markN]⟩
  case round =>
    obtain ⟨m, rfl, hm, hM⟩ := hrel
    by_cases hlt : m < s.size
    · cases hnm : notMark s[m] with
      | true =>
        have HN : Hid (markN s.data.toList = (m + 1) + spanN notMark (s.data.toList.drop (m + 1))) := by rw [Hid, hM.out, span_at _ s m hlt, hnm]; simp; omega
        have h46 : s[m] ≠ 46 := fun e => by rw [e] at hnm; exact absurd hnm (by decide)
        have h58 : s[m] ≠ 58 := fun e => by rw [e] at hnm; exact absurd hnm (by decide)
        have n46 : (((s[m]).toNat : Int) != 46) = true := by have := byte_ne s m hlt 46; simp only [h46, decide_false] at this; exact this
        have n58 : (((s[m]).toNat : Int) != 58) = true := by have := byte_ne s m hlt 58; simp only [h58, decide_false] at this; exact this
        clear hM HRC HEX hnm h46 h58 hlen
        go_wp2
        go_round
        case rel => exact ⟨m + 1, by go_num, by omega, HN⟩
        case measure => simp [intOf]; omega
      | false =>
        have hch : s[m] = 46 ∨ s[m] = 58 := by
          simp only [notMark, Bool.and_eq_false_iff, Bool.not_eq_false', decide_eq_true_eq] at hnm
          exact hnm
        rcases hch with hch | hch
        · have HM : Hid (markN s.data.toList = m) := by rw [Hid, hM.out, span_at _ s m hlt, hnm]; rfl
          have hq : rfB s.data.toList = false := by rw [rfB, HM.out, drop_cons s m hlt, hch]; rfl
          have n46 : (((s[m]).toNat : Int) != 46) = false := by rw [hch]; rfl
          have n58 : (((s[m]).toNat : Int) != 58) = true := by rw [hch]; rfl
          have e58 : (((s[m]).toNat : Int) == 58) = false := by rw [hch]; rfl
          have hn40 : s[m] ≠ 40 := by rw [hch]; decide
          have HQ : Hid (rfB s.data.toList = false) := hq
          have HO : Hid (openN s.data.toList = m + spanN notOpen (s.data.toList.drop m)) := by rw [Hid, openN, HM.out]
          clear hM hnm hq
          go_wp2
          go_loop [5] (fun kv => ∃ (k : Nat), kv = .int .i64 k ∧ m ≤ k ∧ k ≤ s.size ∧ Hid (openN s.data.toList = k + spanN notOpen (s.data.toList.drop k))) (fun kv => s.size - (intOf kv).toNat)
          case atStart => exact ⟨m, rfl, Nat.le_refl _, hm, HO⟩
          case round =>
            obtain ⟨k, rfl, hmk, hk, hK⟩ := hrel
            by_cases hlk : k < s.size
            · by_cases h40 : s[k] = 40
              · have hKo : openN s.data.toList = k := by rw [hK.out, span_at _ s k hlk, show notOpen s[k] = false by rw [h40]; rfl]; rfl
                have hne : k ≠ m := fun e => hn40 (by subst e; exact h40)
                have hm1 : m + 1 ≤ k := by omega
                have q40 : (((s[k]).toNat : Int) != 40) = false := by rw [h40]; rfl
                have HC := HRC.out false (s.extract 0 m) (s.extract (m + 1) k) (s.extract k s.size) (HEX.out _ _) (HEX.out _ _) (HEX.out _ _)
                have hrk : rckE (s.extract 0 m).data.toList (s.extract (m + 1) k).data.toList (s.extract k s.size).data.toList = if rfOK s.data.toList then 0 else 1 := by
                  rw [rckE, ex_take, ex_mid, Lib.extract_to_end, rfOK, rfC, rfN, rfD, HM.out, hKo, hlen]
                  simp [hlk]
                rw [hrk] at HC
                clear hrk HRC HEX hK hn40 h40 hlen hch
                cases hok : rfOK s.data.toList with
                | true =>
                  have HR : Hid _ := rfOut_yes s m k false HM.out hKo hok HQ.out
                  rw [hok] at HC
                  have HC : Hid (∀ w, _) := HC
                  clear hok hKo HQ HM HO
                  go_wp2
                  go_region
                  go_wp2_with (go_at_call 122; refine (HC.out _).mono ?_; rintro e w1 ⟨rfl, hb1⟩; have hc0 : w1.cell? ⟨w.heap.size + 1, 0, none⟩ = some (.bool false) := (hb1.cell (p := ⟨w.heap.size + 1, 0, none⟩) (by simp)).trans (by simp [go_sem, *]); have hc1 : w1.cell? ⟨w.heap.size + 1, 1, none⟩ = some (.string (s.extract 0 m)) := (hb1.cell (p := ⟨w.heap.size + 1, 1, none⟩) (by simp)).trans (by simp [go_sem, *]); have hc2 : w1.cell? ⟨w.heap.size + 1, 2, none⟩ = some (.string (s.extract (m + 1) k)) := (hb1.cell (p := ⟨w.heap.size + 1, 2, none⟩) (by simp)).trans (by simp [go_sem, *]); have hc3 : w1.cell? ⟨w.heap.size + 1, 3, none⟩ = some (.string (s.extract k s.size)) := (hb1.cell (p := ⟨w.heap.size + 1, 3, none⟩) (by simp)).trans (by simp [go_sem, *]); have hz0 : w1.cell? ⟨w.heap.size, 0, none⟩ = some (.bool false) := (hb1.cell (p := ⟨w.heap.size, 0, none⟩) (by simp; omega)).trans (by simp [go_sem, *]); have hf0 : w1.frozen? ⟨w.heap.size, 0, none⟩ = false := (hb1.frozen (p := ⟨w.heap.size, 0, none⟩) (by simp; omega)).trans (by simp [go_sem, *]); have hz1 : w1.cell? ⟨w.heap.size, 1, none⟩ = some (.string ⟨#[]⟩) := (hb1.cell (p := ⟨w.heap.size, 1, none⟩) (by simp; omega)).trans (by simp [go_sem, *]); have hf1 : w1.frozen? ⟨w.heap.size, 1, none⟩ = false := (hb1.frozen (p := ⟨w.heap.size, 1, none⟩) (by simp; omega)).trans (by simp [go_sem, *]); have hz2 : w1.cell? ⟨w.heap.size, 2, none⟩ = some (.string ⟨#[]⟩) := (hb1.cell (p := ⟨w.heap.size, 2, none⟩) (by simp; omega)).trans (by simp [go_sem, *]); have hf2 : w1.frozen? ⟨w.heap.size, 2, none⟩ = false := (hb1.frozen (p := ⟨w.heap.size, 2, none⟩) (by simp; omega)).trans (by simp [go_sem, *]); have hz3 : w1.cell? ⟨w.heap.size, 3, none⟩ = some (.string ⟨#[]⟩) := (hb1.cell (p := ⟨w.heap.size, 3, none⟩) (by simp; omega)).trans (by simp [go_sem, *]); have hf3 : w1.frozen? ⟨w.heap.size, 3, none⟩ = false := (hb1.frozen (p := ⟨w.heap.size, 3, none⟩) (by simp; omega)).trans (by simp [go_sem, *]); have hB1 : Hid (Below w.heap.size w w1) := Below.step ((((Below.refl _ _).alloc (Nat.le_refl _) _).alloc (by simp) _).drew) hb1; clear hb1)
                  refine bodyPost_ret (v := .tuple #[.agg #[.bool false, .string (s.extract 0 m), .string (s.extract (m + 1) k), .string (s.extract k s.size)], .int .i64 0]) (by simp [results, Tryz.results97, go_sem, *]) rfl ⟨by rw [HR.out], ?_⟩
                  exact (((hB1.out.setCell (Nat.le_refl _) _).setCell (Nat.le_refl _) _).setCell (Nat.le_refl _) _).setCell (Nat.le_refl _) _
                | false =>
                  have HR : Hid _ := rfOut_no hok
                  rw [hok] at HC
                  have HC : Hid (∀ w, _) := HC
                  clear hok hKo HQ HM HO
                  go_wp2
                  go_region
                  go_wp2_with (go_at_call 122; refine (HC.out _).mono ?_; rintro e w1 ⟨rfl, hb1⟩; have hz0 : w1.cell? ⟨w.heap.size, 0, none⟩ = some (.bool false) := (hb1.cell (p := ⟨w.heap.size, 0, none⟩) (by simp; omega)).trans (by simp [go_sem, *]); have hf0 : w1.frozen? ⟨w.heap.size, 0, none⟩ = false := (hb1.frozen (p := ⟨w.heap.size, 0, none⟩) (by simp; omega)).trans (by simp [go_sem, *]); have hz1 : w1.cell? ⟨w.heap.size, 1, none⟩ = some (.string ⟨#[]⟩) := (hb1.cell (p := ⟨w.heap.size, 1, none⟩) (by simp; omega)).trans (by simp [go_sem, *]); have hf1 : w1.frozen? ⟨w.heap.size, 1, none⟩ = false := (hb1.frozen (p := ⟨w.heap.size, 1, none⟩) (by simp; omega)).trans (by simp [go_sem, *]); have hz2 : w1.cell? ⟨w.heap.size, 2, none⟩ = some (.string ⟨#[]⟩) := (hb1.cell (p := ⟨w.heap.size, 2, none⟩) (by simp; omega)).trans (by simp [go_sem, *]); have hf2 : w1.frozen? ⟨w.heap.size, 2, none⟩ = false := (hb1.frozen (p := ⟨w.heap.size, 2, none⟩) (by simp; omega)).trans (by simp [go_sem, *]); have hz3 : w1.cell? ⟨w.heap.size, 3, none⟩ = some (.string ⟨#[]⟩) := (hb1.cell (p := ⟨w.heap.size, 3, none⟩) (by simp; omega)).trans (by simp [go_sem, *]); have hf3 : w1.frozen? ⟨w.heap.size, 3, none⟩ = false := (hb1.frozen (p := ⟨w.heap.size, 3, none⟩) (by simp; omega)).trans (by simp [go_sem, *]); have hB1 : Hid (Below w.heap.size w w1) := Below.step ((((Below.refl _ _).alloc (Nat.le_refl _) _).alloc (by simp) _).drew) hb1; clear hb1)
                  refine bodyPost_ret (v := .tuple #[.agg #[.bool false, .string ⟨#[]⟩, .string ⟨#[]⟩, .string ⟨#[]⟩], .int .i64 4]) (by simp [results, Tryz.results97, go_sem, *]) rfl ⟨by rw [HR.out], ?_⟩
                  exact (((hB1.out.setCell (Nat.le_refl _) _).setCell (Nat.le_refl _) _).setCell (Nat.le_refl _) _).setCell (Nat.le_refl _) _
              · have q40 : (((s[k]).toNat : Int) != 40) = true := by have := byte_ne s k hlk 40; simp only [h40, decide_false] at this; exact this
                have HN : Hid (openN s.data.toList = (k + 1) + spanN notOpen (s.data.toList.drop (k + 1))) := by rw [Hid, hK.out, span_at _ s k hlk, show notOpen s[k] = true by simp [notOpen, h40]]; simp; omega
                clear hK HRC HEX HQ HM HO hn40 h40 hlen hch
                go_wp2
                go_round
                case rel => exact ⟨k + 1, by go_num, by omega, by omega, HN⟩
                case measure => simp [intOf]; omega
            · have hok : rfOK s.data.toList = false := by
                have : openN s.data.toList = k := by rw [hK.out, span_end _ s k (by omega)]; omega
                rw [rfOK, this, hlen, show decide (k < s.size) = false by simpa using hlk]; rfl
              have HR : Hid _ := rfOut_no hok
              clear hK HRC HEX HQ HM HO hn40 hlen hok hch
              go_wp2
              exact bodyPost_ret (v := .tuple #[.agg #[.bool false, .string ⟨#[]⟩, .string ⟨#[]⟩, .string ⟨#[]⟩], .int .i64 4]) (by simp [results, Tryz.results97, go_sem, *]) rfl ⟨by rw [HR.out], (Below.refl _ _).alloc (Nat.le_refl _) _⟩
        · have HM : Hid (markN s.data.toList = m) := by rw [Hid, hM.out, span_at _ s m hlt, hnm]; rfl
          have hq : rfB s.data.toList = true := by rw [rfB, HM.out, drop_cons s m hlt, hch]; rfl
          have n46 : (((s[m]).toNat : Int) != 46) = true := by rw [hch]; rfl
          have n58 : (((s[m]).toNat : Int) != 58) = false := by rw [hch]; rfl
          have e58 : (((s[m]).toNat : Int) == 58) = true := by rw [hch]; rfl
          have hn40 : s[m] ≠ 40 := by rw [hch]; decide
          have HQ : Hid (rfB s.data.toList = true) := hq
          have HO : Hid (openN s.data.toList = m + spanN notOpen (s.data.toList.drop m)) := by rw [Hid, openN, HM.out]
          clear hM hnm hq
          go_wp2
          go_loop [5] (fun kv => ∃ (k : Nat), kv = .int .i64 k ∧ m ≤ k ∧ k ≤ s.size ∧ Hid (openN s.data.toList = k + spanN notOpen (s.data.toList.drop k))) (fun kv => s.size - (intOf kv).toNat)
          case atStart => exact ⟨m, rfl, Nat.le_refl _, hm, HO⟩
          case round =>
            obtain ⟨k, rfl, hmk, hk, hK⟩ := hrel
            by_cases hlk : k < s.size
            · by_cases h40 : s[k] = 40
              · have hKo : openN s.data.toList = k := by rw [hK.out, span_at _ s k hlk, show notOpen s[k] = false by rw [h40]; rfl]; rfl
                have hne : k ≠ m := fun e => hn40 (by subst e; exact h40)
                have hm1 : m + 1 ≤ k := by omega
                have q40 : (((s[k]).toNat : Int) != 40) = false := by rw [h40]; rfl
                have HC := HRC.out true (s.extract 0 m) (s.extract (m + 1) k) (s.extract k s.size) (HEX.out _ _) (HEX.out _ _) (HEX.out _ _)
                have hrk : rckE (s.extract 0 m).data.toList (s.extract (m + 1) k).data.toList (s.extract k s.size).data.toList = if rfOK s.data.toList then 0 else 1 := by
                  rw [rckE, ex_take, ex_mid, Lib.extract_to_end, rfOK, rfC, rfN, rfD, HM.out, hKo, hlen]
                  simp [hlk]
                rw [hrk] at HC
                clear hrk HRC HEX hK hn40 h40 hlen hch
                cases hok : rfOK s.data.toList with
                | true =>
                  have HR : Hid _ := rfOut_yes s m k true HM.out hKo hok HQ.out
                  rw [hok] at HC
                  have HC : Hid (∀ w, _) := HC
                  clear hok hKo HQ HM HO
                  go_wp2
                  go_region
                  go_wp2_with (go_at_call 122; refine (HC.out _).mono ?_; rintro e w1 ⟨rfl, hb1⟩; have hc0 : w1.cell? ⟨w.heap.size + 1, 0, none⟩ = some (.bool true) := (hb1.cell (p := ⟨w.heap.size + 1, 0, none⟩) (by simp)).trans (by simp [go_sem, *]); have hc1 : w1.cell? ⟨w.heap.size + 1, 1, none⟩ = some (.string (s.extract 0 m)) := (hb1.cell (p := ⟨w.heap.size + 1, 1, none⟩) (by simp)).trans (by simp [go_sem, *]); have hc2 : w1.cell? ⟨w.heap.size + 1, 2, none⟩ = some (.string (s.extract (m + 1) k)) := (hb1.cell (p := ⟨w.heap.size + 1, 2, none⟩) (by simp)).trans (by simp [go_sem, *]); have hc3 : w1.cell? ⟨w.heap.size + 1, 3, none⟩ = some (.string (s.extract k s.size)) := (hb1.cell (p := ⟨w.heap.size + 1, 3, none⟩) (by simp)).trans (by simp [go_sem, *]); have hz0 : w1.cell? ⟨w.heap.size, 0, none⟩ = some (.bool false) := (hb1.cell (p := ⟨w.heap.size, 0, none⟩) (by simp; omega)).trans (by simp [go_sem, *]); have hf0 : w1.frozen? ⟨w.heap.size, 0, none⟩ = false := (hb1.frozen (p := ⟨w.heap.size, 0, none⟩) (by simp; omega)).trans (by simp [go_sem, *]); have hz1 : w1.cell? ⟨w.heap.size, 1, none⟩ = some (.string ⟨#[]⟩) := (hb1.cell (p := ⟨w.heap.size, 1, none⟩) (by simp; omega)).trans (by simp [go_sem, *]); have hf1 : w1.frozen? ⟨w.heap.size, 1, none⟩ = false := (hb1.frozen (p := ⟨w.heap.size, 1, none⟩) (by simp; omega)).trans (by simp [go_sem, *]); have hz2 : w1.cell? ⟨w.heap.size, 2, none⟩ = some (.string ⟨#[]⟩) := (hb1.cell (p := ⟨w.heap.size, 2, none⟩) (by simp; omega)).trans (by simp [go_sem, *]); have hf2 : w1.frozen? ⟨w.heap.size, 2, none⟩ = false := (hb1.frozen (p := ⟨w.heap.size, 2, none⟩) (by simp; omega)).trans (by simp [go_sem, *]); have hz3 : w1.cell? ⟨w.heap.size, 3, none⟩ = some (.string ⟨#[]⟩) := (hb1.cell (p := ⟨w.heap.size, 3, none⟩) (by simp; omega)).trans (by simp [go_sem, *]); have hf3 : w1.frozen? ⟨w.heap.size, 3, none⟩ = false := (hb1.frozen (p := ⟨w.heap.size, 3, none⟩) (by simp; omega)).trans (by simp [go_sem, *]); have hB1 : Hid (Below w.heap.size w w1) := Below.step ((((Below.refl _ _).alloc (Nat.le_refl _) _).alloc (by simp) _).drew) hb1; clear hb1)
                  refine bodyPost_ret (v := .tuple #[.agg #[.bool true, .string (s.extract 0 m), .string (s.extract (m + 1) k), .string (s.extract k s.size)], .int .i64 0]) (by simp [results, Tryz.results97, go_sem, *]) rfl ⟨by rw [HR.out], ?_⟩
                  exact (((hB1.out.setCell (Nat.le_refl _) _).setCell (Nat.le_refl _) _).setCell (Nat.le_refl _) _).setCell (Nat.le_refl _) _
                | false =>
                  have HR : Hid _ := rfOut_no hok
                  rw [hok] at HC
                  have HC : Hid (∀ w, _) := HC
                  clear hok hKo HQ HM HO
                  go_wp2
                  go_region
                  go_wp2_with (go_at_call 122; refine (HC.out _).mono ?_; rintro e w1 ⟨rfl, hb1⟩; have hz0 : w1.cell? ⟨w.heap.size, 0, none⟩ = some (.bool false) := (hb1.cell (p := ⟨w.heap.size, 0, none⟩) (by simp; omega)).trans (by simp [go_sem, *]); have hf0 : w1.frozen? ⟨w.heap.size, 0, none⟩ = false := (hb1.frozen (p := ⟨w.heap.size, 0, none⟩) (by simp; omega)).trans (by simp [go_sem, *]); have hz1 : w1.cell? ⟨w.heap.size, 1, none⟩ = some (.string ⟨#[]⟩) := (hb1.cell (p := ⟨w.heap.size, 1, none⟩) (by simp; omega)).trans (by simp [go_sem, *]); have hf1 : w1.frozen? ⟨w.heap.size, 1, none⟩ = false := (hb1.frozen (p := ⟨w.heap.size, 1, none⟩) (by simp; omega)).trans (by simp [go_sem, *]); have hz2 : w1.cell? ⟨w.heap.size, 2, none⟩ = some (.string ⟨#[]⟩) := (hb1.cell (p := ⟨w.heap.size, 2, none⟩) (by simp; omega)).trans (by simp [go_sem, *]); have hf2 : w1.frozen? ⟨w.heap.size, 2, none⟩ = false := (hb1.frozen (p := ⟨w.heap.size, 2, none⟩) (by simp; omega)).trans (by simp [go_sem, *]); have hz3 : w1.cell? ⟨w.heap.size, 3, none⟩ = some (.string ⟨#[]⟩) := (hb1.cell (p := ⟨w.heap.size, 3, none⟩) (by simp; omega)).trans (by simp [go_sem, *]); have hf3 : w1.frozen? ⟨w.heap.size, 3, none⟩ = false := (hb1.frozen (p := ⟨w.heap.size, 3, none⟩) (by simp; omega)).trans (by simp [go_sem, *]); have hB1 : Hid (Below w.heap.size w w1) := Below.step ((((Below.refl _ _).alloc (Nat.le_refl _) _).alloc (by simp) _).drew) hb1; clear hb1)
                  refine bodyPost_ret (v := .tuple #[.agg #[.bool false, .string ⟨#[]⟩, .string ⟨#[]⟩, .string ⟨#[]⟩], .int .i64 4]) (by simp [results, Tryz.results97, go_sem, *]) rfl ⟨by rw [HR.out], ?_⟩
                  exact (((hB1.out.setCell (Nat.le_refl _) _).setCell (Nat.le_refl _) _).setCell (Nat.le_refl _) _).setCell (Nat.le_refl _) _
              · have q40 : (((s[k]).toNat : Int) != 40) = true := by have := byte_ne s k hlk 40; simp only [h40, decide_false] at this; exact this
                have HN : Hid (openN s.data.toList = (k + 1) + spanN notOpen (s.data.toList.drop (k + 1))) := by rw [Hid, hK.out, span_at _ s k hlk, show notOpen s[k] = true by simp [notOpen, h40]]; simp; omega
                clear hK HRC HEX HQ HM HO hn40 h40 hlen hch
                go_wp2
                go_round
                case rel => exact ⟨k + 1, by go_num, by omega, by omega, HN⟩
                case measure => simp [intOf]; omega
            · have hok : rfOK s.data.toList = false := by
                have : openN s.data.toList = k := by rw [hK.out, span_end _ s k (by omega)]; omega
                rw [rfOK, this, hlen, show decide (k < s.size) = false by simpa using hlk]; rfl
              have HR : Hid _ := rfOut_no hok
              clear hK HRC HEX HQ HM HO hn40 hlen hok hch
              go_wp2
              exact bodyPost_ret (v := .tuple #[.agg #[.bool false, .string ⟨#[]⟩, .string ⟨#[]⟩, .string ⟨#[]⟩], .int .i64 4]) (by simp [results, Tryz.results97, go_sem, *]) rfl ⟨by rw [HR.out], (Below.refl _ _).alloc (Nat.le_refl _) _⟩
    · have hok : rfOK s.data.toList = false := by
        have h1 : markN s.data.toList = m := by rw [hM.out, span_end _ s m (by omega)]; omega
        have : openN s.data.toList = m := by rw [openN, h1, span_end _ s m (by omega)]; omega
        rw [rfOK, this, hlen, show decide (m < s.size) = false by simpa using hlt]; rfl
      have HR : Hid _ := rfOut_no hok
      clear hM HRC HEX hlen hok
      go_wp2
      go_loop [5] (fun kv => kv = .int .i64 m) (fun _ => 0)
      case atStart => rfl
      case round =>
        subst hrel
        go_wp2
        exact bodyPost_ret (v := .tuple #[.agg #[.bool false, .string ⟨#[]⟩, .string ⟨#[]⟩, .string ⟨#[]⟩], .int .i64 4]) (by simp [results, Tryz.results97, go_sem, *]) rfl ⟨by rw [HR.out], (Below.refl _ _).alloc (Nat.le_refl _) _⟩
end Go.Proofs.YtfbhjfpkhofifaaGreatDoor
