/- Walks of the document's answers of layer 4 (arbiterref04): words, op; what was there before stays. -/
import Derived.Test.YtfbhjfpkhofifaaDoorCodeL
namespace Go.Proofs.YtfbhjfpkhofifaaDoor
open Go.RowKit

/-- the words of the instructions, by their bytes -/
def wordsL : List (List UInt8) := [[], [105, 99, 111, 110, 115, 116], [105, 108, 111, 97, 100], [105, 115, 116, 111, 114, 101], [97, 108, 111, 97, 100], [97, 115, 116, 111, 114, 101], [110, 117, 108, 108], [105, 97, 100, 100], [105, 115, 117, 98], [105, 109, 117, 108], [105, 100, 105, 118], [103, 111, 116, 111], [105, 102, 101, 113], [105, 102, 110, 101], [105, 102, 108, 116], [105, 102, 99, 109, 112, 101, 113], [105, 102, 99, 109, 112, 108, 116], [105, 102, 97, 99, 109, 112, 101, 113], [105, 102, 110, 117, 108, 108], [112, 111, 112], [100, 117, 112], [115, 119, 97, 112], [110, 101, 119], [110, 101, 119, 97, 114, 114, 97, 121], [109, 117, 108, 116, 105, 110, 101, 119], [97, 114, 114, 97, 121, 108, 101, 110, 103, 116, 104], [105, 97, 108, 111, 97, 100], [105, 97, 115, 116, 111, 114, 101], [97, 97, 108, 111, 97, 100], [97, 97, 115, 116, 111, 114, 101], [99, 104, 101, 99, 107, 99, 97, 115, 116], [105, 110, 115, 116, 97, 110, 99, 101, 111, 102], [105, 110, 118, 111, 107, 101, 118, 105, 114, 116, 117, 97, 108], [105, 110, 118, 111, 107, 101, 105, 110, 116, 101, 114, 102, 97, 99, 101], [105, 110, 118, 111, 107, 101, 115, 112, 101, 99, 105, 97, 108], [105, 110, 118, 111, 107, 101, 115, 116, 97, 116, 105, 99], [105, 114, 101, 116, 117, 114, 110], [97, 114, 101, 116, 117, 114, 110], [114, 101, 116, 117, 114, 110], [112, 114, 105, 110, 116], [112, 114, 105, 110, 116, 99, 108, 97, 115, 115]]
def wordsC : Array Value := (wordsL.map strV).toArray

theorem words_size : wordsL.length = 41 := rfl

theorem words_cell (w : World) (i : Nat) (x : List UInt8) (h : wordsL[i]? = some x) : (w.alloc (.cells wordsC 9)).cell? ⟨w.heap.size, i, none⟩ = some (.string ⟨x.toArray⟩) := by
  rw [cell_of_row _ w.heap.size i _ 9 (0, 0) (heap_alloc_new w _)]
  rw [wordsC, List.getElem?_toArray, List.getElem?_map, h]; rfl

/-- the number of a word among those from i on, or 0 -/
def opFrom (l : List UInt8) : Nat → List (List UInt8) → Nat
  | _, [] => 0
  | i, x :: r => if x = l then i else opFrom l (i + 1) r
def opOf (l : List UInt8) : Nat := opFrom l 1 (wordsL.drop 1)

theorem opFrom_at (l : List UInt8) (i : Nat) (x : List UInt8) (h : wordsL[i]? = some x) : opFrom l i (wordsL.drop i) = if x = l then i else opFrom l (i + 1) (wordsL.drop (i + 1)) := by
  obtain ⟨hi, hx⟩ := List.getElem?_eq_some_iff.1 h
  rw [List.drop_eq_getElem_cons hi, opFrom, hx]

theorem str_beq (a b : ByteArray) : (a.toList == b.toList) = (a.data.toList == b.data.toList) := by rw [Lib.toList_data, Lib.toList_data]

end Go.Proofs.YtfbhjfpkhofifaaDoor

namespace Go.Proofs.YtfbhjfpkhofifaaDoor
open Go.RowKit

def isDig (c : UInt8) : Bool := decide (48 ≤ c.toNat) && decide (c.toNat ≤ 57)
/-- the number that digits write -/
def digV (l : List UInt8) : Nat := l.foldl (fun n c => n * 10 + (c.toNat - 48)) 0
def minB (l : List UInt8) : Nat := if l.head? = some 45 then 1 else 0
def numN (l : List UInt8) : Int := if minB l = 1 then -(digV (l.drop 1) : Int) else digV l
def numB (l : List UInt8) : Bool := decide (minB l < l.length) && decide (l.length ≤ minB l + 10) && (l.drop (minB l)).all isDig
def numR (l : List UInt8) : Int × Bool := if numB l then (numN l, Lib.itoa (numN l) == l) else (0, false)

theorem digV_snoc (l : List UInt8) (c : UInt8) : digV (l ++ [c]) = digV l * 10 + (c.toNat - 48) := by simp [digV]

theorem digV_lt (l : List UInt8) (h : l.all isDig = true) : digV l < 10 ^ l.length := by
  have hg : ∀ (r : List UInt8) (n : Nat) (k : Nat), n < 10 ^ k → r.all isDig = true → r.foldl (fun n c => n * 10 + (c.toNat - 48)) n < 10 ^ (k + r.length) := by
    intro r
    induction r with
    | nil => intro n k hn _; simpa using hn
    | cons c r ih =>
      intro n k hn hr
      rw [List.all_cons, Bool.and_eq_true] at hr
      have h2 := hr.1
      simp only [isDig, Bool.and_eq_true, decide_eq_true_eq] at h2
      have := ih (n * 10 + (c.toNat - 48)) (k + 1) (by rw [Nat.pow_succ]; omega) hr.2
      rw [List.foldl_cons, List.length_cons, show k + (r.length + 1) = k + 1 + r.length by omega]
      exact this
  have := hg l 0 0 (by simp) h
  simpa [digV] using this

theorem digV_le (l : List UInt8) (h : l.all isDig = true) (hl : l.length ≤ 10) : digV l ≤ 9999999999 := by
  have h1 := digV_lt l h
  have h2 : 10 ^ l.length ≤ 10 ^ 10 := Nat.pow_le_pow_right (by omega) hl
  omega

theorem take_snoc (s : ByteArray) (a k : Nat) (h : a ≤ k) (hk : k < s.size) : (s.data.toList.drop a).take (k + 1 - a) = (s.data.toList.drop a).take (k - a) ++ [s[k]] := by
  have hl : k - a < (s.data.toList.drop a).length := by rw [List.length_drop]; simp; omega
  rw [show k + 1 - a = (k - a) + 1 by omega, List.take_succ_eq_append_getElem hl, List.getElem_drop]
  congr 2
  have e3 := Lib.Pa.at_eq s k hk
  rw [List.getElem?_eq_getElem (by simpa using hk)] at e3
  have e4 := Option.some.inj e3
  rw [← e4]
  congr 1
  omega

theorem all_not (s : ByteArray) (a k : Nat) (h : a ≤ k) (hk : k < s.size) (hd : isDig s[k] = false) : (s.data.toList.drop a).all isDig = false := by
  have h1 := take_snoc s a k h hk
  cases e : (s.data.toList.drop a).all isDig with
  | false => rfl
  | true =>
    have h2 : s[k] ∈ s.data.toList.drop a := by
      have : s[k] ∈ (s.data.toList.drop a).take (k + 1 - a) := by rw [h1]; simp
      exact List.mem_of_mem_take this
    rw [List.all_eq_true] at e
    rw [e _ h2] at hd
    exact absurd hd (by decide)

end Go.Proofs.YtfbhjfpkhofifaaDoor

namespace Go.Proofs.YtfbhjfpkhofifaaDoor
open Go.RowKit

/-- how many bytes ahead are as p says -/
def spanN (p : UInt8 → Bool) (l : List UInt8) : Nat := (l.takeWhile p).length
def notMark (c : UInt8) : Bool := !decide (c = 46) && !decide (c = 58)
def notOpen (c : UInt8) : Bool := !decide (c = 40)
def markN (l : List UInt8) : Nat := spanN notMark l
def openN (l : List UInt8) : Nat := markN l + spanN notOpen (l.drop (markN l))

theorem span_at (p : UInt8 → Bool) (s : ByteArray) (k : Nat) (h : k < s.size) : spanN p (s.data.toList.drop k) = if p s[k] then 1 + spanN p (s.data.toList.drop (k + 1)) else 0 := by
  rw [drop_cons s k h, spanN, List.takeWhile_cons]
  split
  · rw [List.length_cons, spanN]; omega
  · rfl
theorem span_end (p : UInt8 → Bool) (s : ByteArray) (k : Nat) (h : s.size ≤ k) : spanN p (s.data.toList.drop k) = 0 := by
  rw [List.drop_of_length_le (by simpa using h)]; rfl

/-- class, name and descriptor in a reference's text -/
def rfC (l : List UInt8) : List UInt8 := l.take (markN l)
def rfN (l : List UInt8) : List UInt8 := (l.drop (markN l + 1)).take (openN l - (markN l + 1))
def rfD (l : List UInt8) : List UInt8 := l.drop (openN l)
def rfB (l : List UInt8) : Bool := (l.drop (markN l)).head? == some 58
/-- is it a reference's text? -/
def rfOK (l : List UInt8) : Bool := decide (openN l < l.length) && rckB (rfC l) (rfN l) (rfD l)

theorem ex_take (s : ByteArray) (m : Nat) : (s.extract 0 m).data.toList = s.data.toList.take m := by rw [Lib.extract_data]; simp
theorem ex_mid (s : ByteArray) (a b : Nat) : (s.extract a b).data.toList = (s.data.toList.drop a).take (b - a) := Lib.extract_data _ _ _

/-- the answer for a text -/
def rfOut (l : List UInt8) : Value := .tuple #[.agg #[.bool (rfOK l && rfB l), .string (if rfOK l then ⟨(rfC l).toArray⟩ else ⟨#[]⟩), .string (if rfOK l then ⟨(rfN l).toArray⟩ else ⟨#[]⟩), .string (if rfOK l then ⟨(rfD l).toArray⟩ else ⟨#[]⟩)], .int .i64 (if rfOK l then 0 else 4)]

theorem rfOut_no {l : List UInt8} (h : rfOK l = false) : rfOut l = .tuple #[.agg #[.bool false, .string ⟨#[]⟩, .string ⟨#[]⟩, .string ⟨#[]⟩], .int .i64 4] := by rw [rfOut, h]; rfl

theorem rfOut_yes (s : ByteArray) (m o : Nat) (q : Bool) (hm : markN s.data.toList = m) (ho : openN s.data.toList = o) (h : rfOK s.data.toList = true) (hq : rfB s.data.toList = q) :
    rfOut s.data.toList = .tuple #[.agg #[.bool q, .string (s.extract 0 m), .string (s.extract (m + 1) o), .string (s.extract o s.size)], .int .i64 0] := by
  rw [rfOut, h, hq]
  have e1 : (⟨(rfC s.data.toList).toArray⟩ : ByteArray) = s.extract 0 m := by apply bytes_ext; rw [ex_take, rfC, hm]
  have e2 : (⟨(rfN s.data.toList).toArray⟩ : ByteArray) = s.extract (m + 1) o := by apply bytes_ext; rw [ex_mid, rfN, hm, ho]
  have e3 : (⟨(rfD s.data.toList).toArray⟩ : ByteArray) = s.extract o s.size := by apply bytes_ext; rw [Lib.extract_to_end, rfD, ho]
  rw [e1, e2, e3]; rfl

end Go.Proofs.YtfbhjfpkhofifaaDoor

