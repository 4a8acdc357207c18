/- The walk of the document's ParseRefText (arbiterref04): a reference from its text; what was there before stays. -/
import Derived.Test.YtijlipllahfakaaDoorCodeD
namespace Go.Proofs.YtijlipllahfakaaDoor
open Go.RowKit

/-- how many bytes ahead are as p says -/
def spanN (p : UInt8 → Bool) (l : List UInt8) : Nat := (l.takeWhile p).length
def notMark (c : UInt8) : Bool := !decide (c = 46) && !decide (c = 58)
def notOpen (c : UInt8) : Bool := !decide (c = 40)
def markN (l : List UInt8) : Nat := spanN notMark l
def openN (l : List UInt8) : Nat := markN l + spanN notOpen (l.drop (markN l))

theorem span_at (p : UInt8 → Bool) (s : ByteArray) (k : Nat) (h : k < s.size) : spanN p (s.data.toList.drop k) = if p s[k] then 1 + spanN p (s.data.toList.drop (k + 1)) else 0 := by
  rw [drop_cons s k h, spanN, List.takeWhile_cons]
  split
  · rw [List.length_cons, spanN]; omega
  · rfl
theorem span_end (p : UInt8 → Bool) (s : ByteArray) (k : Nat) (h : s.size ≤ k) : spanN p (s.data.toList.drop k) = 0 := by
  rw [List.drop_of_length_le (by simpa using h)]; rfl

/-- class, name and descriptor in a reference's text -/
def rfC (l : List UInt8) : List UInt8 := l.take (markN l)
def rfN (l : List UInt8) : List UInt8 := (l.drop (markN l + 1)).take (openN l - (markN l + 1))
def rfD (l : List UInt8) : List UInt8 := l.drop (openN l)
def rfB (l : List UInt8) : Bool := (l.drop (markN l)).head? == some 58
/-- is it a reference's text? -/
def rfOK (l : List UInt8) : Bool := decide (openN l < l.length) && rckB (rfC l) (rfN l) (rfD l)

theorem ex_take (s : ByteArray) (m : Nat) : (s.extract 0 m).data.toList = s.data.toList.take m := by rw [Lib.extract_data]; simp
theorem ex_mid (s : ByteArray) (a b : Nat) : (s.extract a b).data.toList = (s.data.toList.drop a).take (b - a) := Lib.extract_data _ _ _

/-- the answer for a text -/
def rfOut (l : List UInt8) : Value := .tuple #[.agg #[.bool (rfOK l && rfB l), .string (if rfOK l then ⟨(rfC l).toArray⟩ else ⟨#[]⟩), .string (if rfOK l then ⟨(rfN l).toArray⟩ else ⟨#[]⟩), .string (if rfOK l then ⟨(rfD l).toArray⟩ else ⟨#[]⟩)], .int .i64 (if rfOK l then 0 else 4)]

theorem rfOut_no {l : List UInt8} (h : rfOK l = false) : rfOut l = .tuple #[.agg #[.bool false, .string ⟨#[]⟩, .string ⟨#[]⟩, .string ⟨#[]⟩], .int .i64 4] := by rw [rfOut, h]; rfl

theorem rfOut_yes (s : ByteArray) (m o : Nat) (q : Bool) (hm : markN s.data.toList = m) (ho : openN s.data.toList = o) (h : rfOK s.data.toList = true) (hq : rfB s.data.toList = q) :
    rfOut s.data.toList = .tuple #[.agg #[.bool q, .string (s.extract 0 m), .string (s.extract (m + 1) o), .string (s.extract o s.size)], .int .i64 0] := by
  rw [rfOut, h, hq]
  have e1 : (⟨(rfC s.data.toList).toArray⟩ : ByteArray) = s.extract 0 m := by apply bytes_ext; rw [ex_take, rfC, hm]
  have e2 : (⟨(rfN s.data.toList).toArray⟩ : ByteArray) = s.extract (m + 1) o := by apply bytes_ext; rw [ex_mid, rfN, hm, ho]
  have e3 : (⟨(rfD s.data.toList).toArray⟩ : ByteArray) = s.extract o s.size := by apply bytes_ext; rw [Lib.extract_to_end, rfD, ho]
  rw [e1, e2, e3]; rfl

end Go.Proofs.YtijlipllahfakaaDoor
