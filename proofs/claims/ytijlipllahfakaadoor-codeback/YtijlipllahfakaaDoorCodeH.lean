/- The walk of the document's Number (arbiterref04): the number that digits write; what was there before stays. -/
import Derived.Test.YtijlipllahfakaaDoorCodeB
import Derived.Test.YtijlipllahfakaaDoorCodeF
namespace Go.Proofs.YtijlipllahfakaaDoor
open Go.RowKit

def isDig (c : UInt8) : Bool := decide (48 ≤ c.toNat) && decide (c.toNat ≤ 57)
/-- the number that digits write -/
def digV (l : List UInt8) : Nat := l.foldl (fun n c => n * 10 + (c.toNat - 48)) 0
def minB (l : List UInt8) : Nat := if l.head? = some 45 then 1 else 0
def numN (l : List UInt8) : Int := if minB l = 1 then -(digV (l.drop 1) : Int) else digV l
def numB (l : List UInt8) : Bool := decide (minB l < l.length) && decide (l.length ≤ minB l + 10) && (l.drop (minB l)).all isDig
def numR (l : List UInt8) : Int × Bool := if numB l then (numN l, Lib.itoa (numN l) == l) else (0, false)

theorem digV_snoc (l : List UInt8) (c : UInt8) : digV (l ++ [c]) = digV l * 10 + (c.toNat - 48) := by simp [digV]

theorem digV_lt (l : List UInt8) (h : l.all isDig = true) : digV l < 10 ^ l.length := by
  have hg : ∀ (r : List UInt8) (n : Nat) (k : Nat), n < 10 ^ k → r.all isDig = true → r.foldl (fun n c => n * 10 + (c.toNat - 48)) n < 10 ^ (k + r.length) := by
    intro r
    induction r with
    | nil => intro n k hn _; simpa using hn
    | cons c r ih =>
      intro n k hn hr
      rw [List.all_cons, Bool.and_eq_true] at hr
      have h2 := hr.1
      simp only [isDig, Bool.and_eq_true, decide_eq_true_eq] at h2
      have := ih (n * 10 + (c.toNat - 48)) (k + 1) (by rw [Nat.pow_succ]; omega) hr.2
      rw [List.foldl_cons, List.length_cons, show k + (r.length + 1) = k + 1 + r.length by omega]
      exact this
  have := hg l 0 0 (by simp) h
  simpa [digV] using this

theorem digV_le (l : List UInt8) (h : l.all isDig = true) (hl : l.length ≤ 10) : digV l ≤ 9999999999 := by
  have h1 := digV_lt l h
  have h2 : 10 ^ l.length ≤ 10 ^ 10 := Nat.pow_le_pow_right (by omega) hl
  omega

theorem take_snoc (s : ByteArray) (a k : Nat) (h : a ≤ k) (hk : k < s.size) : (s.data.toList.drop a).take (k + 1 - a) = (s.data.toList.drop a).take (k - a) ++ [s[k]] := by
  have hl : k - a < (s.data.toList.drop a).length := by rw [List.length_drop]; simp; omega
  rw [show k + 1 - a = (k - a) + 1 by omega, List.take_succ_eq_append_getElem hl, List.getElem_drop]
  congr 2
  have e3 := Lib.Pa.at_eq s k hk
  rw [List.getElem?_eq_getElem (by simpa using hk)] at e3
  have e4 := Option.some.inj e3
  rw [← e4]
  congr 1
  omega

theorem all_not (s : ByteArray) (a k : Nat) (h : a ≤ k) (hk : k < s.size) (hd : isDig s[k] = false) : (s.data.toList.drop a).all isDig = false := by
  have h1 := take_snoc s a k h hk
  cases e : (s.data.toList.drop a).all isDig with
  | false => rfl
  | true =>
    have h2 : s[k] ∈ s.data.toList.drop a := by
      have : s[k] ∈ (s.data.toList.drop a).take (k + 1 - a) := by rw [h1]; simp
      exact List.mem_of_mem_take this
    rw [List.all_eq_true] at e
    rw [e _ h2] at hd
    exact absurd hd (by decide)

end Go.Proofs.YtijlipllahfakaaDoor
