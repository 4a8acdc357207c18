/- Walks of arbiterref02's Text, RefText, ArrayOf, Component and Element: each returns what the plain functions say; what was there before stays. -/
import Derived.Test.YtijlipllahfakaaGreatDoorTypesRef
namespace Go.Proofs.YtijlipllahfakaaGreatDoor
open Go.RowKit

theorem snd_nat {d : Int} {l : List UInt8} (h : sndB d l = true) : ∃ k : Nat, d = k ∧ k ≤ 255 := by
  unfold sndB at h
  simp at h
  exact ⟨d.toNat, by omega, by omega⟩
theorem snd_len {d : Int} {l : List UInt8} (h : sndB d l = true) : l.length ≤ 60 := by
  unfold sndB at h
  simp only [Bool.and_eq_true, Bool.or_eq_true] at h
  rcases h.2 with e | e
  · rw [List.isEmpty_iff.1 e]; simp
  · exact valid_len e

/-- the text of a type, or nothing -/
def textS (d : Int) (l : List UInt8) : List UInt8 := if sndB d l then writeT (d.toNat, l) else []

/-- the error of ArrayOf, of Component -/
def arrE (d : Int) (l : List UInt8) : Int := if sndB d l then (if d = 255 then 5 else 0) else 1
def cmpE (d : Int) (l : List UInt8) : Int := if sndB d l then (if d = 0 then 6 else 0) else 1
/-- beside an error: the zero type -/
def outD (e x : Int) : Int := if e = 0 then x else 0
def outS (e : Int) (s : ByteArray) : ByteArray := if e = 0 then s else ⟨#[]⟩

def chkE (d : Int) (l : List UInt8) : Int := chkI (sndB d l)

/-- the error of RefText, and its text -/
def refE (d : Int) (l : List UInt8) : Int := if sndB d l then (if d = 0 ∧ l = [] then 2 else 0) else 1
def refS (d : Int) (l : List UInt8) : List UInt8 := if refE d l = 0 then (if d = 0 then l else writeT (d.toNat, l)) else []

end Go.Proofs.YtijlipllahfakaaGreatDoor
