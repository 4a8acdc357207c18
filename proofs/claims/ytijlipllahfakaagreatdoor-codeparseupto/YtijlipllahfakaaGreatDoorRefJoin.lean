/- The walk of the document's answer for Join (arbiterref01.Join): it answers the joined parts or ErrForm, as the plain functions say; the world stays. -/
import Derived.Test.YtijlipllahfakaaGreatDoorRefLists
namespace Go.Proofs.YtijlipllahfakaaGreatDoor
open Go.RowKit

theorem cat_bytes (x : ByteArray) (p : List UInt8) : (x ++ ⟨#[47]⟩ ++ ⟨p.toArray⟩ : ByteArray).data.toList = x.data.toList ++ 47 :: p := by
  simp [ByteArray.data_append]
theorem cat_len (x : ByteArray) (p : List UInt8) : (x ++ ⟨#[47]⟩ ++ ⟨p.toArray⟩ : ByteArray).size = x.size + 1 + p.length := by
  rw [ByteArray.size_append, ByteArray.size_append, mk_size]; rfl

theorem join_take_len (ps : List (List UInt8)) (k : Nat) : (Lib.join (ps.take k) [47]).length ≤ ps.length - 1 + Lib.lens ps := by
  by_cases h2 : ps.take k = []
  · rw [h2]; simp [Lib.join_nil]
  · rw [join_length_eq _ h2]
    have h1 := lens_take ps k
    have h3 : (ps.take k).length ≤ ps.length := by rw [List.length_take]; omega
    omega

end Go.Proofs.YtijlipllahfakaaGreatDoor
