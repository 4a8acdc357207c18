/- The walk of names.Parts: it answers the parts of the text in new memory; what was there before stays. -/
import Derived.Test.YtijlipllahfakaaGreatDoorParts
namespace Go.Proofs.YtijlipllahfakaaGreatDoor
open Go.RowKit

def strV (p : List UInt8) : Value := .string ⟨p.toArray⟩
theorem strV_self (s : ByteArray) : strV s.data.toList = .string s := rfl
def lenV : Value → Nat | .string s => s.size | _ => 0
def boolV : Value → Nat | .bool true => 1 | _ => 0

theorem Tryz.info9 : (Tryz.prog.info? 9).map (fun i => (i.zero, i.size, i.bytes)) = some (some (.string ⟨#[]⟩), 1, 16) := by kernel_rfl

/-- what a round of the cutting loop leaves, behind the append -/
theorem parts_rel {w wr w1 : World} {nq : Nat} {B : Nat} {v v' : Value} {done : List (List UInt8)} {part : ByteArray} {o : Obj}
    (hB : B ≤ wr.heap.size) (hown : wr.ownsRow B 9 1 v done.length (done.map strV)) (hbel : Below B w wr)
    (hown' : w1.ownsRow B 9 1 v' (done.length + 1) (done.map strV ++ [.string part])) (hg : ((wr.drewN nq).alloc o).grownBy w1 v.ownBlock) :
    w1.ownsRow B 9 1 v' (done ++ [part.data.toList]).length ((done ++ [part.data.toList]).map strV) ∧ Below B w w1 := by
  constructor
  · simpa [strV] using hown'
  · refine ((below_drewN hbel nq).alloc (by simpa using hB) o).grown hg (by simp; omega) ?_
    intro k hk
    exact (hown.lt k hk).1

theorem mk_size (b : List UInt8) : (⟨b.toArray⟩ : ByteArray).size = b.length := by show b.toArray.size = _; simp

theorem grow_drew {w : World} {base : Nat} {e : TypeId} {size : Nat} {v : Value} {n : Nat} {xs : List Value} (h : w.ownsRow base e size v n xs) (q : Nat) : (w.drewN q).ownsRow base e size v n xs := h

set_option maxHeartbeats 400000 in
theorem parts_any (s : ByteArray) (hs : s.size ≤ 1099511627776) (w : World) :
    Calls Tryz.prog 79 #[.string s] w fun e w' => ∃ v, e = .returned v ∧ w'.ownsRow w.heap.size 9 1 v (partsL s.data.toList).length ((partsL s.data.toList).map strV) ∧ Below w.heap.size w w' := by
  obtain ⟨i0, hi, hz0, hz1, hz2⟩ := info_parts Tryz.info9
  have HL : Hid _ := partsL_length s.data.toList
  go_enter Tryz.func79, Tryz.ntmps79
  go_wp2
  go_loopw [3, 4, 5] (fun v r m wr => ∃ (done : List (List UInt8)) (rest : ByteArray) (b : Bool), r = .string rest ∧ m = .bool b ∧ rest.size ≤ s.size ∧
      wr.ownsRow w.heap.size 9 1 v done.length (done.map strV) ∧ Below w.heap.size w wr ∧ Hid (done ++ (if b then partsL rest.data.toList else []) = partsL s.data.toList))
    (fun _ r m _ => (lenV r + 1) * boolV m)
  case atStart => exact ⟨[], s, true, rfl, rfl, Nat.le_refl _, World.ownsRow_nil _ _ _ _, Below.refl _ _, by simp [Hid]⟩
  case round =>
    obtain ⟨done, rest, b, rfl, rfl, hrs, hown, hbel, hp⟩ := hrel
    cases b
    · go_wp2
      go_ret
      have he : done = partsL s.data.toList := by have := hp.out; simpa using this
      rw [← he]
      exact ⟨_, rfl, hown, hbel⟩
    · have hbs := hbel.size
      by_cases hx : Lib.indexByte rest.data.toList 47 = -1
      · have HC : Hid (∀ w, _) := fun w => cut_miss rest w hx
        have hd : done ++ [rest.data.toList] = partsL s.data.toList := by have := hp.out; rw [if_pos rfl, partsL_free _ (indexByte_miss _ hx)] at this; exact this
        have hdl : done.length + 1 ≤ s.size + 1 := by have := HL.out; rw [← hd] at this; simpa using this
        have HD : Hid _ := hd
        clear hx hp hd HL
        go_wp2_with (first
          | (go_at_call 12; refine ((HC.out) _).mono ?_; rintro e w' ⟨rfl, nq, rfl⟩)
          | (at_builtin; refine wpList_append_own _ rfl _ _ 41 rfl w.heap.size 9 i0 (.string ⟨#[]⟩) 1 16 Tryz.underlying41 hi hz0 hz1 hz2 rfl (by decide) _ _ _ rfl ((grow_drew hown _).alloc _) ⟨wr.heap.size, 0, none⟩ 1 1 [.string rest] rfl rfl ?c1 ?c2 ?c3 ?c4 ?c5 ?_))
        case c1 => exact cell_one_new _ _ _
        case c2 => intro u hu; simp at hu; subst hu; rfl
        case c3 => unfold maxLen; omega
        case c4 => omega
        case c5 => simp; omega
        · intro v' w1 hown' hgrow _
          have R := parts_rel hbs hown hbel hown' hgrow
          clear hown' hgrow hown
          go_wp2
          go_roundw
          case rel => exact ⟨done ++ [rest.data.toList], ⟨#[]⟩, false, rfl, rfl, Nat.zero_le _, R.1, R.2, by have := HD.out; simpa [Hid] using this⟩
          case measure => simp [lenV, boolV]
      · obtain ⟨a, b, hab, ha, hix⟩ := indexByte_hit _ hx
        have hsz : rest.size = a.length + 1 + b.length := by have : rest.data.toList.length = rest.size := by simp
                                                             rw [← this, hab]; simp; omega
        have han : a.length < rest.size := by omega
        have HC : Hid (∀ w, _) := fun w => cut_hit rest (by unfold maxLen; omega) w a.length han hix
        have e1 : rest.extract 0 a.length = ⟨a.toArray⟩ := by rw [take_bytes, hab]; simp
        have e2 : rest.extract (a.length + 1) rest.size = ⟨b.toArray⟩ := by
          rw [drop_bytes, hab, show a ++ 47 :: b = (a ++ [47]) ++ b by simp, List.drop_left' (by simp)]
        rw [e1, e2] at HC
        have hd : done ++ [a] ++ partsL b = partsL s.data.toList := by have := hp.out; rw [if_pos rfl, hab, partsL_cut _ _ ha] at this; simpa using this
        have hdl : done.length + 1 ≤ s.size + 1 := by have := HL.out; rw [← hd] at this; simp at this; omega
        have HD : Hid _ := hd
        clear hx hp hd HL hab ha hix e1 e2
        go_wp2_with (first
          | (go_at_call 12; refine ((HC.out) _).mono ?_; rintro e w' ⟨rfl, nq, rfl⟩)
          | (at_builtin; refine wpList_append_own _ rfl _ _ 41 rfl w.heap.size 9 i0 (.string ⟨#[]⟩) 1 16 Tryz.underlying41 hi hz0 hz1 hz2 rfl (by decide) _ _ _ rfl ((grow_drew hown _).alloc _) ⟨wr.heap.size, 0, none⟩ 1 1 [.string ⟨a.toArray⟩] rfl rfl ?d1 ?d2 ?d3 ?d4 ?d5 ?_))
        case d1 => exact cell_one_new _ _ _
        case d2 => intro u hu; simp at hu; subst hu; rfl
        case d3 => unfold maxLen; omega
        case d4 => omega
        case d5 => simp; omega
        · intro v' w1 hown' hgrow _
          have R := parts_rel hbs hown hbel hown' hgrow
          clear hown' hgrow hown
          go_wp2
          go_roundw
          case rel => exact ⟨done ++ [a], ⟨b.toArray⟩, true, rfl, rfl, by rw [mk_size]; omega, R.1, R.2, HD.out⟩
          case measure => simp [lenV, boolV, mk_size]; omega

end Go.Proofs.YtijlipllahfakaaGreatDoor
