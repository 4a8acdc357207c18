/- Walks of the document's answers of layer 1 (arbiterref01) over lists: Parts, Valid, SameTexts: each returns what the plain function says; what was there before stays. -/
import Derived.Test.YtijlipllahfakaaGreatDoorRef
import Derived.Deep.QuietTactic
import Derived.BigQuiet
namespace Go.Proofs.YtijlipllahfakaaGreatDoor
open Go.RowKit

/-- what a round of the document's cutting loop leaves, behind the append -/
theorem rParts_rel {w wr w1 : World} {B : Nat} {v v' : Value} {done : List (List UInt8)} {part : ByteArray} {o : Obj}
    (hB : B ≤ wr.heap.size) (hown : wr.ownsRow B 9 1 v done.length (done.map strV)) (hbel : Below B w wr)
    (hown' : w1.ownsRow B 9 1 v' (done.length + 1) (done.map strV ++ [.string part])) (hg : (wr.alloc o).grownBy w1 v.ownBlock) :
    w1.ownsRow B 9 1 v' (done ++ [part.data.toList]).length ((done ++ [part.data.toList]).map strV) ∧ Below B w w1 := by
  constructor
  · simpa [strV] using hown'
  · refine (hbel.alloc hB o).grown hg (by simp; omega) ?_
    intro k hk
    exact (hown.lt k hk).1

theorem free_succ (s : ByteArray) (f k : Nat) (hf : f ≤ k) (hlt : k < s.size) (h : (47 : UInt8) ∉ (s.data.toList.drop f).take (k - f)) (e : (((s[k]).toNat : Int) == 47) = false) :
    (47 : UInt8) ∉ (s.data.toList.drop f).take (k + 1 - f) := by
  have hl : k - f < (s.data.toList.drop f).length := by rw [List.length_drop]; simp; omega
  rw [show k + 1 - f = (k - f) + 1 by omega, List.take_succ_eq_append_getElem hl]
  intro m
  rcases List.mem_append.1 m with m | m
  · exact h m
  · have m2 := List.mem_singleton.1 m
    rw [List.getElem_drop] at m2
    have e3 : s.data.toList[f + (k - f)]? = some s[k] := by rw [show f + (k - f) = k by omega]; exact Lib.Pa.at_eq s k hlt
    rw [List.getElem?_eq_getElem (by simp; omega)] at e3
    have e4 : s[k] = 47 := by rw [m2]; exact (Option.some.inj e3).symm
    rw [e4] at e; simp at e

theorem cut_here (s : ByteArray) (f k : Nat) (hf : f ≤ k) (hlt : k < s.size) (e : (((s[k]).toNat : Int) == 47) = true) :
    s.data.toList.drop f = (s.data.toList.drop f).take (k - f) ++ 47 :: s.data.toList.drop (k + 1) := by
  have h1 : s.data.toList.drop f = (s.data.toList.drop f).take (k - f) ++ (s.data.toList.drop f).drop (k - f) := (List.take_append_drop _ _).symm
  have h2 : (s.data.toList.drop f).drop (k - f) = s.data.toList.drop k := by rw [List.drop_drop]; congr 1; omega
  have h3 : s.data.toList.drop k = 47 :: s.data.toList.drop (k + 1) := by
    rw [List.drop_eq_getElem_cons (by simpa using hlt)]
    congr 1
    have e3 := Lib.Pa.at_eq s k hlt
    rw [List.getElem?_eq_getElem (by simpa using hlt)] at e3
    rw [Option.some.inj e3]
    apply UInt8.toNat_inj.1; have := beq_iff_eq.1 e; simpa using (by omega : (s[k]).toNat = 47)
  rw [h2, h3] at h1
  exact h1

set_option maxRecDepth 100000 in
set_option maxHeartbeats 1000000 in
theorem rParts_any (s : ByteArray) (hs : s.size ≤ 1099511627776) (w : World) :
    Calls Tryz.prog 52 #[.string s] w fun e w' => ∃ v, e = .returned v ∧ w'.ownsRow w.heap.size 9 1 v (partsL s.data.toList).length ((partsL s.data.toList).map strV) ∧ Below w.heap.size w w' := by
  obtain ⟨i0, hi, hz0, hz1, hz2⟩ := info_parts Tryz.info9
  have HL : Hid _ := partsL_length s.data.toList
  have HZ : Hid (s.data.toList.length = s.size) := by simp [Hid]
  go_enter Tryz.func52, Tryz.ntmps52
  go_wp2
  go_loopw [3, 4, 5] (fun v fr i wr => ∃ (done : List (List UInt8)) (f k : Nat), fr = .int .i64 f ∧ i = .int .i64 k ∧ f ≤ k ∧ k ≤ s.size ∧
      wr.ownsRow w.heap.size 9 1 v done.length (done.map strV) ∧ Below w.heap.size w wr ∧ Hid ((47 : UInt8) ∉ (s.data.toList.drop f).take (k - f)) ∧ Hid (done ++ partsL (s.data.toList.drop f) = partsL s.data.toList))
    (fun _ _ i _ => s.size - (intOf i).toNat)
  case atStart => exact ⟨[], 0, 0, rfl, rfl, Nat.le_refl _, Nat.zero_le _, World.ownsRow_nil _ _ _ _, Below.refl _ _, by simp [Hid], by simp [Hid]⟩
  case round =>
    obtain ⟨done, f, k, rfl, rfl, hfk, hks, hown, hbel, hfree, hp⟩ := hrel
    have hbs := hbel.size
    have hn1 := partsL_ne (s.data.toList.drop f)
    have hn2 : 1 ≤ (partsL (s.data.toList.drop f)).length := by
      cases e : partsL (s.data.toList.drop f) with
      | nil => exact absurd e hn1
      | cons a b => simp
    have hdl : done.length + 1 ≤ s.size + 1 := by have := HL.out; rw [← hp.out, HZ.out, List.length_append] at this; omega
    clear hn1 hn2
    by_cases hlt : k < s.size
    · cases he : (((s[k]).toNat : Int) == 47) with
      | true =>
        have HC : Hid _ := cut_here s f k hfk hlt he
        have hd : done ++ [(s.extract f k).data.toList] ++ partsL (s.data.toList.drop (k + 1)) = partsL s.data.toList := by
          rw [← hp.out, Lib.extract_data]
          conv => rhs; rw [HC.out, partsL_cut _ _ hfree.out]
          simp
        have HD : Hid _ := hd
        clear hd HC hp hfree
        have hex : (s.extract f k).size ≤ s.size := by simp; omega
        go_wp2_with (at_builtin; refine wpList_append_own _ rfl _ _ 41 rfl w.heap.size 9 i0 (.string ⟨#[]⟩) 1 16 Tryz.underlying41 hi hz0 hz1 hz2 rfl (by decide) _ _ _ rfl (hown.alloc _) ⟨wr.heap.size, 0, none⟩ 1 1 [.string (s.extract f k)] rfl rfl ?c1 ?c2 ?c3 ?c4 ?c5 ?_)
        case c1 => exact cell_one_new _ _ _
        case c2 => intro u hu; simp at hu; subst hu; rfl
        case c3 => unfold maxLen; omega
        case c4 => omega
        case c5 => simp; omega
        · intro v' w1 hown' hgrow _
          have R := rParts_rel hbs hown hbel hown' hgrow
          clear hown' hgrow hown
          go_wp2
          go_roundw
          case rel => exact ⟨done ++ [(s.extract f k).data.toList], k + 1, k + 1, by go_num, by go_num, Nat.le_refl _, by omega, R.1, R.2, by simp [Hid], HD.out⟩
          case measure => simp [intOf]; omega
      | false =>
        have HF : Hid _ := free_succ s f k hfk hlt hfree.out he
        clear hfree
        go_wp2
        go_roundw
        case rel => exact ⟨done, f, k + 1, rfl, by go_num, by omega, by omega, hown, hbel, HF, hp⟩
        case measure => simp [intOf]; omega
    · have hk' : k = s.size := by omega
      have hd : done ++ [(s.extract f s.size).data.toList] = partsL s.data.toList := by
        rw [← hp.out, Lib.extract_to_end]
        congr 1
        have : (47 : UInt8) ∉ s.data.toList.drop f := by
          have := hfree.out
          rw [hk', List.take_of_length_le (by rw [List.length_drop, HZ.out]; omega)] at this
          exact this
        rw [partsL_free _ this]
      have HD : Hid _ := hd
      subst hk'
      clear hd hp hfree
      go_wp2_with (at_builtin; refine wpList_append_own _ rfl _ _ 41 rfl w.heap.size 9 i0 (.string ⟨#[]⟩) 1 16 Tryz.underlying41 hi hz0 hz1 hz2 rfl (by decide) _ _ _ rfl (hown.alloc _) ⟨wr.heap.size, 0, none⟩ 1 1 [.string (s.extract f s.size)] rfl rfl ?d1 ?d2 ?d3 ?d4 ?d5 ?_)
      case d1 => exact cell_one_new _ _ _
      case d2 => intro u hu; simp at hu; subst hu; rfl
      case d3 => unfold maxLen; omega
      case d4 => omega
      case d5 => simp; omega
      · intro v' w1 hown' hgrow _
        have R := rParts_rel hbs hown hbel hown' hgrow
        rw [HD.out] at R
        clear hown' hgrow hown
        go_wp2
        go_ret
        exact ⟨_, rfl, R⟩

end Go.Proofs.YtijlipllahfakaaGreatDoor
