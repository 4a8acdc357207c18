/- The walk of the document's Cut (arbiterref04): a text at each byte c; what was there before stays. -/
import Derived.Test.YtfbhjfpkhofifaaGreatDoorRefLists
namespace Go.Proofs.YtfbhjfpkhofifaaGreatDoor
open Go.RowKit

/-- a text, cut at each byte c -/
def cutL (c : UInt8) : List UInt8 → List (List UInt8)
  | [] => [[]]
  | x :: l => if x = c then [] :: cutL c l else match cutL c l with
    | [] => [[x]]
    | p :: r => (x :: p) :: r

theorem cutL_ne (c : UInt8) (l : List UInt8) : cutL c l ≠ [] := by
  cases l with
  | nil => simp [cutL]
  | cons x l =>
    unfold cutL
    split
    · simp
    · split <;> simp

theorem cutL_free (c : UInt8) (l : List UInt8) (h : c ∉ l) : cutL c l = [l] := by
  induction l with
  | nil => rfl
  | cons x l ih =>
    have hc : x ≠ c := fun e => h (by simp [e])
    have := ih (fun m => h (List.mem_cons_of_mem _ m))
    simp [cutL, hc, this]

theorem cutL_cut (c : UInt8) (a b : List UInt8) (h : c ∉ a) : cutL c (a ++ c :: b) = a :: cutL c b := by
  induction a with
  | nil => simp [cutL]
  | cons x l ih =>
    have hc : x ≠ c := fun e => h (by simp [e])
    have := ih (fun m => h (List.mem_cons_of_mem _ m))
    simp [cutL, hc, this]

theorem cutL_length (c : UInt8) (l : List UInt8) : (cutL c l).length ≤ l.length + 1 := by
  induction l with
  | nil => simp [cutL]
  | cons x l ih =>
    have hn := cutL_ne c l
    unfold cutL
    split
    · simp; omega
    · split
      · contradiction
      · rename_i p ps e
        rw [e] at ih
        simp at ih ⊢
        omega

theorem cfree_succ (c : UInt8) (s : ByteArray) (f k : Nat) (hf : f ≤ k) (hlt : k < s.size) (h : c ∉ (s.data.toList.drop f).take (k - f)) (e : (((s[k]).toNat : Int) == (c.toNat : Int)) = false) :
    c ∉ (s.data.toList.drop f).take (k + 1 - f) := by
  have hl : k - f < (s.data.toList.drop f).length := by rw [List.length_drop]; simp; omega
  rw [show k + 1 - f = (k - f) + 1 by omega, List.take_succ_eq_append_getElem hl]
  intro m
  rcases List.mem_append.1 m with m | m
  · exact h m
  · have m2 := List.mem_singleton.1 m
    rw [List.getElem_drop] at m2
    have e3 : s.data.toList[f + (k - f)]? = some s[k] := by rw [show f + (k - f) = k by omega]; exact Lib.Pa.at_eq s k hlt
    rw [List.getElem?_eq_getElem (by simp; omega)] at e3
    have e4 : s[k] = c := by rw [m2]; exact (Option.some.inj e3).symm
    rw [e4] at e; simp at e

theorem ccut_here (c : UInt8) (s : ByteArray) (f k : Nat) (hf : f ≤ k) (hlt : k < s.size) (e : (((s[k]).toNat : Int) == (c.toNat : Int)) = true) :
    s.data.toList.drop f = (s.data.toList.drop f).take (k - f) ++ c :: s.data.toList.drop (k + 1) := by
  have h1 : s.data.toList.drop f = (s.data.toList.drop f).take (k - f) ++ (s.data.toList.drop f).drop (k - f) := (List.take_append_drop _ _).symm
  have h2 : (s.data.toList.drop f).drop (k - f) = s.data.toList.drop k := by rw [List.drop_drop]; congr 1; omega
  have h3 : s.data.toList.drop k = c :: s.data.toList.drop (k + 1) := by
    rw [List.drop_eq_getElem_cons (by simpa using hlt)]
    congr 1
    have e3 := Lib.Pa.at_eq s k hlt
    rw [List.getElem?_eq_getElem (by simpa using hlt)] at e3
    rw [Option.some.inj e3]
    apply UInt8.toNat_inj.1; have := beq_iff_eq.1 e; exact (by omega : (s[k]).toNat = c.toNat)
  rw [h2, h3] at h1
  exact h1

set_option maxRecDepth 100000 in
set_option maxHeartbeats 1000000 in
theorem rCut_any (c : UInt8) (s : ByteArray) (hs : s.size ≤ 1099511627776) (w : World) :
    Calls Tryz.prog 45 #[.string s, .int .u8 c.toNat] w fun e w' => ∃ v, e = .returned v ∧ w'.ownsRow w.heap.size 9 1 v (cutL c s.data.toList).length ((cutL c s.data.toList).map strV) ∧ Below w.heap.size w w' := by
  obtain ⟨i0, hi, hz0, hz1, hz2⟩ := info_parts Tryz.info9
  have HL : Hid _ := cutL_length c s.data.toList
  have HZ : Hid (s.data.toList.length = s.size) := by simp [Hid]
  go_enter Tryz.func45, Tryz.ntmps45
  go_wp2
  go_loopw [5, 6, 7] (fun v fr i wr => ∃ (done : List (List UInt8)) (f k : Nat), fr = .int .i64 f ∧ i = .int .i64 k ∧ f ≤ k ∧ k ≤ s.size ∧
      wr.ownsRow w.heap.size 9 1 v done.length (done.map strV) ∧ Below w.heap.size w wr ∧ Hid (c ∉ (s.data.toList.drop f).take (k - f)) ∧ Hid (done ++ cutL c (s.data.toList.drop f) = cutL c s.data.toList))
    (fun _ _ i _ => s.size - (intOf i).toNat)
  case atStart => exact ⟨[], 0, 0, rfl, rfl, Nat.le_refl _, Nat.zero_le _, World.ownsRow_nil _ _ _ _, Below.refl _ _, by simp [Hid], by simp [Hid]⟩
  case round =>
    obtain ⟨done, f, k, rfl, rfl, hfk, hks, hown, hbel, hfree, hp⟩ := hrel
    have hbs := hbel.size
    have hn1 := cutL_ne c (s.data.toList.drop f)
    have hn2 : 1 ≤ (cutL c (s.data.toList.drop f)).length := by
      cases e : cutL c (s.data.toList.drop f) with
      | nil => exact absurd e hn1
      | cons a b => simp
    have hdl : done.length + 1 ≤ s.size + 1 := by have := HL.out; rw [← hp.out, HZ.out, List.length_append] at this; omega
    clear hn1 hn2
    by_cases hlt : k < s.size
    · cases he : (((s[k]).toNat : Int) == (c.toNat : Int)) with
      | true =>
        have HC : Hid _ := ccut_here c s f k hfk hlt he
        have hd : done ++ [(s.extract f k).data.toList] ++ cutL c (s.data.toList.drop (k + 1)) = cutL c s.data.toList := by
          rw [← hp.out, Lib.extract_data]
          conv => rhs; rw [HC.out, cutL_cut c _ _ hfree.out]
          simp
        have HD : Hid _ := hd
        clear hd HC hp hfree
        have hex : (s.extract f k).size ≤ s.size := by simp; omega
        go_wp2_with (at_builtin; refine wpList_append_own _ rfl _ _ 22 rfl w.heap.size 9 i0 (.string ⟨#[]⟩) 1 16 Tryz.underlying22 hi hz0 hz1 hz2 rfl (by decide) _ _ _ rfl (hown.alloc _) ⟨wr.heap.size, 0, none⟩ 1 1 [.string (s.extract f k)] rfl rfl ?c1 ?c2 ?c3 ?c4 ?c5 ?_)
        case c1 => exact cell_one_new _ _ _
        case c2 => intro u hu; simp at hu; subst hu; rfl
        case c3 => unfold maxLen; omega
        case c4 => omega
        case c5 => simp; omega
        · intro v' w1 hown' hgrow _
          have R := rParts_rel hbs hown hbel hown' hgrow
          clear hown' hgrow hown
          go_wp2
          go_roundw
          case rel => exact ⟨done ++ [(s.extract f k).data.toList], k + 1, k + 1, by go_num, by go_num, Nat.le_refl _, by omega, R.1, R.2, by simp [Hid], HD.out⟩
          case measure => simp [intOf]; omega
      | false =>
        have HF : Hid _ := cfree_succ c s f k hfk hlt hfree.out he
        clear hfree
        go_wp2
        go_roundw
        case rel => exact ⟨done, f, k + 1, rfl, by go_num, by omega, by omega, hown, hbel, HF, hp⟩
        case measure => simp [intOf]; omega
    · have hk' : k = s.size := by omega
      have hd : done ++ [(s.extract f s.size).data.toList] = cutL c s.data.toList := by
        rw [← hp.out, Lib.extract_to_end]
        congr 1
        have : c ∉ s.data.toList.drop f := by
          have := hfree.out
          rw [hk', List.take_of_length_le (by rw [List.length_drop, HZ.out]; omega)] at this
          exact this
        rw [cutL_free c _ this]
      have HD : Hid _ := hd
      subst hk'
      clear hd hp hfree
      go_wp2_with (at_builtin; refine wpList_append_own _ rfl _ _ 22 rfl w.heap.size 9 i0 (.string ⟨#[]⟩) 1 16 Tryz.underlying22 hi hz0 hz1 hz2 rfl (by decide) _ _ _ rfl (hown.alloc _) ⟨wr.heap.size, 0, none⟩ 1 1 [.string (s.extract f s.size)] rfl rfl ?d1 ?d2 ?d3 ?d4 ?d5 ?_)
      case d1 => exact cell_one_new _ _ _
      case d2 => intro u hu; simp at hu; subst hu; rfl
      case d3 => unfold maxLen; omega
      case d4 => omega
      case d5 => simp; omega
      · intro v' w1 hown' hgrow _
        have R := rParts_rel hbs hown hbel hown' hgrow
        rw [HD.out] at R
        clear hown' hgrow hown
        go_wp2
        go_ret
        exact ⟨_, rfl, R⟩

end Go.Proofs.YtfbhjfpkhofifaaGreatDoor
