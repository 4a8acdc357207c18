/- The walk of names.Join: it answers the joined parts or ErrForm, as the plain functions say; what was there before stays. -/
import Derived.Test.YtiinjaiigofbjaaValid
import Derived.Test.YtiinjaiigofbjaaFacts
import Derived.Test.YtiinjaiigofbjaaShelf
import Derived.Lib.Join
namespace Go.Proofs.Ytiinjaiigofbjaa
open Go.RowKit

def joinOk (ps : List (List UInt8)) : Bool := !ps.isEmpty && ps.all partL && decide (ps.length - 1 + Lib.lens ps ≤ 60)
def joinS (ps : List (List UInt8)) : List UInt8 := if joinOk ps then Lib.join ps [47] else []
def joinE (ps : List (List UInt8)) : Int := if joinOk ps then 0 else 1

/-- the value v is a list of texts ps in the world w -/
def IsStrs (w : World) (v : Value) (ps : List (List UInt8)) : Prop :=
  ∃ ao cap, v = .slice ao ps.length cap ∧ ps.length ≤ cap ∧ cap ≤ maxLen ∧
    (ps ≠ [] → ∃ bk o, ao = some ⟨bk, o, none⟩ ∧ bk < w.heap.size ∧ ∀ k p, ps[k]? = some p → w.cell? ⟨bk, o + k, none⟩ = some (.string ⟨p.toArray⟩))

theorem IsStrs.keep {w w' : World} {v : Value} {ps : List (List UInt8)} (h : IsStrs w v ps) (hb : Below w.heap.size w w') : IsStrs w' v ps := by
  obtain ⟨ao, cap, rfl, h1, h2, h3⟩ := h
  refine ⟨ao, cap, rfl, h1, h2, fun hne => ?_⟩
  obtain ⟨bk, o, e, hlt, hc⟩ := h3 hne
  exact ⟨bk, o, e, Nat.lt_of_lt_of_le hlt hb.size, fun k p hk => (hb.cell hlt).trans (hc k p hk)⟩

theorem own_strs {w : World} {base : Nat} {v : Value} {ps : List (List UInt8)} (h : w.ownsRow base 9 1 v ps.length (ps.map strV)) : IsStrs w v ps := by
  by_cases hne : ps = []
  · subst hne
    rcases h.2 with ⟨rfl, _⟩ | ⟨g, cap, cur, rfl, hb, hg, hn, hm, _, _⟩
    · exact ⟨none, 0, rfl, Nat.le_refl _, by unfold maxLen; omega, fun h => absurd rfl h⟩
    · exact ⟨_, cap, rfl, hn, hm, fun h => absurd rfl h⟩
  · obtain ⟨g, cap, rfl, _, hgl, hcap, hcm, hcell⟩ := own_shape h hne
    exact ⟨_, cap, rfl, hcap, hcm, fun _ => ⟨g, 0, rfl, hgl, fun k p hk => by rw [Nat.zero_add]; exact hcell k p hk⟩⟩

theorem lens_take_le (ps : List (List UInt8)) (k : Nat) : Lib.lens (ps.take k) ≤ Lib.lens ps := by
  have h : Lib.lens (ps.take k ++ ps.drop k) = Lib.lens (ps.take k) + Lib.lens (ps.drop k) := by unfold Lib.lens; rw [List.map_append, List.sum_append]
  rw [List.take_append_drop] at h
  omega

theorem joinOk_stop (ps : List (List UInt8)) (k : Nat) (p : List UInt8) (h : ps[k]? = some p) (hp : partL p = false ∨ 60 < ps.length - 1 + Lib.lens (ps.take (k + 1))) : joinOk ps = false := by
  unfold joinOk
  rcases hp with hp | hp
  · rw [all_stop ps k p h hp]; simp
  · have := lens_take_le ps (k + 1)
    have : decide (ps.length - 1 + Lib.lens ps ≤ 60) = false := by simp; omega
    rw [this]; simp

theorem join_len (ps : List (List UInt8)) (h : ps ≠ []) : (Lib.join ps [47]).length = ps.length - 1 + Lib.lens ps := by
  cases ps with
  | nil => contradiction
  | cons x r => rw [Lib.join_length]; simp

set_option maxHeartbeats 400000 in
theorem join_none (ao : Option Addr) (c : Nat) (w : World) :
    Calls Try.prog 22 #[.slice ao 0 c] w fun e w' => e = .returned (.tuple #[.string ⟨#[]⟩, .int .i64 1]) ∧ w' = w := by
  go_enter Try.func22, Try.ntmps22
  go_wp2
  go_ret2
  exact ⟨rfl, rfl⟩

set_option maxHeartbeats 1000000 in
theorem join_some (bk o cap : Nat) (ps : List (List UInt8)) (w : World) (hpos : 0 < ps.length) (hcap : ps.length ≤ cap) (hcm : cap ≤ maxLen) (hlt : bk < w.heap.size)
    (hcell : ∀ k p, ps[k]? = some p → w.cell? ⟨bk, o + k, none⟩ = some (.string ⟨p.toArray⟩)) (hn : ps.length ≤ 1099511627776) (hp : ∀ p ∈ ps, p.length ≤ 1099511627776) :
    Calls Try.prog 22 #[.slice (some ⟨bk, o, none⟩) ps.length cap] w fun e w' => e = .returned (.tuple #[.string ⟨(joinS ps).toArray⟩, .int .i64 (joinE ps)]) ∧ Below w.heap.size w w' := by
  have HC : Hid _ := hcell
  have HP : Hid _ := hp
  have HST : Hid _ := joinOk_stop ps
  have HOK : Hid (ps.all partL = true → ps.length - 1 + Lib.lens ps ≤ 60 → joinOk ps = true) := fun h1 h2 => by
    unfold joinOk; rw [h1]
    have : ps.isEmpty = false := by cases ps with
      | nil => simp at hpos
      | cons a b => rfl
    simp [this, h2]
  have HJ : Hid (ps.all partL = true → ps.length - 1 + Lib.lens ps ≤ 60 → ∀ w2 : World, Below w.heap.size w w2 → Calls Try.prog 31 #[.slice (some ⟨bk, o, none⟩) ps.length cap, .string ⟨#[47]⟩] w2 fun e w' => e = .returned (.string ⟨(Lib.join ps [47]).toArray⟩) ∧ Below w2.heap.size w2 w') := by
    intro h1 h2 w2 hb
    have hlen : (Lib.join ps [47]).length ≤ 140737488355328 := by
      rw [join_len ps (fun e => by rw [e] at hpos; simp at hpos)]; omega
    have := Try.strings_Join bk o cap (ps.map fun p => ⟨p.toArray⟩) ⟨#[47]⟩ w2 (fun j x hj => by
      rw [List.getElem?_map] at hj
      cases e : ps[j]? with
      | none => rw [e] at hj; simp at hj
      | some p => rw [e] at hj; simp at hj; subst hj; exact (hb.cell hlt).trans (hcell j p e)) (Nat.lt_of_lt_of_le hlt hb.size) (by simp; omega) (by simpa using hcap)
    simp only [List.map_map, List.length_map] at this
    have e2 : ps.map ((fun x : ByteArray => x.data.toList) ∘ fun p => ⟨p.toArray⟩) = ps := by
      conv => rhs; rw [← List.map_id ps]
      apply List.map_congr_left; intro a _; simp
    rw [e2] at this
    exact this hlen
  have hl0 : Lib.lens (ps.take 0) = 0 := rfl
  have HT : Hid _ := hl0
  clear hcell hp hl0
  unfold maxLen at hcm
  have h0 : ((ps.length : Int) == 0) = false := by rw [beq_eq_false_iff_ne]; omega
  go_enter Try.func22, Try.ntmps22
  go_wp2
  go_loop [4, 15] (fun sz i => ∃ k : Nat, k ≤ ps.length ∧ i = .int .i64 k ∧ sz = .int .i64 ((ps.length : Int) - 1 + (Lib.lens (ps.take k) : Nat)) ∧ Hid (k = 0 ∨ ps.length - 1 + Lib.lens (ps.take k) ≤ 60) ∧ Hid ((ps.take k).all partL = true)) (fun _ i => ps.length - (intOf i).toNat)
  case atStart => exact ⟨0, Nat.zero_le _, rfl, by rw [HT.out]; go_num, .inl rfl, by simp [Hid]⟩
  case round =>
    obtain ⟨k, hk, rfl, rfl, hsz0, hr⟩ := hrel
    have hsz := hsz0.out
    clear hsz0
    by_cases hkl : k < ps.length
    · obtain ⟨p, hpk⟩ : ∃ p, ps[k]? = some p := ⟨_, List.getElem?_eq_getElem hkl⟩
      have hc := HC.out k p hpk
      have hpl := HP.out p (List.mem_of_getElem? hpk)
      have HI : Hid (∀ w, _) := isPart_any ⟨p.toArray⟩ (by rw [mk_size]; unfold maxLen; omega)
      have e : (⟨p.toArray⟩ : ByteArray).data.toList = p := by simp
      rw [e] at HI
      have HL : Hid _ := Lib.lens_take_succ ps k p hpk
      have HS : Hid _ := HST.out k p hpk
      rw [HL.out] at HS
      have HA : Hid _ := all_step ps k p hpk
      have hms : (⟨p.toArray⟩ : ByteArray).size = p.length := mk_size p
      have hszl : Lib.lens (ps.take k) ≤ 60 ∨ k = 0 := by omega
      have h00 : k = 0 → Lib.lens (ps.take k) = 0 := fun e => by rw [e]; rfl
      have hle : Lib.lens (ps.take k) ≤ 60 := by
        rcases hszl with h | h
        · exact h
        · rw [h00 h]; omega
      clear hpk e HC HP HST HOK HJ HT h00 hszl hsz
      generalize Lib.lens (ps.take k) = a at *
      by_cases hbig : 60 < ps.length - 1 + (a + p.length)
      · have HB : Hid _ := HS.out (.inr hbig)
        clear HI HS HA HL
        go_wp2
        go_ret2
        refine ⟨?_, Below.refl _ _⟩
        rw [joinS, joinE, HB.out]
        rfl
      · generalize partL p = d at *
        cases d
        · have HB : Hid _ := HS.out (.inl rfl)
          clear HS HA HL
          go_wp2_with (go_at_call 25; refine ((HI.out) _).mono ?_; rintro e w' ⟨rfl, rfl⟩)
          go_ret2
          refine ⟨?_, Below.refl _ _⟩
          rw [joinS, joinE, HB.out]
          rfl
        · clear HS
          go_wp2_with (go_at_call 25; refine ((HI.out) _).mono ?_; rintro e w' ⟨rfl, rfl⟩)
          go_round
          case rel => exact ⟨k + 1, by omega, by go_num, by rw [HL.out]; go_num, .inr (by rw [HL.out]; omega), by rw [Hid, HA.out, hr.out]; rfl⟩
          case measure => simp [intOf]; omega
    · have hk' : k = ps.length := by omega
      have hall : ps.all partL = true := by have := hr.out; rw [hk', List.take_length] at this; exact this
      have hsum : ps.length - 1 + Lib.lens ps ≤ 60 := by rw [hk', List.take_length] at hsz; omega
      have HO : Hid _ := HOK.out hall hsum
      have HJ2 : Hid (Calls Try.prog 31 #[.slice (some ⟨bk, o, none⟩) ps.length cap, .string ⟨#[47]⟩] w fun e w' => e = .returned (.string ⟨(Lib.join ps [47]).toArray⟩) ∧ Below w.heap.size w w') := HJ.out hall hsum w (Below.refl _ _)
      clear HC HP HST HOK HJ HT hr hall hsum hsz
      go_wp2_with (go_at_call 31; refine (HJ2.out).mono ?_; rintro e w' ⟨rfl, hb⟩)
      go_ret2
      refine ⟨?_, by assumption⟩
      rw [joinS, joinE, HO.out]
      rfl

/-- names.Join at every list of texts -/
theorem join_any (v : Value) (ps : List (List UInt8)) (w : World) (hv : IsStrs w v ps) (hn : ps.length ≤ 1099511627776) (hp : ∀ p ∈ ps, p.length ≤ 1099511627776) :
    Calls Try.prog 22 #[v] w fun e w' => e = .returned (.tuple #[.string ⟨(joinS ps).toArray⟩, .int .i64 (joinE ps)]) ∧ Below w.heap.size w w' := by
  obtain ⟨ao, cap, rfl, h1, h2, h3⟩ := hv
  by_cases hne : ps = []
  · subst hne
    exact (join_none ao cap w).mono fun e w' ⟨he, hw⟩ => ⟨he, hw ▸ Below.refl _ _⟩
  · obtain ⟨bk, o, rfl, hlt, hc⟩ := h3 hne
    exact join_some bk o cap ps w (by cases ps with
      | nil => exact absurd rfl hne
      | cons a b => simp) h1 h2 hlt hc hn hp

end Go.Proofs.Ytiinjaiigofbjaa
