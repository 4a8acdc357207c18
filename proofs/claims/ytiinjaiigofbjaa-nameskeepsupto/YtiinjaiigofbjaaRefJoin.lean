/- The walk of the document's answer for Join (arbiterref01.Join): it answers the joined parts or ErrForm, as the plain functions say; the world stays. -/
import Derived.Test.YtiinjaiigofbjaaRefLists
namespace Go.Proofs.Ytiinjaiigofbjaa
open Go.RowKit

set_option maxHeartbeats 400000 in
theorem rJoin_none (ao : Option Addr) (c : Nat) (w : World) :
    Calls Try.prog 23 #[.slice ao 0 c] w fun e w' => e = .returned (.tuple #[.string ⟨#[]⟩, .int .i64 1]) ∧ w' = w := by
  go_enter Try.func23, Try.ntmps23
  go_wp2
  go_loop [5] (fun i => i = .int .i64 0) (fun _ => 0)
  case atStart => rfl
  case round =>
    subst hrel
    go_wp2
    go_ret2
    exact ⟨rfl, rfl⟩

theorem cat_bytes (x : ByteArray) (p : List UInt8) : (x ++ ⟨#[47]⟩ ++ ⟨p.toArray⟩ : ByteArray).data.toList = x.data.toList ++ 47 :: p := by
  simp [ByteArray.data_append]
theorem cat_len (x : ByteArray) (p : List UInt8) : (x ++ ⟨#[47]⟩ ++ ⟨p.toArray⟩ : ByteArray).size = x.size + 1 + p.length := by
  rw [ByteArray.size_append, ByteArray.size_append, mk_size]; rfl

theorem join_take_len (ps : List (List UInt8)) (k : Nat) : (Lib.join (ps.take k) [47]).length ≤ ps.length - 1 + Lib.lens ps := by
  by_cases h2 : ps.take k = []
  · rw [h2]; simp [Lib.join_nil]
  · rw [join_length_eq _ h2]
    have h1 := lens_take ps k
    have h3 : (ps.take k).length ≤ ps.length := by rw [List.length_take]; omega
    omega

set_option maxHeartbeats 2000000 in
theorem rJoin_some (bk o cap : Nat) (ps : List (List UInt8)) (w : World) (hpos : 0 < ps.length) (hcap : ps.length ≤ cap) (hcm : cap ≤ maxLen)
    (hcell : ∀ k p, ps[k]? = some p → w.cell? ⟨bk, o + k, none⟩ = some (.string ⟨p.toArray⟩)) (hp : ∀ p ∈ ps, p.length ≤ 1099511627776) :
    Calls Try.prog 23 #[.slice (some ⟨bk, o, none⟩) ps.length cap] w fun e w' => e = .returned (.tuple #[.string ⟨(joinS ps).toArray⟩, .int .i64 (joinE ps)]) ∧ w' = w := by
  have HC : Hid _ := hcell
  have HP : Hid _ := hp
  have HST : Hid _ := joinOk_stop ps
  have HOK : Hid (ps.all partL = true → ps.length - 1 + Lib.lens ps ≤ 60 → joinOk ps = true) := fun h1 h2 => by
    unfold joinOk; rw [h1]
    have : ps.isEmpty = false := by cases ps with
      | nil => simp at hpos
      | cons a b => rfl
    simp [this, h2]
  have HJL : Hid (∀ k, (Lib.join (ps.take k) [47]).length ≤ ps.length - 1 + Lib.lens ps) := fun k => join_take_len ps k
  have hc0 := hcell 0 _ (List.getElem?_eq_getElem hpos)
  rw [Nat.add_zero] at hc0
  have HT : Hid (Lib.lens (ps.take 0) = 0) := rfl
  have h0 : ((ps.length : Int) == 0) = false := by rw [beq_eq_false_iff_ne]; omega
  clear hcell hp
  unfold maxLen at hcm
  go_enter Try.func23, Try.ntmps23
  go_wp2
  go_loop [4, 5] (fun sz i => ∃ k : Nat, k ≤ ps.length ∧ i = .int .i64 k ∧ sz = .int .i64 ((Lib.lens (ps.take k) : Nat) + (k : Int)) ∧ Lib.lens (ps.take k) + k ≤ 61 ∧ Hid ((ps.take k).all partL = true)) (fun _ i => ps.length - (intOf i).toNat)
  case atStart => exact ⟨0, Nat.zero_le _, rfl, by rw [HT.out]; rfl, by rw [HT.out]; omega, by simp [Hid]⟩
  case round =>
    obtain ⟨k, hk, rfl, rfl, hsz, hr⟩ := hrel
    by_cases hkl : k < ps.length
    · obtain ⟨p, hpk⟩ : ∃ p, ps[k]? = some p := ⟨_, List.getElem?_eq_getElem hkl⟩
      have hc := HC.out k p hpk
      have hpl := HP.out p (List.mem_of_getElem? hpk)
      have HI : Hid (∀ w, _) := rPart_any ⟨p.toArray⟩ (by rw [mk_size]; unfold maxLen; omega)
      have e : (⟨p.toArray⟩ : ByteArray).data.toList = p := by simp
      rw [e] at HI
      have HL : Hid _ := Lib.lens_take_succ ps k p hpk
      have HS : Hid _ := HST.out k p hpk
      rw [HL.out] at HS
      have HA : Hid _ := all_step ps k p hpk
      have hms : (⟨p.toArray⟩ : ByteArray).size = p.length := mk_size p
      clear hpk e HC HP HST HOK HJL HT hc0
      generalize Lib.lens (ps.take k) = a at *
      generalize partL p = d at *
      cases d
      · have HB : Hid _ := HS.out (.inl rfl)
        clear HS HA HL
        go_wp2_with (go_at_call 26; refine ((HI.out) _).mono ?_; rintro e w' ⟨rfl, rfl⟩)
        go_ret2
        refine ⟨?_, rfl⟩
        rw [joinS, joinE, HB.out]
        rfl
      · by_cases h60 : p.length ≤ 60
        · by_cases h61 : a + p.length + (k + 1) ≤ 61
          · clear HS
            go_wp2_with (go_at_call 26; refine ((HI.out) _).mono ?_; rintro e w' ⟨rfl, rfl⟩)
            go_round
            case rel => exact ⟨k + 1, by omega, by go_num, by rw [HL.out]; go_num, by rw [HL.out]; omega, by rw [Hid, HA.out, hr.out]; rfl⟩
            case measure => simp [intOf]; omega
          · have HB : Hid _ := HS.out (.inr (by omega))
            clear HS HA HL
            go_wp2_with (go_at_call 26; refine ((HI.out) _).mono ?_; rintro e w' ⟨rfl, rfl⟩)
            go_ret2
            refine ⟨?_, rfl⟩
            rw [joinS, joinE, HB.out]
            rfl
        · have HB : Hid _ := HS.out (.inr (by omega))
          clear HS HA HL
          go_wp2_with (go_at_call 26; refine ((HI.out) _).mono ?_; rintro e w' ⟨rfl, rfl⟩)
          go_ret2
          refine ⟨?_, rfl⟩
          rw [joinS, joinE, HB.out]
          rfl
    · have hk' : k = ps.length := by omega
      have hall : ps.all partL = true := by have := hr.out; rw [hk', List.take_length] at this; exact this
      have hsum : ps.length - 1 + Lib.lens ps ≤ 60 := by rw [hk', List.take_length] at hsz; omega
      have HO : Hid _ := HOK.out hall hsum
      have HX : Hid (∀ k, (Lib.join (ps.take k) [47]).length ≤ 60) := fun k => Nat.le_trans (HJL.out k) hsum
      clear HP HST HOK HJL HT hr hall hsum hsz hk'
      go_wp2
      go_loop [6, 7] (fun t i => ∃ (j : Nat) (x : ByteArray), 1 ≤ j ∧ j ≤ ps.length ∧ t = .string x ∧ i = .int .i64 j ∧ x.size ≤ 60 ∧ Hid (x.data.toList = Lib.join (ps.take j) [47])) (fun _ i => ps.length - (intOf i).toNat)
      case atStart =>
        have e1 : Lib.join (ps.take 1) [47] = ps[0] := join_take_one ps _ (List.getElem?_eq_getElem hpos)
        have e2 := HX.out 1
        rw [e1] at e2
        exact ⟨1, ⟨ps[0].toArray⟩, Nat.le_refl _, by omega, rfl, rfl, by rw [mk_size]; omega, by rw [e1]; rfl⟩
      case round =>
        obtain ⟨j, x, hj1, hj, rfl, rfl, hx, hr⟩ := hrel
        by_cases hjl : j < ps.length
        · obtain ⟨p, hpk⟩ : ∃ p, ps[j]? = some p := ⟨_, List.getElem?_eq_getElem hjl⟩
          have hc := HC.out j p hpk
          have HL : Hid _ := join_take_succ ps j p hj1 hpk
          have hle := HX.out (j + 1)
          have hrl : (Lib.join (ps.take j) [47]).length = x.size := by rw [← hr.out]; simp
          rw [HL.out, List.length_append, hrl] at hle
          have hpz : x.size + 1 + p.length ≤ 60 := by simp at hle; omega
          have hms : (⟨p.toArray⟩ : ByteArray).size = p.length := mk_size p
          clear hpk hrl hle HC HX HO hc0
          go_wp2
          go_round
          case rel => exact ⟨j + 1, _, by omega, by omega, rfl, by go_num, by rw [cat_len]; omega, by rw [Hid, cat_bytes, hr.out, HL.out]⟩
          case measure => simp [intOf]; omega
        · have hj' : j = ps.length := by omega
          have hxe : x = ⟨(joinS ps).toArray⟩ := by
            apply bytes_ext
            rw [hr.out, hj', List.take_length, joinS, HO.out]
            simp
          have HX2 : Hid _ := hxe
          clear hxe HX HC hr hc0
          go_wp2
          go_ret2
          refine ⟨?_, rfl⟩
          rw [HX2.out, joinE, HO.out]
          rfl

/-- arbiterref01.Join at every list of texts -/
theorem rJoin_any (v : Value) (ps : List (List UInt8)) (w : World) (hv : IsStrs w v ps) (hp : ∀ p ∈ ps, p.length ≤ 1099511627776) :
    Calls Try.prog 23 #[v] w fun e w' => e = .returned (.tuple #[.string ⟨(joinS ps).toArray⟩, .int .i64 (joinE ps)]) ∧ w' = w := by
  obtain ⟨ao, cap, rfl, h1, h2, h3⟩ := hv
  by_cases hne : ps = []
  · subst hne
    exact rJoin_none ao cap w
  · obtain ⟨bk, o, rfl, _, hc⟩ := h3 hne
    exact rJoin_some bk o cap ps w (by cases ps with
      | nil => exact absurd rfl hne
      | cons a b => simp) h1 h2 hc hp

end Go.Proofs.Ytiinjaiigofbjaa
