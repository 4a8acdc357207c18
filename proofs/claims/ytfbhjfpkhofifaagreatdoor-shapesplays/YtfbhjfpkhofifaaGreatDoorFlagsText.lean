/- Walks of the document's answers of layer 3 (arbiterref03) that write and read words: text, parse, ClassText, MethodText, ParseClass, ParseMethod: each returns what the plain functions say; what was there before stays. -/
import Derived.Test.YtfbhjfpkhofifaaGreatDoorFlagsRef
namespace Go.Proofs.YtfbhjfpkhofifaaGreatDoor
open Go.RowKit

theorem chosen_append (f : Int) (a b : List (Int × List UInt8)) : chosenW f (a ++ b) = chosenW f a ++ chosenW f b := by
  induction a with
  | nil => simp [chosenW]
  | cons p a ih =>
    simp only [List.cons_append, chosenW, ih]
    split <;> simp

theorem chosen_step (f : Int) (ps : List (Int × List UInt8)) (i : Nat) (p : Int × List UInt8) (h : ps[i]? = some p) : chosenW f (ps.take (i + 1)) = chosenW f (ps.take i) ++ (if hasI f p.1 then [p.2] else []) := by
  have hlt : i < ps.length := (List.getElem?_eq_some_iff.1 h).1
  rw [List.take_succ_eq_append_getElem hlt, chosen_append]
  rw [List.getElem?_eq_getElem hlt] at h
  rw [Option.some.inj h]
  simp [chosenW]

theorem chosen_mem {f : Int} {ps : List (Int × List UInt8)} {w : List UInt8} (h : w ∈ chosenW f ps) : ∃ p ∈ ps, p.2 = w := by
  induction ps with
  | nil => simp [chosenW] at h
  | cons p ps ih =>
    unfold chosenW at h
    split at h
    · rcases List.mem_cons.1 h with rfl | h
      · exact ⟨p, List.mem_cons_self .., rfl⟩
      · obtain ⟨q, hq, e⟩ := ih h; exact ⟨q, List.mem_cons_of_mem _ hq, e⟩
    · obtain ⟨q, hq, e⟩ := ih h; exact ⟨q, List.mem_cons_of_mem _ hq, e⟩

theorem fjoin_snoc (l : List (List UInt8)) (w : List UInt8) (h : l ≠ []) : Lib.join (l ++ [w]) [32] = Lib.join l [32] ++ 32 :: w := by
  induction l with
  | nil => exact absurd rfl h
  | cons a l ih =>
    cases l with
    | nil => simp [Lib.join]
    | cons b l =>
      have := ih (by simp)
      rw [List.cons_append, List.cons_append, join_cons2, ← List.cons_append, this, join_cons2]
      simp

theorem join_empty (l : List (List UInt8)) (h : ∀ w ∈ l, w ≠ []) : Lib.join l [32] = [] ↔ l = [] := by
  cases l with
  | nil => simp [Lib.join]
  | cons a l =>
    have ha := h a (List.mem_cons_self ..)
    cases l with
    | nil => rw [join_one]; simp [ha]
    | cons b l => rw [join_cons2]; simp

theorem join_small (f : Int) (ps : List (Int × List UInt8)) (h : ∀ p ∈ ps, p.2.length ≤ 20) : (Lib.join (chosenW f ps) [32]).length ≤ 21 * ps.length := by
  induction ps with
  | nil => simp [chosenW, Lib.join]
  | cons p ps ih =>
    have h1 := h p (List.mem_cons_self ..)
    have h2 := ih (fun q hq => h q (List.mem_cons_of_mem _ hq))
    unfold chosenW
    split
    · cases e : chosenW f ps with
      | nil => rw [join_one, List.length_cons]; omega
      | cons a l =>
        rw [e] at h2
        rw [join_cons2, List.length_append, List.length_cons, List.length_cons]
        omega
    · rw [List.length_cons]; omega

theorem size_len (b : ByteArray) : b.size = b.data.toList.length := by simp

theorem empty_bytes (a : ByteArray) : a.toList.isEmpty = decide (a.data.toList = []) := by
  rw [Lib.toList_data]
  cases a.data.toList <;> simp

set_option maxHeartbeats 2000000 in
theorem rText_any (f : Int) (ps : List (Int × List UInt8)) (hb : ∀ x ∈ flagsOf ps, 0 ≤ x ∧ x ≤ 2048) (hl : ps.length ≤ 100) (hw : ∀ p ∈ ps, p.2 ≠ [] ∧ p.2.length ≤ 20) (v1 v2 : Value) (w : World)
    (h1 : IsRow w v1 ((flagsOf ps).map intV)) (h2 : IsRow w v2 (ps.map (fun p => txtV p.2))) :
    Calls Tryz.prog 78 #[.int .i64 f, v1, v2] w fun e w' => e = .returned (.tuple #[.string ⟨(textF f ps).toArray⟩, .int .i64 (textE f ps)]) ∧ w' = w := by
  have hfl : (flagsOf ps).length = ps.length := by simp [flagsOf]
  have HK : Hid (Calls Tryz.prog 60 #[.int .i64 f, v1] w _) := known_any f (flagsOf ps) hb (by rw [hfl]; exact hl) v1 w h1
  have HH : Hid (∀ (x : Int) (w : World), _) := has_any f
  have hon : (knownI f (flagsOf ps) != f) = !onlyB f ps := by unfold onlyB; rw [Bool.eq_iff_iff]; simp
  obtain ⟨b1, o1, cap1, rfl, g1, g2, g3, g4⟩ := h1
  obtain ⟨b2, o2, cap2, rfl, k1, k2, k3, k4⟩ := h2
  rw [List.length_map] at *
  rw [hfl] at *
  unfold maxLen at g2 k2
  have HC1 : Hid _ := g4
  have HC2 : Hid _ := k4
  have HW : Hid _ := hw
  clear g4 k4 hw hb
  cases ho : onlyB f ps with
  | false =>
    have HR : Hid (textF f ps = [] ∧ textE f ps = 1) := by rw [Hid, textF, textE, ho]; exact ⟨rfl, rfl⟩
    rw [ho] at hon
    generalize textF f ps = tf at *
    generalize textE f ps = te at *
    go_enter Tryz.func78, Tryz.ntmps78
    go_wp2_with (go_at_call 60; refine (HK.out).mono ?_; rintro e w2 ⟨rfl, hw2⟩; rw [hw2]; clear hw2)
    go_ret2
    exact ⟨by rw [HR.out.1, HR.out.2]; rfl, rfl⟩
  | true =>
    have HR : Hid (textF f ps = Lib.join (chosenW f ps) [32] ∧ textE f ps = 0) := by rw [Hid, textF, textE, ho]; exact ⟨rfl, rfl⟩
    rw [ho] at hon
    generalize textF f ps = tf at *
    generalize textE f ps = te at *
    go_enter Tryz.func78, Tryz.ntmps78
    go_wp2_with (go_at_call 60; refine (HK.out).mono ?_; rintro e w2 ⟨rfl, hw2⟩; rw [hw2]; clear hw2)
    go_loop [8, 9] (fun sv iv => ∃ (i : Nat) (acc : ByteArray), sv = .string acc ∧ iv = .int .i64 i ∧ i ≤ ps.length ∧ acc.size ≤ 2100 ∧ Hid (acc.data.toList = Lib.join (chosenW f (ps.take i)) [32])) (fun _ iv => ps.length - (intOf iv).toNat)
    case atStart => exact ⟨0, ⟨#[]⟩, rfl, rfl, Nat.zero_le _, by decide, by simp [Hid, chosenW, Lib.join]⟩
    case round =>
      obtain ⟨i, acc, rfl, rfl, hi, hacc, hal⟩ := hrel
      by_cases hlt : i < ps.length
      · obtain ⟨⟨x, wd⟩, hx⟩ : ∃ p, ps[i]? = some p := ⟨_, List.getElem?_eq_getElem hlt⟩
        have c1 : w.cell? ⟨b1, o1 + i, none⟩ = some (.int .i64 x) := HC1.out i (intV x) (by rw [List.getElem?_map, flagsOf, List.getElem?_map, hx]; rfl)
        have c2 : w.cell? ⟨b2, o2 + i, none⟩ = some (.string ⟨wd.toArray⟩) := HC2.out i (txtV wd) (by rw [List.getElem?_map, hx]; rfl)
        have HX : Hid (∀ w, _) := HH.out x
        have hst := chosen_step f ps i (x, wd) hx
        have hwd := HW.out (x, wd) (List.mem_of_getElem? hx)
        have hsz : (⟨wd.toArray⟩ : ByteArray).size ≤ 20 := by rw [fmk_size]; exact hwd.2
        have hwl : wd.length ≤ 20 := hwd.2
        have hnb : ¬ 9223372036854775807 < acc.size + 1 + wd.length := by omega
        have hsm := join_small f (ps.take (i + 1)) (fun p hp => (HW.out p (List.mem_of_mem_take hp)).2)
        have htl : (ps.take (i + 1)).length ≤ 100 := by rw [List.length_take]; omega
        have hne : ∀ y ∈ chosenW f (ps.take i), y ≠ [] := fun y hy => by
          obtain ⟨p, hp, rfl⟩ := chosen_mem hy
          exact (HW.out p (List.mem_of_mem_take hp)).1
        have hem := join_empty (chosenW f (ps.take i)) hne
        have hab := empty_bytes acc
        cases hh : hasI f x with
        | false =>
          have HN : Hid (acc.data.toList = Lib.join (chosenW f (ps.take (i + 1))) [32]) := by rw [Hid, hst, hh, hal.out]; simp
          rw [hh] at HX
          clear hst hwd hsm htl hne hem hab hh hx HC1 HC2 HW HH hal HR HK
          go_wp2_with (go_at_call 29; refine (HX.out _).mono ?_; rintro e w3 ⟨rfl, rfl⟩)
          go_round
          case rel => exact ⟨i + 1, acc, rfl, by go_num, by omega, hacc, HN⟩
          case measure => simp [intOf]; omega
        | true =>
          rw [hh] at HX hst
          by_cases hc : chosenW f (ps.take i) = []
          · have he : acc.toList.isEmpty = true := by rw [hab]; simp [hal.out, hem.2 hc]
            have HN : Hid ((acc ++ ⟨wd.toArray⟩ : ByteArray).data.toList = Lib.join (chosenW f (ps.take (i + 1))) [32]) := by
              rw [Hid, hst, hc]
              have e0 : acc.data.toList = [] := by rw [hal.out]; exact hem.2 hc
              simp [ByteArray.data_append, e0, join_one]
            have HA : Hid ((acc ++ ⟨wd.toArray⟩ : ByteArray).size ≤ 2100) := by
              rw [Hid, size_len, HN.out]
              omega
            clear hst hwd hsm htl hne hem hab hh hx HC1 HC2 HW HH hal HR HK hc
            go_wp2_with (go_at_call 29; refine (HX.out _).mono ?_; rintro e w3 ⟨rfl, rfl⟩)
            go_round
            case rel => exact ⟨i + 1, _, rfl, by go_num, by omega, HA.out, HN⟩
            case measure => simp [intOf]; omega
          · have he : acc.toList.isEmpty = false := by rw [hab]; simp [hal.out]; exact fun q => hc (hem.1 q)
            have HN : Hid ((acc ++ ⟨#[32]⟩ ++ ⟨wd.toArray⟩ : ByteArray).data.toList = Lib.join (chosenW f (ps.take (i + 1))) [32]) := by
              rw [Hid, hst]
              simp only [if_true]
              rw [fjoin_snoc _ _ hc]
              simp [ByteArray.data_append, hal.out]
            have HA : Hid ((acc ++ ⟨#[32]⟩ ++ ⟨wd.toArray⟩ : ByteArray).size ≤ 2100) := by
              rw [Hid, size_len, HN.out]
              omega
            clear hst hwd hsm htl hne hem hab hh hx HC1 HC2 HW HH hal HR HK hc
            go_wp2_with (go_at_call 29; refine (HX.out _).mono ?_; rintro e w3 ⟨rfl, rfl⟩)
            go_round
            case rel => exact ⟨i + 1, _, rfl, by go_num, by omega, HA.out, HN⟩
            case measure => simp [intOf]; omega
      · have HN : Hid (acc.data.toList = Lib.join (chosenW f ps) [32]) := by have := hal.out; rw [List.take_of_length_le (by omega)] at this; exact this
        clear HC1 HC2 HW HH hal HK
        go_wp2
        go_ret2
        exact ⟨by rw [HR.out.1, HR.out.2, ← HN.out]; rfl, rfl⟩

end Go.Proofs.YtfbhjfpkhofifaaGreatDoor
