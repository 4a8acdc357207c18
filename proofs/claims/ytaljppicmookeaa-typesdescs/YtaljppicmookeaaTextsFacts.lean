/- What is taken is written again: types, references, descriptors; with the walks of what writes. -/
import Derived.Test.YtaljppicmookeaaSame
import Derived.Test.YtaljppicmookeaaDescC
import Derived.Test.YtaljppicmookeaaOwnRefs
namespace Go.Proofs.Ytaljppicmookeaa
open Go.RowKit

theorem named_snd {k : Nat} {l : List UInt8} (hk : k ≤ 255) (h : namedT (k, l) = true) : sndB (k : Int) l = true := by
  unfold sndB
  unfold namedT at h
  simp only [Bool.and_eq_true, decide_eq_true_eq, Bool.or_eq_true] at *
  refine ⟨⟨by omega, by omega⟩, ?_⟩
  rcases h with h | h
  · exact .inl (by simpa using h)
  · exact .inr h

theorem par_zero {l : List UInt8} (h : parE l = 0) : ∃ k nm, parT l = (k, nm) ∧ l = writeT (k, nm) ∧ k ≤ 255 ∧ namedT (k, nm) = true := by
  have h0 := h
  unfold parE at h
  split at h
  · simp at h
  · cases hr : readT l with
    | none => rw [hr] at h; simp at h
    | some p =>
      obtain ⟨⟨k, nm⟩, r⟩ := p
      rw [hr] at h
      cases r with
      | cons c q => simp at h
      | nil =>
        simp only at h
        split at h
        · simp at h
        · obtain ⟨w1, w2⟩ := write_read hr
          rw [List.append_nil] at w1
          exact ⟨k, nm, by rw [parT, if_pos h0, hr], w1, by omega, w2⟩

theorem bytes_self (s : ByteArray) : (⟨s.data.toList.toArray⟩ : ByteArray) = s := rfl

theorem text_back (s : ByteArray) (h : parE s.data.toList = 0) (w : World) :
    Calls Try.prog 19 #[.agg #[.int .i64 (parT s.data.toList).1, .string ⟨(parT s.data.toList).2.toArray⟩]] w fun e w' => e = .returned (.tuple #[.string s, .int .i64 0]) ∧ Below w.heap.size w w' := by
  obtain ⟨k, nm, e1, e2, hk, hn⟩ := par_zero h
  have hsn := named_snd hk hn
  have hl := snd_len hsn
  rw [e1]
  have hc := text_any k ⟨nm.toArray⟩ (by rw [mk_size]; unfold maxLen; omega) w
  have e3 : (⟨nm.toArray⟩ : ByteArray).data.toList = nm := by simp
  have e4 : textS (k : Int) nm = s.data.toList := by rw [textS, if_pos hsn, e2]; rfl
  rw [e3, hsn, e4] at hc
  exact hc

theorem prf_zero {l : List UInt8} (h : prfE l = 0) : ∃ k nm, prfT l = (k, nm) ∧ sndB (k : Int) nm = true ∧ refE (k : Int) nm = 0 ∧ refS (k : Int) nm = l := by
  have h0 := h
  unfold prfE at h
  split at h
  · simp at h
  · rename_i hlen
    split at h
    · rename_i hh
      obtain ⟨k, nm, e1, e2, hk, hn⟩ := par_zero h
      have hsn := named_snd hk hn
      have hk0 : k ≠ 0 := by
        intro hz
        subst hz
        rw [e2] at hh
        unfold writeT at hh
        split at hh <;> simp at hh
      have hre : refE (k : Int) nm = 0 := by rw [refE, if_pos hsn, if_neg (by omega)]
      refine ⟨k, nm, by rw [prfT, if_neg hlen, if_pos hh, e1], hsn, hre, ?_⟩
      rw [refS, if_pos hre, if_neg (by omega), e2]; rfl
    · rename_i hh
      split at h
      · rename_i hv
        have hne : l ≠ [] := fun z => by rw [z, valid_nil] at hv; simp at hv
        have hsn : sndB ((0 : Nat) : Int) l = true := named_snd (by omega) (by simp [namedT, hv])
        have hre : refE ((0 : Nat) : Int) l = 0 := by rw [refE, if_pos hsn, if_neg (fun z => hne z.2)]
        refine ⟨0, l, by rw [prfT, if_neg hlen, if_neg hh, if_pos hv], hsn, hre, ?_⟩
        rw [refS, if_pos hre]; rfl
      · simp at h

theorem refText_back (s : ByteArray) (h : prfE s.data.toList = 0) (w : World) :
    Calls Try.prog 23 #[.agg #[.int .i64 (prfT s.data.toList).1, .string ⟨(prfT s.data.toList).2.toArray⟩]] w fun e w' => e = .returned (.tuple #[.string s, .int .i64 0]) ∧ Below w.heap.size w w' := by
  obtain ⟨k, nm, e1, hsn, hre, hrs⟩ := prf_zero h
  have hl := snd_len hsn
  rw [e1]
  have hc := refText_any k ⟨nm.toArray⟩ (by rw [mk_size]; unfold maxLen; omega) w
  have e3 : (⟨nm.toArray⟩ : ByteArray).data.toList = nm := by simp
  rw [e3, hre, hrs] at hc
  exact hc

theorem pdE_cases (l : List UInt8) : pdE l = 0 ∨ pdE l = 4 ∨ pdE l = 5 := by
  unfold pdE
  split
  · simp
  · split
    · simp
    · split <;> simp

theorem natOf_natT (t : Nat × List UInt8) : natOf (natT t) = t := by
  obtain ⟨k, nm⟩ := t
  simp [natOf, natT]

theorem pd_zero {l : List UInt8} (h : pdE l = 0) : readD l = some (pdD l) ∧ largeD (pdD l) = false ∧ l.length ≤ 2000 := by
  have h0 := h
  unfold pdE at h
  split at h
  · simp at h
  · rename_i hlen
    cases hr : readD l with
    | none => rw [hr] at h; simp at h
    | some d =>
      rw [hr] at h
      simp only at h
      have e : pdD l = d := by rw [pdD, if_pos h0, hr]; rfl
      rw [e]
      refine ⟨rfl, ?_, by omega⟩
      cases hg : largeD d with
      | false => rfl
      | true => rw [hg] at h; simp at h

/-- what is taken as a descriptor is sound, and its text is what was taken -/
theorem pd_back {l : List UInt8} (h : pdE l = 0) : dtE ((pdD l).1.map natT) (voidB (pdD l).2) (retT (pdD l).2).1 ⟨(retT (pdD l).2).2.toArray⟩ = 0 ∧ dtS ((pdD l).1.map natT) (voidB (pdD l).2) (retT (pdD l).2).1 ⟨(retT (pdD l).2).2.toArray⟩ = l := by
  obtain ⟨h1, h2, h3⟩ := pd_zero h
  obtain ⟨hw, hn1, hn2⟩ := writeD_read h1
  generalize pdD l = d at *
  obtain ⟨ts, x⟩ := d
  simp only [largeD, Bool.or_eq_false_iff, decide_eq_false_iff_not] at h2
  obtain ⟨⟨g1, g2⟩, g3⟩ := h2
  have hall : (ts.map natT).all sndT = true := by
    rw [List.all_eq_true]
    intro t ht
    obtain ⟨u, hu, rfl⟩ := List.mem_map.1 ht
    have hd : ¬ 255 < u.1 := by
      have hne := (List.any_eq_false.1 g3) (natT u) ht
      intro hd
      exact hne (by unfold deepI natT; simp; omega)
    have := named_snd (k := u.1) (l := u.2) (by omega) (hn1 u hu)
    simpa [sndT, natT] using this
  have hsd : sndD (ts.map natT) (voidB x) (retT x).1 ⟨(retT x).2.toArray⟩ = true := by
    rw [sndD, hall]
    cases x with
    | none =>
      show (true && (decide (((0 : Nat) : Int) = 0) && (⟨#[]⟩ : ByteArray).toList.isEmpty)) = true
      rw [Lib.toList_data]; rfl
    | some t =>
      have := named_snd (k := t.1) (l := t.2) (by simp [retT] at g2; omega) (hn2 t rfl)
      simpa [voidB, retT] using this
  have htx : textD (ts.map natT) (voidB x) (retT x).1 ⟨(retT x).2.toArray⟩ = l := by
    rw [hw, textD, writeD]
    have e1 : (ts.map natT).map natOf = ts := by
      rw [List.map_map]
      conv => rhs; rw [← List.map_id ts]
      exact List.map_congr_left (fun t _ => natOf_natT t)
    rw [e1]
    cases x with
    | none => rfl
    | some t => simp [retS, voidB, retT, writeRet]
  have he : dtE (ts.map natT) (voidB x) (retT x).1 ⟨(retT x).2.toArray⟩ = 0 := by
    rw [dtE, hsd, if_pos rfl, List.length_map, if_neg g1, htx, if_neg (by omega)]
  exact ⟨he, by rw [dtS, if_pos he, htx]⟩

theorem descText_back (s : ByteArray) (h : pdE s.data.toList = 0) (v : Value) (W : World) (hv : IsTys W v ((pdD s.data.toList).1.map natT)) :
    Calls Try.prog 31 #[.agg #[v, .bool (voidB (pdD s.data.toList).2), .int .i64 (retT (pdD s.data.toList).2).1, .string ⟨(retT (pdD s.data.toList).2).2.toArray⟩]] W fun e w' => e = .returned (.tuple #[.string s, .int .i64 0]) ∧ Below W.heap.size W w' := by
  obtain ⟨e1, e2⟩ := pd_back h
  obtain ⟨h1, h2, h3⟩ := pd_zero h
  obtain ⟨hw, hn1, hn2⟩ := writeD_read h1
  have hlen : ∀ u : Nat × List UInt8, namedT u = true → u.2.length ≤ 60 := fun u hu => snd_len (named_snd (k := 0) (l := u.2) (by omega) hu)
  have hc := descText_any v _ (voidB (pdD s.data.toList).2) (retT (pdD s.data.toList).2).1 ⟨(retT (pdD s.data.toList).2).2.toArray⟩ W hv (fun t ht => by
      obtain ⟨u, hu, rfl⟩ := List.mem_map.1 ht
      have := hlen u (hn1 u hu)
      show (⟨u.2.toArray⟩ : ByteArray).size ≤ maxLen
      rw [mk_size]; unfold maxLen; omega) (by
      rw [mk_size]
      cases hx : (pdD s.data.toList).2 with
      | none => simp [retT]
      | some t =>
        have := hlen t (hn2 t hx)
        simp only [retT, Option.getD_some]
        unfold maxLen; omega)
  rw [e1, e2] at hc
  exact hc

end Go.Proofs.Ytaljppicmookeaa
