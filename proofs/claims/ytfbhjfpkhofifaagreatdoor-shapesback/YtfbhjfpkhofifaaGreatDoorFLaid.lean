/- From what the row lists to what the walks ask: the package's variable holds its eleven words. -/
import Derived.Test.YtfbhjfpkhofifaaGreatDoorFOwnC
import Derived.Lib.LaidU8
namespace Go.Proofs.YtfbhjfpkhofifaaGreatDoor.Fl
open Go.RowKit

theorem Tryz.wordsG : Tryz.prog.globalNamed "arbiter/flags.words" = some 2 := by kernel_rfl
theorem Tryz.wordsT : (Tryz.prog.globals[2]?).map (·.type) = some 157 := by kernel_rfl
theorem Tryz.cells157 : Tryz.prog.cellsOf 157 = 11 := by kernel_rfl
theorem Tryz.cells9 : Tryz.prog.cellsOf 9 = 1 := by kernel_rfl

theorem laid_list {H : Type} : (Rows.laid_arbiter_flags_words : DataW H) = .agg (wd11.map fun t => .lit (.string t)) := rfl

/-- an array of texts that reads so holds these texts, cell for cell -/
theorem cells_of_words {H : Type} {enc : TypeId × Value → H} {w : World} {base : Nat} {sp : Nat → Bool} {held : Bool} {fuel : Nat} {cs : List Value} {p : List MemPlace}
    (h : DataW.trod enc Tryz.prog w base sp held fuel 157 cs = some (.agg (wd11.map fun t => .lit (.string t)), p)) (i : Nat) (t : List UInt8) (ht : wd11[i]? = some t) : cs[i]? = some (.string ⟨t.toArray⟩) := by
  have hi : i < 11 := (List.getElem?_eq_some_iff.1 ht).1
  cases fuel with
  | zero => simp [DataW.trod] at h
  | succ fuel =>
    simp only [DataW.trod, Tryz.underlying157, Tryz.cells9, Tryz.cells157, Nat.mul_one] at h
    split at h
    · obtain ⟨xs, hm, hx⟩ := Option.map_eq_some_iff.1 h
      have hxs : xs.map (·.1) = wd11.map fun t => (DataW.lit (.string t) : DataW H) := by
        have := congrArg Prod.fst hx
        simpa using this
      obtain ⟨b, hb, hf⟩ := Lib.mapM_at hm i i (by simp [hi])
      obtain ⟨s, hc, rfl, _⟩ := DataW.trod_string Tryz.underlying9 hf
      have h1 : cs[i]? = some (.string s) := by
        have := congrArg (·[0]?) hc
        simpa [List.getElem?_take, List.getElem?_drop] using this
      have h2 : (xs.map (·.1))[i]? = some (DataW.lit (.string s.data.toList) : DataW H) := by simp [hb]
      rw [hxs, List.getElem?_map, ht] at h2
      simp at h2
      rw [h1, h2]
    · cases h

theorem words_in {W : World} (h : Lib.VarReads Tryz.prog W "arbiter/flags.words" Rows.laid_arbiter_flags_words) : WordsIn W := by
  obtain ⟨g, t, cs, fuel, p, hg, ht, hvar, hd⟩ := h
  obtain rfl := Option.some.inj (Tryz.wordsG.symm.trans hg)
  obtain rfl := Option.some.inj (Tryz.wordsT.symm.trans ht)
  rw [laid_list] at hd
  have hc : ∀ i t, wd11[i]? = some t → W.cell? ⟨2, i, none⟩ = some (.string ⟨t.toArray⟩) := by
    intro i t hi
    rw [World.var?_cell hg hvar i, ← Array.getElem?_toList]
    exact cells_of_words hd i t hi
  refine ⟨?_, hc⟩
  have h0 := hc 0 _ rfl
  unfold World.cell? at h0
  split at h0
  · rename_i hh
    exact (Array.getElem?_eq_some_iff.1 hh).1
  · cases h0
end Go.Proofs.YtfbhjfpkhofifaaGreatDoor.Fl
