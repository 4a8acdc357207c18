/- From what the rows list to what the walks ask: the package's variable holds its forty-one words, the library's table its powers of ten. -/
import Derived.Test.YtfbhjfpkhofifaaGreatDoorOwnRefs
import Derived.Test.YtfbhjfpkhofifaaGreatDoorShelfI
import Derived.Lib.LaidU8
import Derived.Lib.SmallJoins
namespace Go.Proofs.YtfbhjfpkhofifaaGreatDoor
open Go.RowKit

/-- the package's variable holds the words, the library's table the powers of ten -/
def WordsIn (w : World) : Prop := 4 < w.heap.size ∧ ∀ i t, wordsL[i]? = some t → w.cell? ⟨4, i, none⟩ = some (.string ⟨t.toArray⟩)
def TenIn (w : World) : Prop := Lib.TabIs Tryz.prog w "internal/strconv.uint64pow10" .u64 Lib.pow10Tab
def GIn (w : World) : Prop := WordsIn w ∧ TenIn w

theorem Tryz.wordsG : Tryz.prog.globalNamed "arbiter/code.words" = some 4 := by kernel_rfl
theorem Tryz.wordsT : (Tryz.prog.globals[4]?).map (·.type) = some 197 := by kernel_rfl
theorem Tryz.cells197 : Tryz.prog.cellsOf 197 = 41 := by kernel_rfl
theorem Tryz.cells9 : Tryz.prog.cellsOf 9 = 1 := by kernel_rfl
theorem Tryz.tenG : Tryz.prog.globalNamed "internal/strconv.uint64pow10" = some 6 := by kernel_rfl
theorem Tryz.tenT : (Tryz.prog.globals[6]?).map (·.type) = some 210 := by kernel_rfl
theorem Tryz.cells210 : Tryz.prog.cellsOf 210 = 20 := by kernel_rfl
theorem Tryz.cells190 : Tryz.prog.cellsOf 190 = 1 := by kernel_rfl

theorem WordsIn.keep {w w' : World} (h : WordsIn w) (hb : Below w.heap.size w w') : WordsIn w' :=
  ⟨Nat.lt_of_lt_of_le h.1 hb.size, fun i t ht => (hb.cell (p := ⟨4, i, none⟩) h.1).trans (h.2 i t ht)⟩
theorem TenIn.keep {w w' : World} (h : TenIn w) (hb : Below w.heap.size w w') : TenIn w' := Joins.var_stays Tryz.tenG h hb (Nat.le_refl _)
theorem GIn.keep {w w' : World} (h : GIn w) (hb : Below w.heap.size w w') : GIn w' := ⟨h.1.keep hb, h.2.keep hb⟩

theorem laid_list {H : Type} : (Rows.laid_arbiter_code_words : DataW H) = .agg (wordsL.map fun t => .lit (.string t)) := rfl
theorem laid_ten {H : Type} : (Rows.laid_internal_strconv_uint64pow10 : DataW H) = Lib.tabData .u64 Lib.pow10Tab := by
  have h : Lib.pow10Tab = [1, 10, 100, 1000, 10000, 100000, 1000000, 10000000, 100000000, 1000000000, 10000000000, 100000000000, 1000000000000, 10000000000000, 100000000000000, 1000000000000000, 10000000000000000, 100000000000000000, 1000000000000000000, 10000000000000000000] := by decide +kernel
  rw [h]; rfl

/-- an array of texts that reads so holds these texts, cell for cell -/
theorem cells_of_words {H : Type} {enc : TypeId × Value → H} {w : World} {base : Nat} {sp : Nat → Bool} {held : Bool} {fuel : Nat} {cs : List Value} {p : List MemPlace}
    (h : DataW.trod enc Tryz.prog w base sp held fuel 197 cs = some (.agg (wordsL.map fun t => .lit (.string t)), p)) (i : Nat) (t : List UInt8) (ht : wordsL[i]? = some t) : cs[i]? = some (.string ⟨t.toArray⟩) := by
  have hi : i < 41 := (List.getElem?_eq_some_iff.1 ht).1
  cases fuel with
  | zero => simp [DataW.trod] at h
  | succ fuel =>
    simp only [DataW.trod, Tryz.underlying197, Tryz.cells9, Tryz.cells197, Nat.mul_one] at h
    split at h
    · obtain ⟨xs, hm, hx⟩ := Option.map_eq_some_iff.1 h
      have hxs : xs.map (·.1) = wordsL.map fun t => (DataW.lit (.string t) : DataW H) := by
        have := congrArg Prod.fst hx
        simpa using this
      obtain ⟨b, hb, hf⟩ := Lib.mapM_at hm i i (by simp [hi])
      obtain ⟨s, hc, rfl, _⟩ := DataW.trod_string Tryz.underlying9 hf
      have h1 : cs[i]? = some (.string s) := by
        have := congrArg (·[0]?) hc
        simpa [List.getElem?_take, List.getElem?_drop] using this
      have h2 : (xs.map (·.1))[i]? = some (DataW.lit (.string s.data.toList) : DataW H) := by simp [hb]
      rw [hxs, List.getElem?_map, ht] at h2
      simp at h2
      rw [h1, h2]
    · cases h

theorem words_in {W : World} (h : Lib.VarReads Tryz.prog W "arbiter/code.words" Rows.laid_arbiter_code_words) : WordsIn W := by
  obtain ⟨g, t, cs, fuel, p, hg, ht, hvar, hd⟩ := h
  obtain rfl := Option.some.inj (Tryz.wordsG.symm.trans hg)
  obtain rfl := Option.some.inj (Tryz.wordsT.symm.trans ht)
  rw [laid_list] at hd
  have hc : ∀ i t, wordsL[i]? = some t → W.cell? ⟨4, i, none⟩ = some (.string ⟨t.toArray⟩) := by
    intro i t hi
    rw [World.var?_cell hg hvar i, ← Array.getElem?_toList]
    exact cells_of_words hd i t hi
  refine ⟨?_, hc⟩
  have h0 := hc 0 _ rfl
  unfold World.cell? at h0
  split at h0
  · rename_i hh
    exact (Array.getElem?_eq_some_iff.1 hh).1
  · cases h0
theorem ten_in {W : World} (h : Lib.VarReads Tryz.prog W "internal/strconv.uint64pow10" Rows.laid_internal_strconv_uint64pow10) : TenIn W := by
  obtain ⟨g, t, cs, fuel, p, hg, ht, hvar, hd⟩ := h
  obtain rfl := Option.some.inj (Tryz.tenG.symm.trans hg)
  obtain rfl := Option.some.inj (Tryz.tenT.symm.trans ht)
  rw [laid_ten] at hd
  unfold TenIn Lib.TabIs
  rw [hvar, ← Lib.cells_of_tab Tryz.underlying210 Tryz.underlying190 Tryz.cells190 Tryz.cells210 hd]

theorem grow_below (w : World) (k : Nat) (os : Array Obj) : Below w.heap.size w (Sort.grow (w.drewN k) os) :=
  ⟨rfl, rfl, rfl, by rw [Sort.size_grow]; exact Nat.le_add_right _ _, fun j hj => by
    show (w.heap ++ os)[j]? = _
    rw [Array.getElem?_append_left hj]⟩
/-- strconv.Itoa: the numeral; what was there before stays -/
theorem itoa_any (n : Int) (h0 : -9223372036854775808 ≤ n) (h1 : n ≤ 9223372036854775807) (w : World) (h : TenIn w) : Calls Tryz.prog 36 #[.int .i64 n] w fun e w' => e = .returned (.string ⟨(Lib.itoa n).toArray⟩) ∧ Below w.heap.size w w' :=
  (Tryz.strconv_Itoa n h0 h1 w h).mono fun e w' ⟨he, k, os, hw⟩ => ⟨he, by rw [hw]; exact grow_below _ _ _⟩
end Go.Proofs.YtfbhjfpkhofifaaGreatDoor
