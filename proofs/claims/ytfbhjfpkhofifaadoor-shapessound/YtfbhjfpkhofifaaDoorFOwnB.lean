/- Walks of package flags at the words that its variable holds: flagOf. -/
import Derived.Test.YtfbhjfpkhofifaaDoorFOwnA
namespace Go.Proofs.YtfbhjfpkhofifaaDoor.Fl
open Go.RowKit

/-- the words by their places -/
def wd11 : List (List UInt8) := [wPublic, wPrivate, wProtected, wStatic, wFinal, wSuper, [], [], [], wInterface, wAbstract]
/-- the package's variable holds the words -/
def WordsIn (w : World) : Prop := 0 < w.heap.size ∧ ∀ i t, wd11[i]? = some t → w.cell? ⟨0, i, none⟩ = some (.string ⟨t.toArray⟩)

theorem WordsIn.keep {w w' : World} (h : WordsIn w) (hb : Below w.heap.size w w') : WordsIn w' :=
  ⟨Nat.lt_of_lt_of_le h.1 hb.size, fun i t ht => (hb.cell (p := ⟨0, i, none⟩) h.1).trans (h.2 i t ht)⟩

def wv : Array Value := #[.string ⟨wPublic.toArray⟩, .string ⟨wPrivate.toArray⟩, .string ⟨wProtected.toArray⟩, .string ⟨wStatic.toArray⟩, .string ⟨wFinal.toArray⟩, .string ⟨wSuper.toArray⟩, .string ⟨#[]⟩, .string ⟨#[]⟩, .string ⟨#[]⟩, .string ⟨wInterface.toArray⟩, .string ⟨wAbstract.toArray⟩]
theorem wv_at (i : Nat) (t : List UInt8) (h : wd11[i]? = some t) : wv[i]? = some (.string ⟨t.toArray⟩) := by
  have e : wv.toList = wd11.map txtV := rfl
  rw [← Array.getElem?_toList, e, List.getElem?_map, h]; rfl
theorem run_words (w : World) (i : Nat) (t : List UInt8) (h : wd11[i]? = some t) : (Instr.index 111 (.agg wv) (.int .i64 i)).run Tryd.prog w = .ok (.string ⟨t.toArray⟩) w := by
  have hi : i < 11 := (List.getElem?_eq_some_iff.1 h).1
  simp [Instr.index, run_underlying Tryd.underlying111, asIntOf, go_sem, hi, wv_at i t h]
/-- the flag of a word -/
def flagN (t : List UInt8) : Int := if t = wPublic then 1 else if t = wPrivate then 2 else if t = wProtected then 4 else if t = wStatic then 8 else if t = wFinal then 16 else if t = wSuper then 32 else if t = wInterface then 512 else if t = wAbstract then 1024 else 0
theorem flagN_at : ∀ i : Fin 11, ∀ t, wd11[i.val]? = some t → t ≠ [] → flagN t = (2 ^ i.val : Nat) := by
  intro i t h hne
  have : ∀ i : Fin 11, wd11[i.val]? ≠ some [] → flagN (wd11[i.val]?.getD []) = (2 ^ i.val : Nat) := by decide
  have h2 := this i (by rw [h]; simpa using hne)
  rw [h] at h2; exact h2
theorem flagN_none (t : List UInt8) (h : ∀ (j : Nat) (u : List UInt8), wd11[j]? = some u → u ≠ t) : flagN t = 0 := by
  unfold flagN
  rw [if_neg (h 0 _ rfl).symm, if_neg (h 1 _ rfl).symm, if_neg (h 2 _ rfl).symm, if_neg (h 3 _ rfl).symm, if_neg (h 4 _ rfl).symm, if_neg (h 5 _ rfl).symm, if_neg (h 9 _ rfl).symm, if_neg (h 10 _ rfl).symm]

theorem pow_wrap (i : Nat) (h : i < 11) : wrap64 (2 ^ i) = ((2 ^ i : Nat) : Int) := by
  have : ∀ i : Fin 11, wrap64 (2 ^ i.val) = ((2 ^ i.val : Nat) : Int) := by decide +kernel
  exact this ⟨i, h⟩

end Go.Proofs.YtfbhjfpkhofifaaDoor.Fl
