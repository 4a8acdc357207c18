/- Walks of package flags at the words that its variable holds: flagOf. -/
import Derived.Test.YtfbhjfpkhofifaaGreatDoorFOwnA
namespace Go.Proofs.YtfbhjfpkhofifaaGreatDoor.Fl
open Go.RowKit

/-- the words by their places -/
def wd11 : List (List UInt8) := [wPublic, wPrivate, wProtected, wStatic, wFinal, wSuper, [], [], [], wInterface, wAbstract]
/-- the package's variable holds the words -/
def WordsIn (w : World) : Prop := 2 < w.heap.size ∧ ∀ i t, wd11[i]? = some t → w.cell? ⟨2, i, none⟩ = some (.string ⟨t.toArray⟩)

theorem WordsIn.keep {w w' : World} (h : WordsIn w) (hb : Below w.heap.size w w') : WordsIn w' :=
  ⟨Nat.lt_of_lt_of_le h.1 hb.size, fun i t ht => (hb.cell (p := ⟨2, i, none⟩) h.1).trans (h.2 i t ht)⟩

def wv : Array Value := #[.string ⟨wPublic.toArray⟩, .string ⟨wPrivate.toArray⟩, .string ⟨wProtected.toArray⟩, .string ⟨wStatic.toArray⟩, .string ⟨wFinal.toArray⟩, .string ⟨wSuper.toArray⟩, .string ⟨#[]⟩, .string ⟨#[]⟩, .string ⟨#[]⟩, .string ⟨wInterface.toArray⟩, .string ⟨wAbstract.toArray⟩]
theorem wv_at (i : Nat) (t : List UInt8) (h : wd11[i]? = some t) : wv[i]? = some (.string ⟨t.toArray⟩) := by
  have e : wv.toList = wd11.map txtV := rfl
  rw [← Array.getElem?_toList, e, List.getElem?_map, h]; rfl
theorem run_words (w : World) (i : Nat) (t : List UInt8) (h : wd11[i]? = some t) : (Instr.index 157 (.agg wv) (.int .i64 i)).run Tryz.prog w = .ok (.string ⟨t.toArray⟩) w := by
  have hi : i < 11 := (List.getElem?_eq_some_iff.1 h).1
  simp [Instr.index, run_underlying Tryz.underlying157, asIntOf, go_sem, hi, wv_at i t h]
/-- the flag of a word -/
def flagN (t : List UInt8) : Int := if t = wPublic then 1 else if t = wPrivate then 2 else if t = wProtected then 4 else if t = wStatic then 8 else if t = wFinal then 16 else if t = wSuper then 32 else if t = wInterface then 512 else if t = wAbstract then 1024 else 0
theorem flagN_at : ∀ i : Fin 11, ∀ t, wd11[i.val]? = some t → t ≠ [] → flagN t = (2 ^ i.val : Nat) := by
  intro i t h hne
  have : ∀ i : Fin 11, wd11[i.val]? ≠ some [] → flagN (wd11[i.val]?.getD []) = (2 ^ i.val : Nat) := by decide
  have h2 := this i (by rw [h]; simpa using hne)
  rw [h] at h2; exact h2
theorem flagN_none (t : List UInt8) (h : ∀ (j : Nat) (u : List UInt8), wd11[j]? = some u → u ≠ t) : flagN t = 0 := by
  unfold flagN
  rw [if_neg (h 0 _ rfl).symm, if_neg (h 1 _ rfl).symm, if_neg (h 2 _ rfl).symm, if_neg (h 3 _ rfl).symm, if_neg (h 4 _ rfl).symm, if_neg (h 5 _ rfl).symm, if_neg (h 9 _ rfl).symm, if_neg (h 10 _ rfl).symm]

theorem pow_wrap (i : Nat) (h : i < 11) : wrap64 (2 ^ i) = ((2 ^ i : Nat) : Int) := by
  have : ∀ i : Fin 11, wrap64 (2 ^ i.val) = ((2 ^ i.val : Nat) : Int) := by decide +kernel
  exact this ⟨i, h⟩

set_option maxRecDepth 100000 in
set_option maxHeartbeats 400000 in
theorem flagOf_any (s : ByteArray) (w : World) (h : WordsIn w) : Calls Tryz.prog 206 #[.string s] w fun e w' => e = .returned (.int .i64 (flagN s.data.toList)) ∧ w' = w := by
  have h0 := h.2 0 _ rfl
  have h1 := h.2 1 _ rfl
  have h2 := h.2 2 _ rfl
  have h3 := h.2 3 _ rfl
  have h4 := h.2 4 _ rfl
  have h5 := h.2 5 _ rfl
  have h6 := h.2 6 _ rfl
  have h7 := h.2 7 _ rfl
  have h8 := h.2 8 _ rfl
  have h9 := h.2 9 _ rfl
  have h10 := h.2 10 _ rfl
  have HI : Hid (∀ (i : Nat) (t : List UInt8) (w : World), _ → _) := fun i t w => run_words w i t
  have HF : Hid (∀ (i : Fin 11) t, _) := flagN_at
  have hse : s.toList.isEmpty = decide (s.data.toList = []) := empty_bytes s
  have HZ : Hid _ := flagN_none s.data.toList
  clear h
  simp only [wv] at HI
  by_cases hem : s.data.toList = []
  · have hr : flagN s.data.toList = 0 := by rw [hem]; rfl
    rw [hr]
    simp only [hem, decide_true] at hse
    go_enter Tryz.func206, Tryz.ntmps206
    go_wp2
    go_ret
    exact ⟨rfl, rfl⟩
  · simp only [hem, decide_false] at hse
    go_enter Tryz.func206, Tryz.ntmps206
    go_wp2
    go_loop [8] (fun iv => ∃ (i : Nat), iv = .int .i64 i ∧ i ≤ 11 ∧ Hid (∀ (j : Nat) (u : List UInt8), j < i → wd11[j]? = some u → u ≠ s.data.toList)) (fun iv => 11 - (intOf iv).toNat)
    case atStart => exact ⟨0, rfl, Nat.zero_le _, fun j u hj => absurd hj (Nat.not_lt_zero _)⟩
    case round =>
      obtain ⟨i, rfl, hi, HN⟩ := hrel
      by_cases hlt : i < 11
      · obtain ⟨t, ht⟩ : ∃ t, wd11[i]? = some t := ⟨_, List.getElem?_eq_getElem hlt⟩
        have hix : ∀ w, _ := fun w => HI.out i t w ht
        go_wp2
        · rename_i hc _
          go_ret
          refine ⟨fret_int ?_, rfl⟩
          have e : s.data.toList = t := by rw [← Lib.toList_data]; exact eq_of_beq hc
          rw [e] at hem ⊢
          rw [HF.out ⟨i, hlt⟩ t ht hem]
          exact pow_wrap i hlt
        · rename_i hc
          have HN2 : Hid (∀ (j : Nat) (u : List UInt8), j < i + 1 → wd11[j]? = some u → u ≠ s.data.toList) := by
            intro j u hj hu e
            by_cases hji : j < i
            · exact HN.out j u hji hu e
            · obtain rfl : j = i := by omega
              rw [ht] at hu
              obtain rfl := Option.some.inj hu
              rw [Lib.toList_data, e] at hc
              simp at hc
          go_round
          case rel => exact ⟨i + 1, by go_num, by omega, HN2⟩
          case measure => simp [intOf]; omega
      · have hr : flagN s.data.toList = 0 := HZ.out (fun j u hu => HN.out j u (by have := (List.getElem?_eq_some_iff.1 hu).1; simp [wd11] at this; omega) hu)
        clear HN HI HF HZ
        go_wp2
        go_ret
        exact ⟨rfl, rfl⟩
end Go.Proofs.YtfbhjfpkhofifaaGreatDoor.Fl
