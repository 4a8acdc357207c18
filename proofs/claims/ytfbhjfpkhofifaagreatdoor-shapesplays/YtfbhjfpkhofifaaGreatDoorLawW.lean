/- The laws' awake: one text that the document fixes; and plain facts on sound classes. -/
import Derived.Test.YtfbhjfpkhofifaaGreatDoorSoG
namespace Go.Proofs.YtfbhjfpkhofifaaGreatDoor
open Go.RowKit

def c0 : Cls := ⟨⟨#[65]⟩, ⟨#[79, 98, 106, 101, 99, 116]⟩, [], 0, 0, []⟩
theorem c0_sound : clsB c0 = true := by decide +kernel
theorem c0_text : clsT c0 = [99, 108, 97, 115, 115, 32, 65, 10, 115, 117, 112, 101, 114, 32, 79, 98, 106, 101, 99, 116, 10, 102, 108, 97, 103, 115, 10, 108, 111, 97, 100, 101, 114, 32, 48, 10, 101, 110, 100, 10] := by decide +kernel
theorem c0_w : ClsW c0 := ⟨by decide +kernel, by decide +kernel, fun p hp => by simp [c0] at hp, by decide, by decide, fun m hm => by simp [c0] at hm⟩

set_option maxRecDepth 100000 in
set_option maxHeartbeats 1000000 in
theorem awake_any (w : World) (hG : GAll w) : Calls Tryz.prog 7 #[] w fun e w' => e = .returned (.bool true) ∧ Below w.heap.size w w' := by
  have HP : Hid (∀ w, GAll w → Calls Tryz.prog 14 #[.agg #[.string ⟨#[65]⟩, .string ⟨#[79, 98, 106, 101, 99, 116]⟩, .slice none 0 0, .int .i64 0, .int .i64 0, .slice none 0 0]] w fun e w' => e = .returned (.tuple #[.string ⟨#[99, 108, 97, 115, 115, 32, 65, 10, 115, 117, 112, 101, 114, 32, 79, 98, 106, 101, 99, 116, 10, 102, 108, 97, 103, 115, 10, 108, 111, 97, 100, 101, 114, 32, 48, 10, 101, 110, 100, 10]⟩, .int .i64 0]) ∧ Below w.heap.size w w') := fun w h => by
    have := print_good c0 (.slice none 0 0) (.slice none 0 0) w ⟨none, 0, rfl, Nat.le_refl _, by unfold maxLen; omega, fun h => absurd rfl h⟩ ⟨none, 0, rfl, Nat.le_refl _, by unfold maxLen; omega, fun h => absurd rfl h⟩ c0_w c0_sound h
    rw [c0_text] at this
    exact this
  have HG : Hid (GAll w) := hG
  clear hG
  go_enter Tryz.func7, Tryz.ntmps7
  go_wp2_with (go_at_call 14; refine (HP.out _ HG.out).mono ?_; rintro e w1 ⟨rfl, hb1⟩)
  go_ret
  exact ⟨rfl, hb1⟩

/-- what the law asks of a sound method -/
structure MthL (m : Mth) (iface : Bool) (ms : List Mth) (k : Nat) : Prop where
  mem : memberL m.nm.data.toList = true
  desc : pdE m.ds.data.toList = 0
  chk : chkM m.fl iface (m.nm.toList == [60, 105, 110, 105, 116, 62]) = 0
  fnd : findM m.nm m.ds ms 0 = (k : Int)
  abs : hasI m.fl 1024 = true → m.code.length = 0
  body : hasI m.fl 1024 = false → allE m.code m.lo = 0 ∧ wdsN m.ds.data.toList m.fl ≤ m.lo

theorem mth_law {m : Mth} {iface : Bool} {ms : List Mth} {k : Nat} (h : mthB m iface = true) (hf : (findM m.nm m.ds ms 0 == (k : Int)) = true) : MthL m iface ms k := by
  unfold mthB at h
  simp only [Bool.and_eq_true] at h
  obtain ⟨⟨⟨⟨h1, h2⟩, h3⟩, _⟩, h5⟩ := h
  refine ⟨h1, by simpa using h3, by simpa using h2, by simpa using hf, fun ha => ?_, fun ha => ?_⟩
  · rw [if_pos ha] at h5
    simp only [Bool.and_eq_true, beq_iff_eq] at h5
    omega
  · rw [if_neg (by simp [ha])] at h5
    simp only [Bool.and_eq_true, Bool.not_eq_true', decide_eq_false_iff_not, beq_iff_eq] at h5
    exact ⟨h5.2, by omega⟩

theorem mths_law {iface : Bool} {all l : List Mth} {k : Nat} (h : mthsB iface all l k = true) : ∀ j m, l[j]? = some m → MthL m iface all (k + j) := by
  induction l generalizing k with
  | nil => intro j m hm; simp at hm
  | cons x r ih =>
    rw [mthsB] at h
    simp only [Bool.and_eq_true] at h
    intro j m hm
    cases j with
    | zero => simp at hm; subst hm; exact mth_law h.1.1 h.1.2
    | succ j =>
      have := ih h.2 j m (by simpa using hm)
      rwa [show k + 1 + j = k + (j + 1) by omega] at this

theorem cls_law {c : Cls} (h : clsB c = true) : ∀ j m, c.ms[j]? = some m → MthL m (hasI c.fl 512) c.ms j := by
  unfold clsB at h
  simp only [Bool.and_eq_true] at h
  intro j m hm
  have := mths_law h.2 j m hm
  rwa [Nat.zero_add] at this
theorem cls_chk {c : Cls} (h : clsB c = true) : chkC c.fl = 0 := by
  unfold clsB at h
  simp only [Bool.and_eq_true, beq_iff_eq] at h
  exact h.1.1.2

def noSuch : ByteArray := ⟨#[110, 111, 32, 115, 117, 99, 104, 47, 110, 97, 109, 101]⟩
theorem find_none {nm ds : ByteArray} {l : List Mth} {k : Nat} (h : ∀ m ∈ l, (m.nm.toList == nm.toList) = false) : findM nm ds l k = -1 := by
  induction l generalizing k with
  | nil => rfl
  | cons x r ih =>
    rw [findM, h x (List.mem_cons_self ..)]
    exact ih fun m hm => h m (List.mem_cons_of_mem _ hm)
theorem no_such {c : Cls} (h : clsB c = true) (ds : ByteArray) : findM noSuch ds c.ms 0 = -1 := by
  apply find_none
  intro m hm
  have h1 := ((cls_sound h).ms m hm).mem
  cases e : (m.nm.toList == noSuch.toList) with
  | false => rfl
  | true =>
    exfalso
    have e2 : m.nm.data.toList = noSuch.data.toList := by rw [← Lib.toList_data, ← Lib.toList_data]; exact eq_of_beq e
    rw [e2] at h1
    exact absurd h1 (by decide +kernel)
end Go.Proofs.YtfbhjfpkhofifaaGreatDoor
