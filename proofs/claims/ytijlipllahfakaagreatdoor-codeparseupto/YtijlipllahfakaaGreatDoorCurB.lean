/- Walks of what a cursor reads a name by: the cut at a semicolon, and the name; what was there before stays but the cursor's place. -/
import Derived.Test.YtijlipllahfakaaGreatDoorCurA
namespace Go.Proofs.YtijlipllahfakaaGreatDoor
open Go.RowKit

/-- what indexByte says -/
theorem semi_indexByte_miss (l : List UInt8) (h : Lib.indexByte l 59 = -1) : (59 : UInt8) ∉ l := by
  induction l with
  | nil => simp
  | cons b l ih =>
    unfold Lib.indexByte at h
    split at h
    · simp at h
    · rename_i hb
      have hb' : b ≠ 59 := by simpa using hb
      split at h
      · rename_i h1
        have := ih (by simpa using h1)
        simp [hb'.symm, this]
      · rename_i h1
        have := Lib.indexByte_ge l 59
        have h1' : Lib.indexByte l 59 ≠ -1 := by simpa using h1
        omega

theorem semi_indexByte_hit (l : List UInt8) (h : Lib.indexByte l 59 ≠ -1) : ∃ a b, l = a ++ 59 :: b ∧ (59 : UInt8) ∉ a ∧ Lib.indexByte l 59 = (a.length : Int) := by
  induction l with
  | nil => simp [Lib.indexByte] at h
  | cons b l ih =>
    unfold Lib.indexByte at h ⊢
    by_cases hb : (b == 59) = true
    · have hb' : b = 59 := by simpa using hb
      exact ⟨[], l, by simp [hb'], by simp, by simp [hb]⟩
    · have hb' : (b == 59) = false := by simpa using hb
      have hb'' : b ≠ 59 := by simpa using hb
      simp only [hb', Bool.false_eq_true, if_false] at h ⊢
      by_cases h1 : (Lib.indexByte l 59 == -1) = true
      · simp [h1] at h
      · have h1' : Lib.indexByte l 59 ≠ -1 := by simpa using h1
        obtain ⟨x, y, e, hx, hi⟩ := ih h1'
        refine ⟨b :: x, y, by simp [e], by simp [hb''.symm, hx], ?_⟩
        simp only [h1, if_false, Bool.false_eq_true]
        rw [hi]; simp

set_option maxRecDepth 100000 in
set_option maxHeartbeats 400000 in
theorem semi_indexByte_any (s : ByteArray) (w : World) :
    Calls Tryz.prog 59 #[.string s, .int .u8 59] w fun e w' => e = .returned (.int .i64 (Lib.indexByte s.data.toList 59)) ∧ w' = w := by
  go_enter Tryz.func59, Tryz.ntmps59
  go_wp2
  rw [run_callFunc_extern Tryz.func75 (by kernel_rfl) (by kernel_rfl) (by kernel_rfl) (e := Extern.BytealgIndexByte.indexByte) (by kernel_rfl), Lib.run_indexByteString]
  simp only [Result.andThen]
  rw [Oper.upon_value]
  go_wp2
  go_ret
  exact ⟨rfl, rfl⟩

set_option maxRecDepth 100000 in
set_option maxHeartbeats 400000 in
theorem semi_index_any (s : ByteArray) (w : World) :
    Calls Tryz.prog 40 #[.string s, .string ⟨#[59]⟩] w fun e w' => e = .returned (.int .i64 (Lib.indexByte s.data.toList 59)) ∧ w' = w := by
  by_cases hq : ([59] == s.toList) = true
  · have hi : Lib.indexByte s.data.toList 59 = 0 := by
      have : s.data.toList = [59] := by rw [← Lib.toList_data]; exact (beq_iff_eq.1 hq).symm
      rw [this]; rfl
    have HI : Hid (Lib.indexByte s.data.toList 59 = 0) := hi
    clear hi
    go_enter Tryz.func40, Tryz.ntmps40
    go_wp2
    go_ret
    exact ⟨ret_int HI.out.symm, rfl⟩
  · have hq' : ([59] == s.toList) = false := by simpa using hq
    clear hq
    go_enter Tryz.func40, Tryz.ntmps40
    go_wp2_with (go_at_call 59; refine (semi_indexByte_any s _).mono ?_; rintro e w' ⟨rfl, rfl⟩)
    go_ret
    exact ⟨rfl, rfl⟩

set_option maxRecDepth 100000 in
set_option maxHeartbeats 400000 in
theorem semi_liteCut_miss (s : ByteArray) (w : World) (h : Lib.indexByte s.data.toList 59 = -1) :
    Calls Tryz.prog 28 #[.string s, .string ⟨#[59]⟩] w fun e w' => e = .returned (.tuple #[.string s, .string ⟨#[]⟩, .bool false]) ∧ ∃ n, w' = w.drewN n := by
  have HB : Hid (∀ w, _) := semi_index_any s
  rw [h] at HB
  clear h
  go_enter Tryz.func28, Tryz.ntmps28
  go_wp2_with (go_at_call 40; refine ((HB.out) _).mono ?_; rintro e w' ⟨rfl, rfl⟩)
  go_ret3
  exact ⟨rfl, 0, rfl⟩

set_option maxRecDepth 100000 in
set_option maxHeartbeats 400000 in
theorem semi_liteCut_hit (s : ByteArray) (hs : s.size ≤ maxLen) (w : World) (n : Nat) (hn : n < s.size) (h : Lib.indexByte s.data.toList 59 = n) :
    Calls Tryz.prog 28 #[.string s, .string ⟨#[59]⟩] w fun e w' => e = .returned (.tuple #[.string (s.extract 0 n), .string (s.extract (n + 1) s.size), .bool true]) ∧ ∃ n, w' = w.drewN n := by
  have HB : Hid (∀ w, _) := semi_index_any s
  rw [h] at HB
  clear h
  unfold maxLen at hs
  go_enter Tryz.func28, Tryz.ntmps28
  go_wp2_with (go_at_call 40; refine ((HB.out) _).mono ?_; rintro e w' ⟨rfl, rfl⟩)
  go_region
  all_goals (go_wp2; go_ret3; exact ⟨rfl, 1, rfl⟩)

set_option maxRecDepth 100000 in
set_option maxHeartbeats 400000 in
theorem semi_cut_miss (s : ByteArray) (w : World) (h : Lib.indexByte s.data.toList 59 = -1) :
    Calls Tryz.prog 12 #[.string s, .string ⟨#[59]⟩] w fun e w' => e = .returned (.tuple #[.string s, .string ⟨#[]⟩, .bool false]) ∧ ∃ n, w' = w.drewN n := by
  have HB : Hid (∀ w, _) := fun w => semi_liteCut_miss s w h
  clear h
  go_enter Tryz.func12, Tryz.ntmps12
  go_wp2_with (go_at_call 28; refine ((HB.out) _).mono ?_; rintro e w' ⟨rfl, n, rfl⟩)
  go_ret3
  exact ⟨rfl, _, rfl⟩

set_option maxRecDepth 100000 in
set_option maxHeartbeats 400000 in
theorem semi_cut_hit (s : ByteArray) (hs : s.size ≤ maxLen) (w : World) (n : Nat) (hn : n < s.size) (h : Lib.indexByte s.data.toList 59 = n) :
    Calls Tryz.prog 12 #[.string s, .string ⟨#[59]⟩] w fun e w' => e = .returned (.tuple #[.string (s.extract 0 n), .string (s.extract (n + 1) s.size), .bool true]) ∧ ∃ n, w' = w.drewN n := by
  have HB : Hid (∀ w, _) := fun w => semi_liteCut_hit s hs w n hn h
  clear h
  go_enter Tryz.func12, Tryz.ntmps12
  go_wp2_with (go_at_call 28; refine ((HB.out) _).mono ?_; rintro e w' ⟨rfl, n, rfl⟩)
  go_ret3
  exact ⟨rfl, _, rfl⟩


/-- what a cut at the first semicolon answers -/
def cutV (r : ByteArray) : Value := match semi r.data.toList with
  | none => .tuple #[.string r, .string ⟨#[]⟩, .bool false]
  | some (a, b) => .tuple #[.string ⟨a.toArray⟩, .string ⟨b.toArray⟩, .bool true]

theorem cutS_any (r : ByteArray) (hs : r.size ≤ 1000000) (w : World) :
    Calls Tryz.prog 12 #[.string r, .string ⟨#[59]⟩] w fun e w' => e = .returned (cutV r) ∧ Below w.heap.size w w' := by
  by_cases hx : Lib.indexByte r.data.toList 59 = -1
  · refine (semi_cut_miss r w hx).mono fun e w' ⟨he, n, hn⟩ => ⟨?_, ?_⟩
    · rw [he, cutV, semi_none _ (semi_indexByte_miss _ hx)]
    · rw [hn]; exact below_drewN (Below.refl _ _) n
  · obtain ⟨a, b, hab, ha, hix⟩ := semi_indexByte_hit _ hx
    have hsz : r.size = a.length + 1 + b.length := by
      have : r.data.toList.length = r.size := by simp
      rw [← this, hab]; simp; omega
    have han : a.length < r.size := by omega
    have e1 : r.extract 0 a.length = ⟨a.toArray⟩ := by rw [take_bytes, hab]; simp
    have e2 : r.extract (a.length + 1) r.size = ⟨b.toArray⟩ := by
      rw [drop_bytes, hab, show a ++ 59 :: b = (a ++ [59]) ++ b by simp, List.drop_left' (by simp)]
    refine (semi_cut_hit r (by unfold maxLen; omega) w a.length han hix).mono fun e w' ⟨he, n, hn⟩ => ⟨?_, ?_⟩
    · rw [he, cutV, hab, semi_app _ _ ha, e1, e2]
    · rw [hn]; exact below_drewN (Below.refl _ _) n

/-- what readName answers, and where the cursor stands then -/
def nameS (l : List UInt8) : List UInt8 := match semi l with | some (a, _) => if validL a then a else [] | none => []
def nameB (l : List UInt8) : Bool := match semi l with | some (a, _) => validL a | none => false
def nameP (l : List UInt8) : Nat := match semi l with | some (a, _) => if validL a then a.length + 1 else 0 | none => 0

set_option maxRecDepth 100000 in
set_option maxHeartbeats 1000000 in
theorem readName_any (b : Nat) (s : ByteArray) (pl : Nat) (hpl : pl ≤ s.size) (hs : s.size ≤ 1000000) (W : World) (hc : Cur W b s pl) :
    Calls Tryz.prog 91 #[.pointer (some ⟨b, 0, none⟩)] W fun e w' => e = .returned (.tuple #[.string ⟨(nameS (s.data.toList.drop pl)).toArray⟩, .bool (nameB (s.data.toList.drop pl))]) ∧ Cur w' b s (pl + nameP (s.data.toList.drop pl)) ∧ W.grownBy w' (some b) := by
  have HF : Hid (∀ w, Hid (Below W.heap.size W w) → Calls Tryz.prog 92 #[.agg #[.string s], .int .i64 pl] w fun e w' => e = .returned (.string (s.extract pl s.size)) ∧ Hid (Below W.heap.size W w')) :=
    fun w h => (from_any s pl hpl w).mono fun e w' ⟨he, hb⟩ => ⟨he, h.out.trans (hb.mono h.out.size)⟩
  have HP : Hid (∀ w, Hid (Below W.heap.size W w) → Calls Tryz.prog 12 #[.string (s.extract pl s.size), .string ⟨#[59]⟩] w fun e w' => e = .returned (cutV (s.extract pl s.size)) ∧ Hid (Below W.heap.size W w')) :=
    fun w h => (cutS_any (s.extract pl s.size) (by simp; omega) w).mono fun e w' ⟨he, hb⟩ => ⟨he, h.out.trans (hb.mono h.out.size)⟩
  obtain ⟨σ, V, V1, V2⟩ : ∃ (σ : Type) (V : σ → World), Hid (∀ s, Hid (Below W.heap.size W (V s))) ∧ Hid (∀ w, Hid (Below W.heap.size W w) → ∃ s, w = V s) :=
    ⟨{w // Hid (Below W.heap.size W w)}, Subtype.val, fun s => s.2, fun w q => ⟨⟨w, q⟩, rfl⟩⟩
  have T0 : Hid (Below W.heap.size W W.drew) := (Below.refl _ _).drew
  have hne : Nonempty σ := (V2.out _ T0).elim fun s _ => ⟨s⟩
  have q0 : ∀ s', (V s').cell? ⟨b, 0, none⟩ = some (.string s) := fun s' => ((hc.keep (V1.out s').out).cells).1
  have q1 : ∀ s', (V s').cell? ⟨b, 1, none⟩ = some (.int .i64 pl) := fun s' => ((hc.keep (V1.out s').out).cells).2.1
  have hbs := hc.cells.2.2.2
  have HC : Hid (Cur W b s pl) := hc
  clear hc
  have hd : (s.extract pl s.size).data.toList = s.data.toList.drop pl := Lib.extract_to_end _ _
  unfold cutV at HP
  rw [hd] at HP
  have hlen : (s.data.toList.drop pl).length = s.size - pl := by simp
  generalize s.data.toList.drop pl = l at *
  clear hd
  cases hsm : semi l with
  | none =>
    have e1 : nameS l = [] := by simp [nameS, hsm]
    have e2 : nameB l = false := by simp [nameB, hsm]
    have e3 : nameP l = 0 := by simp [nameP, hsm]
    rw [e1, e2, e3]
    rw [hsm] at HP
    clear hsm e1 e2 e3 hlen
    go_enter Tryz.func91, Tryz.ntmps91
    go_wp2
    refine wp_region_class (C := fun w' => ∃ s, w' = V s) (by kernel_rfl) (by kernel_rfl) (V2.out _ T0) ?_
    repeat (go_big_quiet_step (first
      | (go_at_call 92; exact (HF.out _ (V1.out _)).mono fun e w'' z => ⟨z.1, V2.out _ z.2⟩)
      | (go_at_call 12; exact (HP.out _ (V1.out _)).mono fun e w'' z => ⟨z.1, V2.out _ z.2⟩)))
    refine wpQuiet_nil ?_
    intro w9 hw9
    obtain ⟨s9, rfl⟩ := hw9
    go_wp2
    go_ret2
    exact ⟨rfl, HC.out.keep (V1.out s9).out, grownBy_below (V1.out s9).out⟩
  | some p =>
    obtain ⟨x, y⟩ := p
    have hl := (semi_eq hsm).1
    have hxs : x.length + 1 + y.length = s.size - pl := by rw [← hlen, hl]; simp; omega
    have hmk : (⟨x.toArray⟩ : ByteArray).size = x.length := mk_size x
    have HV : Hid (∀ w, _) := valid_any ⟨x.toArray⟩ (by rw [mk_size]; unfold maxLen; omega)
    simp only at HV
    rw [hsm] at HP
    cases hv : validL x with
    | false =>
      have e1 : nameS l = [] := by simp [nameS, hsm, hv]
      have e2 : nameB l = false := by simp [nameB, hsm, hv]
      have e3 : nameP l = 0 := by simp [nameP, hsm, hv]
      rw [e1, e2, e3]
      rw [hv] at HV
      clear hsm e1 e2 e3 hlen hl hxs hv
      go_enter Tryz.func91, Tryz.ntmps91
      go_wp2
      refine wp_region_class (C := fun w' => ∃ s, w' = V s) (by kernel_rfl) (by kernel_rfl) (V2.out _ T0) ?_
      repeat (go_big_quiet_step (first
        | (go_at_call 92; exact (HF.out _ (V1.out _)).mono fun e w'' z => ⟨z.1, V2.out _ z.2⟩)
        | (go_at_call 12; exact (HP.out _ (V1.out _)).mono fun e w'' z => ⟨z.1, V2.out _ z.2⟩)))
      refine wpQuiet_nil ?_
      intro w9 hw9
      obtain ⟨s9, rfl⟩ := hw9
      go_wp2_with (go_at_call 63; refine ((HV.out) _).mono ?_; rintro e w2 ⟨rfl, hb2⟩)
      go_ret2
      have HB := (V1.out s9).out.trans (hb2.mono (V1.out s9).out.size)
      exact ⟨rfl, HC.out.keep HB, grownBy_below HB⟩
    | true =>
      have e1 : nameS l = x := by simp [nameS, hsm, hv]
      have e2 : nameB l = true := by simp [nameB, hsm, hv]
      have e3 : nameP l = x.length + 1 := by simp [nameP, hsm, hv]
      rw [e1, e2, e3]
      rw [hv] at HV
      clear hsm e1 e2 e3 hlen hl hv
      go_enter Tryz.func91, Tryz.ntmps91
      go_wp2
      refine wp_region_class (C := fun w' => ∃ s, w' = V s) (by kernel_rfl) (by kernel_rfl) (V2.out _ T0) ?_
      repeat (go_big_quiet_step (first
        | (go_at_call 92; exact (HF.out _ (V1.out _)).mono fun e w'' z => ⟨z.1, V2.out _ z.2⟩)
        | (go_at_call 12; exact (HP.out _ (V1.out _)).mono fun e w'' z => ⟨z.1, V2.out _ z.2⟩)))
      refine wpQuiet_nil ?_
      intro w9 hw9
      obtain ⟨s9, rfl⟩ := hw9
      go_wp2_with (go_at_call 63; refine ((HV.out) _).mono ?_; rintro e w2 ⟨rfl, hb2⟩; have HB : Hid (Below W.heap.size W w2) := (V1.out s9).out.trans (hb2.mono (V1.out s9).out.size); have r1 : w2.cell? ⟨b, 1, none⟩ = some (.int .i64 pl) := (HC.out.keep HB.out).cells.2.1; have r2 : w2.frozen? ⟨b, 1, none⟩ = false := (HC.out.keep HB.out).cells.2.2.1; clear hb2)
      go_ret2
      exact ⟨rfl, (HC.out.keep HB.out).move _, grownBy_trans (grownBy_below HB.out) (grownBy_set _ _ _ _) (fun _ h => .inl h)⟩

end Go.Proofs.YtijlipllahfakaaGreatDoor
