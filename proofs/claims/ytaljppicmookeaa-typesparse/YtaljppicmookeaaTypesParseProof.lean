/-
  For every text, the Go function arbiterlaw02.TypesParse returns true: Parse, ParseRef, ParseDesc and Args of package types answer what the document's answers answer.
  The statement is 'Rows.TypesParseSaid', for every input (no bound of our own).
-/
import Derived.Test.YtaljppicmookeaaSame
import Derived.Test.YtaljppicmookeaaAwake
namespace Go.Proofs.Ytaljppicmookeaa
open Go.ChangeShapes Go.WideShapes Go.ChangeAt Go.RowKit
open Go.ChangeMaps (open_string shut_string)

set_option maxRecDepth 10000 in
set_option maxHeartbeats 4000000 in
theorem typesParse_walk (s : ByteArray) (hs : s.size ≤ maxLen) (w : World) :
    Calls Try.prog 3 #[.string s] w fun e w' => e = .returned (.bool true) ∧ Below w.heap.size w w' := by
  have HA : Hid (∀ w, _) := awake_any
  have HP : Hid (∀ w, _) := parse_any s hs
  have HPr : Hid (∀ w, _) := rParse_any s hs
  have HR : Hid (∀ w, _) := parseRef_any s hs
  have HRr : Hid (∀ w, _) := rParseRef_any s hs
  have HD : Hid (∀ w, _) := parseDesc_any s hs
  have HDr : Hid (∀ w, _) := rParseDesc_any s hs
  have HG : Hid (∀ w, _) := args_any s hs
  have HGr : Hid (∀ w, _) := rArgs_any s hs
  unfold DOut at HD HDr
  have HI : Hid (∀ (b : Nat) (v : Value) (w' : World), w'.ownsRow b 24 2 v (pdD s.data.toList).1.length (flatT ((pdD s.data.toList).1.map natT)) → IsTys w' v ((pdD s.data.toList).1.map natT)) := fun b v w' h => own_tys (base := b) (by rw [List.length_map]; exact h)
  have HSD : Hid (∀ (v1 v2 : Value) (W : World), IsTys W v1 ((pdD s.data.toList).1.map natT) → IsTys W v2 ((pdD s.data.toList).1.map natT) → Calls Try.prog 16 #[.agg #[v1, .bool (voidB (pdD s.data.toList).2), .int .i64 (retT (pdD s.data.toList).2).1, .string ⟨(retT (pdD s.data.toList).2).2.toArray⟩], .agg #[v2, .bool (voidB (pdD s.data.toList).2), .int .i64 (retT (pdD s.data.toList).2).1, .string ⟨(retT (pdD s.data.toList).2).2.toArray⟩]] W fun e w' => e = .returned (.bool true) ∧ Below W.heap.size W w') :=
    fun v1 v2 W h1 h2 => sameDesc_any v1 v2 _ _ _ _ W h1 h2
  have HS1 : Hid (∀ w, _) := same_true (parT s.data.toList).1 ⟨(parT s.data.toList).2.toArray⟩
  have HS2 : Hid (∀ w, _) := same_true (prfT s.data.toList).1 ⟨(prfT s.data.toList).2.toArray⟩
  generalize (((parT s.data.toList).1 : Nat) : Int) = p1 at *
  generalize (⟨(parT s.data.toList).2.toArray⟩ : ByteArray) = p2 at *
  generalize parE s.data.toList = p3 at *
  generalize (((prfT s.data.toList).1 : Nat) : Int) = r1 at *
  generalize (⟨(prfT s.data.toList).2.toArray⟩ : ByteArray) = r2 at *
  generalize prfE s.data.toList = r3 at *
  generalize pdE s.data.toList = d3 at *
  generalize voidB (pdD s.data.toList).2 = vb at *
  generalize (((retT (pdD s.data.toList).2).1 : Nat) : Int) = rd at *
  generalize (⟨(retT (pdD s.data.toList).2).2.toArray⟩ : ByteArray) = rn at *
  generalize (pdD s.data.toList).1.map natT = ts at *
  generalize (pdD s.data.toList).1.length = n at *
  clear hs
  go_enter Try.func3, Try.ntmps3
  go_wp2_with (first
    | (go_at_call 8; (refine ((HA.out) _).mono ?_; rintro e w8 ⟨rfl, hb⟩; have bw8 : Hid (Below w.heap.size w w8) := Below.step (Below.refl _ _) hb; clear hb))
    | (go_at_call 9; (refine ((HP.out) _).mono ?_; rintro e w9 ⟨rfl, hb⟩; have bw9 : Hid (Below w.heap.size w w9) := Below.step (bw8.out) hb; clear hb; have y9 : w.heap.size ≤ w9.heap.size := bw9.out.size))
    | (go_at_call 10; (refine ((HPr.out) _).mono ?_; rintro e w10 ⟨rfl, hb⟩; have bw10 : Hid (Below w.heap.size w w10) := Below.step (bw9.out.alloc bw9.out.size _) hb; have zw10_0 : w9.heap.size < w10.heap.size := (by have := hb.size; (try simp at this); omega); have cw10_00 : w10.cell? ⟨w9.heap.size, 0, none⟩ = some (.int .i64 p1) := (hb.cell (p := ⟨w9.heap.size, 0, none⟩) (by first | assumption | (simp; done) | (simp; omega) | omega)).trans (by simp [go_sem, *]); have fw10_00 : w10.frozen? ⟨w9.heap.size, 0, none⟩ = false := (hb.frozen (p := ⟨w9.heap.size, 0, none⟩) (by first | assumption | (simp; done) | (simp; omega) | omega)).trans (by simp [go_sem, *]); have cw10_01 : w10.cell? ⟨w9.heap.size, 1, none⟩ = some (.string p2) := (hb.cell (p := ⟨w9.heap.size, 1, none⟩) (by first | assumption | (simp; done) | (simp; omega) | omega)).trans (by simp [go_sem, *]); have fw10_01 : w10.frozen? ⟨w9.heap.size, 1, none⟩ = false := (hb.frozen (p := ⟨w9.heap.size, 1, none⟩) (by first | assumption | (simp; done) | (simp; omega) | omega)).trans (by simp [go_sem, *]); clear hb; have y10 : w.heap.size ≤ w10.heap.size := bw10.out.size))
    | (go_at_call 11; (refine ((HS1.out) _).mono ?_; rintro e x1 ⟨rfl, hb⟩; have bx1 : Hid (Below w.heap.size w x1) := Below.step (bw10.out.alloc bw10.out.size _) hb; have zx1_0 : w9.heap.size < x1.heap.size := (by have := hb.size; (try simp at this); omega); have cx1_00 : x1.cell? ⟨w9.heap.size, 0, none⟩ = some (.int .i64 p1) := (hb.cell (p := ⟨w9.heap.size, 0, none⟩) (by first | assumption | (simp; done) | (simp; omega) | omega)).trans (by simp [go_sem, *]); have fx1_00 : x1.frozen? ⟨w9.heap.size, 0, none⟩ = false := (hb.frozen (p := ⟨w9.heap.size, 0, none⟩) (by first | assumption | (simp; done) | (simp; omega) | omega)).trans (by simp [go_sem, *]); have cx1_01 : x1.cell? ⟨w9.heap.size, 1, none⟩ = some (.string p2) := (hb.cell (p := ⟨w9.heap.size, 1, none⟩) (by first | assumption | (simp; done) | (simp; omega) | omega)).trans (by simp [go_sem, *]); have fx1_01 : x1.frozen? ⟨w9.heap.size, 1, none⟩ = false := (hb.frozen (p := ⟨w9.heap.size, 1, none⟩) (by first | assumption | (simp; done) | (simp; omega) | omega)).trans (by simp [go_sem, *]); have zx1_1 : w10.heap.size < x1.heap.size := (by have := hb.size; (try simp at this); omega); have cx1_10 : x1.cell? ⟨w10.heap.size, 0, none⟩ = some (.int .i64 p1) := (hb.cell (p := ⟨w10.heap.size, 0, none⟩) (by first | assumption | (simp; done) | (simp; omega) | omega)).trans (by simp [go_sem, *]); have fx1_10 : x1.frozen? ⟨w10.heap.size, 0, none⟩ = false := (hb.frozen (p := ⟨w10.heap.size, 0, none⟩) (by first | assumption | (simp; done) | (simp; omega) | omega)).trans (by simp [go_sem, *]); have cx1_11 : x1.cell? ⟨w10.heap.size, 1, none⟩ = some (.string p2) := (hb.cell (p := ⟨w10.heap.size, 1, none⟩) (by first | assumption | (simp; done) | (simp; omega) | omega)).trans (by simp [go_sem, *]); have fx1_11 : x1.frozen? ⟨w10.heap.size, 1, none⟩ = false := (hb.frozen (p := ⟨w10.heap.size, 1, none⟩) (by first | assumption | (simp; done) | (simp; omega) | omega)).trans (by simp [go_sem, *]); clear hb; clear HS1))
    | (go_at_call 12; (refine ((HR.out) _).mono ?_; rintro e w12 ⟨rfl, hb⟩; have bw12 : Hid (Below w.heap.size w w12) := Below.step (bx1.out) hb; have zw12_0 : w9.heap.size < w12.heap.size := (by have := hb.size; (try simp at this); omega); have cw12_00 : w12.cell? ⟨w9.heap.size, 0, none⟩ = some (.int .i64 p1) := (hb.cell (p := ⟨w9.heap.size, 0, none⟩) (by first | assumption | (simp; done) | (simp; omega) | omega)).trans (by simp [go_sem, *]); have fw12_00 : w12.frozen? ⟨w9.heap.size, 0, none⟩ = false := (hb.frozen (p := ⟨w9.heap.size, 0, none⟩) (by first | assumption | (simp; done) | (simp; omega) | omega)).trans (by simp [go_sem, *]); have cw12_01 : w12.cell? ⟨w9.heap.size, 1, none⟩ = some (.string p2) := (hb.cell (p := ⟨w9.heap.size, 1, none⟩) (by first | assumption | (simp; done) | (simp; omega) | omega)).trans (by simp [go_sem, *]); have fw12_01 : w12.frozen? ⟨w9.heap.size, 1, none⟩ = false := (hb.frozen (p := ⟨w9.heap.size, 1, none⟩) (by first | assumption | (simp; done) | (simp; omega) | omega)).trans (by simp [go_sem, *]); have zw12_1 : w10.heap.size < w12.heap.size := (by have := hb.size; (try simp at this); omega); have cw12_10 : w12.cell? ⟨w10.heap.size, 0, none⟩ = some (.int .i64 p1) := (hb.cell (p := ⟨w10.heap.size, 0, none⟩) (by first | assumption | (simp; done) | (simp; omega) | omega)).trans (by simp [go_sem, *]); have fw12_10 : w12.frozen? ⟨w10.heap.size, 0, none⟩ = false := (hb.frozen (p := ⟨w10.heap.size, 0, none⟩) (by first | assumption | (simp; done) | (simp; omega) | omega)).trans (by simp [go_sem, *]); have cw12_11 : w12.cell? ⟨w10.heap.size, 1, none⟩ = some (.string p2) := (hb.cell (p := ⟨w10.heap.size, 1, none⟩) (by first | assumption | (simp; done) | (simp; omega) | omega)).trans (by simp [go_sem, *]); have fw12_11 : w12.frozen? ⟨w10.heap.size, 1, none⟩ = false := (hb.frozen (p := ⟨w10.heap.size, 1, none⟩) (by first | assumption | (simp; done) | (simp; omega) | omega)).trans (by simp [go_sem, *]); clear hb))
    | (go_at_call 13; (refine ((HRr.out) _).mono ?_; rintro e w13 ⟨rfl, hb⟩; have bw13 : Hid (Below w.heap.size w w13) := Below.step (((bw12.out).setCell (by show w.heap.size ≤ w9.heap.size; omega) _).setCell (by show w.heap.size ≤ w9.heap.size; omega) _) hb; have zw13_0 : w9.heap.size < w13.heap.size := (by have := hb.size; (try simp at this); omega); have cw13_00 : w13.cell? ⟨w9.heap.size, 0, none⟩ = some (.int .i64 r1) := (hb.cell (p := ⟨w9.heap.size, 0, none⟩) (by first | assumption | (simp; done) | (simp; omega) | omega)).trans (by simp [go_sem, *]); have fw13_00 : w13.frozen? ⟨w9.heap.size, 0, none⟩ = false := (hb.frozen (p := ⟨w9.heap.size, 0, none⟩) (by first | assumption | (simp; done) | (simp; omega) | omega)).trans (by simp [go_sem, *]); have cw13_01 : w13.cell? ⟨w9.heap.size, 1, none⟩ = some (.string r2) := (hb.cell (p := ⟨w9.heap.size, 1, none⟩) (by first | assumption | (simp; done) | (simp; omega) | omega)).trans (by simp [go_sem, *]); have fw13_01 : w13.frozen? ⟨w9.heap.size, 1, none⟩ = false := (hb.frozen (p := ⟨w9.heap.size, 1, none⟩) (by first | assumption | (simp; done) | (simp; omega) | omega)).trans (by simp [go_sem, *]); have zw13_1 : w10.heap.size < w13.heap.size := (by have := hb.size; (try simp at this); omega); have cw13_10 : w13.cell? ⟨w10.heap.size, 0, none⟩ = some (.int .i64 p1) := (hb.cell (p := ⟨w10.heap.size, 0, none⟩) (by first | assumption | (simp; done) | (simp; omega) | omega)).trans (by simp [go_sem, *]); have fw13_10 : w13.frozen? ⟨w10.heap.size, 0, none⟩ = false := (hb.frozen (p := ⟨w10.heap.size, 0, none⟩) (by first | assumption | (simp; done) | (simp; omega) | omega)).trans (by simp [go_sem, *]); have cw13_11 : w13.cell? ⟨w10.heap.size, 1, none⟩ = some (.string p2) := (hb.cell (p := ⟨w10.heap.size, 1, none⟩) (by first | assumption | (simp; done) | (simp; omega) | omega)).trans (by simp [go_sem, *]); have fw13_11 : w13.frozen? ⟨w10.heap.size, 1, none⟩ = false := (hb.frozen (p := ⟨w10.heap.size, 1, none⟩) (by first | assumption | (simp; done) | (simp; omega) | omega)).trans (by simp [go_sem, *]); clear hb))
    | (go_at_call 11; (refine ((HS2.out) _).mono ?_; rintro e x2 ⟨rfl, hb⟩; have bx2 : Hid (Below w.heap.size w x2) := Below.step (((bw13.out).setCell (by show w.heap.size ≤ w10.heap.size; omega) _).setCell (by show w.heap.size ≤ w10.heap.size; omega) _) hb; have zx2_0 : w9.heap.size < x2.heap.size := (by have := hb.size; (try simp at this); omega); have cx2_00 : x2.cell? ⟨w9.heap.size, 0, none⟩ = some (.int .i64 r1) := (hb.cell (p := ⟨w9.heap.size, 0, none⟩) (by first | assumption | (simp; done) | (simp; omega) | omega)).trans (by simp [go_sem, *]); have fx2_00 : x2.frozen? ⟨w9.heap.size, 0, none⟩ = false := (hb.frozen (p := ⟨w9.heap.size, 0, none⟩) (by first | assumption | (simp; done) | (simp; omega) | omega)).trans (by simp [go_sem, *]); have cx2_01 : x2.cell? ⟨w9.heap.size, 1, none⟩ = some (.string r2) := (hb.cell (p := ⟨w9.heap.size, 1, none⟩) (by first | assumption | (simp; done) | (simp; omega) | omega)).trans (by simp [go_sem, *]); have fx2_01 : x2.frozen? ⟨w9.heap.size, 1, none⟩ = false := (hb.frozen (p := ⟨w9.heap.size, 1, none⟩) (by first | assumption | (simp; done) | (simp; omega) | omega)).trans (by simp [go_sem, *]); have zx2_1 : w10.heap.size < x2.heap.size := (by have := hb.size; (try simp at this); omega); have cx2_10 : x2.cell? ⟨w10.heap.size, 0, none⟩ = some (.int .i64 r1) := (hb.cell (p := ⟨w10.heap.size, 0, none⟩) (by first | assumption | (simp; done) | (simp; omega) | omega)).trans (by simp [go_sem, *]); have fx2_10 : x2.frozen? ⟨w10.heap.size, 0, none⟩ = false := (hb.frozen (p := ⟨w10.heap.size, 0, none⟩) (by first | assumption | (simp; done) | (simp; omega) | omega)).trans (by simp [go_sem, *]); have cx2_11 : x2.cell? ⟨w10.heap.size, 1, none⟩ = some (.string r2) := (hb.cell (p := ⟨w10.heap.size, 1, none⟩) (by first | assumption | (simp; done) | (simp; omega) | omega)).trans (by simp [go_sem, *]); have fx2_11 : x2.frozen? ⟨w10.heap.size, 1, none⟩ = false := (hb.frozen (p := ⟨w10.heap.size, 1, none⟩) (by first | assumption | (simp; done) | (simp; omega) | omega)).trans (by simp [go_sem, *]); clear hb; clear HS2))
    | (go_at_call 14; (refine ((HD.out) _).mono ?_; rintro e w14 ⟨v1, rfl, ho1, hb⟩; have bw14 : Hid (Below w.heap.size w w14) := Below.step (bx2.out) hb; obtain ⟨ao1, cap1, rfl⟩ := own_slice ho1; have I1 : Hid (IsTys (w14.alloc (.cells #[.slice ao1 n cap1, .bool vb, .int .i64 rd, .string rn] 31)) (.slice ao1 n cap1) ts) := (HI.out _ _ _ ho1).keep ((Below.refl _ _).alloc (Nat.le_refl _) _); clear hb ho1))
    | (go_at_call 15; (refine ((HDr.out) _).mono ?_; rintro e w15 ⟨v2, rfl, ho2, hb⟩; have bw15 : Hid (Below w.heap.size w w15) := Below.step (bw14.out.alloc bw14.out.size _) hb; obtain ⟨ao2, cap2, rfl⟩ := own_slice ho2; have I2 : Hid (IsTys (w15.alloc (.cells #[.slice ao2 n cap2, .bool vb, .int .i64 rd, .string rn] 31)) (.slice ao2 n cap2) ts) := (HI.out _ _ _ ho2).keep ((Below.refl _ _).alloc (Nat.le_refl _) _); have J1 : Hid (IsTys (w15.alloc (.cells #[.slice ao2 n cap2, .bool vb, .int .i64 rd, .string rn] 31)) (.slice ao1 n cap1) ts) := (I1.out.keep hb).keep ((Below.refl _ _).alloc (Nat.le_refl _) _); have z15 : w14.heap.size < w15.heap.size := (by have := hb.size; simp at this; omega); obtain ⟨t0, t1, t2, t3⟩ := four_keep (four_new w14 (.slice ao1 n cap1) (.bool vb) (.int .i64 rd) (.string rn) 31) (by simp) hb; clear hb ho2))
    | (go_at_call 16; (refine ((HSD.out) _ _ _ J1.out I2.out).mono ?_; rintro e x3 ⟨rfl, hb⟩; have bx3 : Hid (Below w.heap.size w x3) := Below.step (bw15.out.alloc bw15.out.size _) hb; clear hb))
    | (go_at_call 17; (refine ((HG.out) _).mono ?_; rintro e w17 ⟨rfl, hb⟩; have bw17 : Hid (Below w.heap.size w w17) := Below.step (bx3.out) hb; clear hb))
    | (go_at_call 18; (refine ((HGr.out) _).mono ?_; rintro e w18 ⟨rfl, hb⟩; have bw18 : Hid (Below w.heap.size w w18) := Below.step (bw17.out) hb; clear hb)))
  go_ret
  exact ⟨rfl, bw18.out⟩

theorem typesParse_own : ownKnob Try.prog.godebug = none := by kernel_rfl

set_option linter.unusedVariables false in
set_option maxRecDepth 100000 in
theorem typesParse_lifted (os : Os) (started : os.Started) (H : Type) (enc : TypeId × Value → H) :
    ReturnsInHanded {} Try.checked os 3 .any (Rows.typesParseSpec.pre6 enc Try.prog Try.f3 Rows.typesParseRow.domain false) (Rows.typesParseSpec.post enc Try.prog Try.f3 false true false false) := by
  refine returnsInHanded_of_change (C := Try.checked) typesParse_own started (by kernel_rfl) Try.func3
    (ChangeSpec.witness6 (enc := enc) (C := Try.checked) false ⟨#[], #[.string ByteArray.empty], []⟩ 8 (by kernel_rfl) (by kernel_rfl) (by kernel_rfl) (by kernel_rfl)) ?_
  intro W base args ds gs before hval0 hW hcnd _
  have hval : ∀ (j : Nat) t v, Try.f3.params[j]? = some t → args[j]? = some v → Value.okWide Try.prog W .any base t v := hval0
  have hW' := hW
  obtain ⟨p, q, hA0, hV, rfl, hfz, hnd⟩ := hW
  have hA : DataW.TrodAll enc Try.prog W 0 (fun _ => true) true Try.f3.params.toList args.toList ds p := hA0
  rw [Try.params3] at hA hval
  obtain ⟨v0, vs0, d0, ds0, p0, q0, hargs, rfl, rfl, h0, r0⟩ := trodAll_cons hA
  obtain ⟨rfl, rfl, rfl⟩ := trodAll_nil r0
  obtain rfl : args = #[v0] := by cases args; simp_all
  obtain ⟨rfl, rfl⟩ := trodVars_none hV
  obtain ⟨a0, rfl, rfl, rfl, w0⟩ := open_string Try.underlying9 (hval 0 9 v0 rfl rfl) h0
  clear hA0 hval0
  simp only [List.append_nil] at hW'
  refine (typesParse_walk a0 w0 W).mono fun e W' ⟨he, bel⟩ => ?_
  subst he
  exact ⟨_, rfl, _, _, _, [], [], [], hW', trodAll_mk1 (shut_bool Try.underlying4 _), (trodAll_cons_mk (shut_string Try.underlying9 w0) trodAll_mk0), rfl, bel.frame _, fun h => by cases h⟩

theorem typesParse_over : Rows.typesParseRow.holds Try.pinned (OpenSpec.ofChange Rows.typesParseSpec) :=
  OpenClaim.holds_of_wide 3 Try.f3 rfl rfl rfl rfl rfl rfl rfl ⟨rfl, rfl, rfl, rfl, rfl⟩ rfl rfl rfl rfl rfl (by kernel_rfl) Try.func3 (by kernel_rfl)
    (of_decide_eq_true (by kernel_rfl)) (by unfold Func.isWrapper; first | (rw [if_pos (by decide +kernel)]; kernel_rfl) | (rw [if_neg (by decide +kernel)]; exact ⟨rfl, rfl⟩))
    (fun os started H enc _ => typesParse_lifted os started H enc)

/-- THE STATEMENT -/
theorem typesParse_holds : Rows.TypesParseSaid :=
  typesParse_over
#print axioms typesParse_holds

end Go.Proofs.Ytaljppicmookeaa
