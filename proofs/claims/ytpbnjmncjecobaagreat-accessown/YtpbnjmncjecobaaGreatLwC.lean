/- The law AccessOwn: the walk, joined. -/
import Derived.Test.YtpbnjmncjecobaaGreatLwB
namespace Go.Proofs.YtpbnjmncjecobaaGreat
open Go.RowKit Go.Maps

theorem moI_cases (ps : List Plc) (d n i : Int) (k : Nat) (q : Plc) (m : HM) (hq : plcI ps k = some q) (hm : methI ps k i = some m) : moI ps d k i n = .tuple #[.bool false, .int .i64 3] ∨ ∃ p, plcI ps d = some p ∧ moI ps d k i n = .tuple #[.bool (mOpen ps d k n m.fl (samePk q p)), .int .i64 0] := by
  unfold moI
  rw [hq, hm]
  cases hd : plcI ps d with
  | none => exact .inl rfl
  | some p =>
    cases hn : plcI ps n with
    | none => exact .inl rfl
    | some _ => exact .inr ⟨p, rfl, rfl⟩
theorem methP_mem {q : Plc} {i : Int} {m : HM} (h : methP q i = some m) : m ∈ q.c.ms := by
  unfold methP at h
  split at h
  · exact List.mem_of_getElem? h
  · cases h

theorem AccessOwn_any (v : Value) (l : List Cls) (d x c i n : Int) (W : World) (h : IsClss W v l) : Calls Tryz.prog 11 #[v, .int .i64 d, .int .i64 x, .agg #[.int .i64 c, .int .i64 i], .int .i64 n] W fun e w' => e = .returned (.bool true) ∧ Below W.heap.size W w' := by
  cases hm : methI (wld l) c i with
  | none => exact own_none v l d x c i n W h hm
  | some m =>
    obtain ⟨k, q, rfl, hq, hqI, hmp⟩ := meth_plc hm
    have hs : ¬ 1 < visN m.fl := visW l (clss_w h) q (List.mem_of_getElem? hq) m (methP_mem hmp)
    have m1 : moI (wld l) k k i k = .tuple #[.bool true, .int .i64 0] := by
      unfold moI
      rw [hqI, hm]
      simp only
      rw [samePk_self, own_self]
    have hsp : ∀ (d : Int) (p : Plc), plcI (wld l) d = some p → spI (wld l) d k = samePk q p := fun d p hp => by
      rw [spI, hp, hqI]; exact samePk_comm p q
    have f := fun (d n : Int) (sp : Bool) => own_facts (ps := wld l) (d := d) (c := (k : Int)) (n := n) (sp := sp) hs
    have third : ∃ B h3, (h3 = 3 ∨ h3 = 0) ∧ moI (wld l) x k i n = .tuple #[.bool B, .int .i64 h3] ∧ (h3 = 0 → hasI m.fl 2 = false → spI (wld l) d x = true → spI (wld l) d k = true → B = true) := by
      rcases moI_cases (wld l) x n i k q m hqI hm with e | ⟨p, hp, e⟩
      · exact ⟨false, 3, .inl rfl, e, fun h => absurd h (by decide)⟩
      · refine ⟨_, 0, .inr rfl, e, fun _ h2 h3 h4 => (f x n _).2.2.1 h2 ?_⟩
        unfold spI at h3 h4
        rw [hp] at h3
        rw [hqI] at h4
        cases hd : plcI (wld l) d with
        | none => rw [hd] at h3; cases h3
        | some r =>
          rw [hd] at h3 h4
          simp only at h3 h4
          rw [samePk_comm] at h4
          exact samePk_trans h4 h3
    obtain ⟨B, h3, h33, m3, f5⟩ := third
    rcases moI_cases (wld l) d n i k q m hqI hm with e | ⟨p, hp, e⟩
    · exact own_some v l (wld l) rfl d x i n k m W h hm false B _ _ 3 h3 (.inl rfl) h33 m1 e m3 rfl rfl (fun h => absurd h (by decide)) (fun h => absurd h (by decide)) (fun h => absurd h (by decide)) (fun h => absurd h (by decide)) (fun h => absurd h (by decide))
    · refine own_some v l (wld l) rfl d x i n k m W h hm _ B _ _ 0 h3 (.inr rfl) h33 m1 e m3 rfl rfl (fun _ => (f d n _).1) (fun _ h2 => ?_) (fun _ h2 h4 => (f d n _).2.2.1 h2 ?_) (fun _ h2 h4 => ?_) (fun _ => f5)
      · rw [(f d n _).2.1 h2, Bool.eq_iff_iff, beq_iff_eq, beq_iff_eq]; exact ⟨Eq.symm, Eq.symm⟩
      · rw [← hsp d p hp]; exact h4
      · rw [(f d n _).2.2.2 h2 h4, hsp d p hp]
end Go.Proofs.YtpbnjmncjecobaaGreat
