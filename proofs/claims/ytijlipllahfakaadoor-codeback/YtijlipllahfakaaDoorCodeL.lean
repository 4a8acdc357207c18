/- The walk of the document's CheckAll (arbiterref04); what was there before stays. -/
import Derived.Test.YtijlipllahfakaaDoorCodeK
namespace Go.Proofs.YtijlipllahfakaaDoor
open Go.RowKit

def ickI (i : Ins) : Int := ickE i.op i.n i.t i.b i.c i.m i.d
/-- is an instruction out of place among len instructions? -/
def badI (locals len : Int) (i : Ins) : Bool := (ickI i != 0) || ((opdI i.op == 2) && decide (locals ≤ i.n)) || ((opdI i.op == 3) && decide (len ≤ i.n))
def allE (l : List Ins) (locals : Int) : Int := if l.length < 1 ∨ 200 < l.length then 1 else if l.any (badI locals l.length) then 1 else 0

/-- the texts of an instruction are not too long to be walked -/
def InsOK (i : Ins) : Prop := i.t.size ≤ maxLen ∧ i.c.size ≤ maxLen ∧ i.m.size ≤ maxLen ∧ i.d.size ≤ maxLen

theorem any_at {l : List Ins} {p : Ins → Bool} (k : Nat) (x : Ins) (h : l[k]? = some x) : (l.drop k).any p = (p x || (l.drop (k + 1)).any p) := by
  obtain ⟨h1, h2⟩ := List.getElem?_eq_some_iff.1 h
  rw [List.drop_eq_getElem_cons h1, h2, List.any_cons]

theorem ick_01 (op n : Int) (t : ByteArray) (b : Bool) (c m d : ByteArray) : ickE op n t b c m d = 0 ∨ ickE op n t b c m d = 1 := by
  unfold ickE; split <;> simp

set_option maxRecDepth 100000 in
set_option maxHeartbeats 8000000 in
theorem rCheckAll_any (v : Value) (l : List Ins) (locals : Int) (W : World) (h : IsInss W v l) (hok : ∀ i ∈ l, InsOK i) : Calls Tryd.prog 24 #[v, .int .i64 locals] W fun e w' => e = .returned (.int .i64 (allE l locals)) ∧ Below W.heap.size W w' := by
  obtain ⟨ao, cap, rfl, h1, h2, h3⟩ := h
  obtain ⟨N, hN⟩ : ∃ N, l.length = N := ⟨_, rfl⟩
  unfold maxLen at h2
  have HE : Hid (allE l locals = if N < 1 ∨ 200 < N then 1 else if l.any (badI locals N) then 1 else 0) := by rw [Hid, allE, hN]
  rw [hN] at h1 ⊢
  have HN1 : Hid (l.length = N) := hN
  have HA : Hid _ := h3
  have HOK : Hid _ := hok
  clear hN h3 hok
  by_cases hlen : N < 1 ∨ 200 < N
  · have HZ : Hid (allE l locals = 1) := by rw [Hid, HE.out, if_pos hlen]
    clear HE HA HOK HN1
    rcases hlen with hlen | hlen
    · have hlen2 : (N : Int) < 1 := by omega
      go_enter Tryd.func24, Tryd.ntmps24
      go_wp2
      go_ret
      exact ⟨ret_int HZ.out.symm, Below.refl _ _⟩
    · have hlen2 : ¬ (N : Int) < 1 := by omega
      have hlen3 : (200 : Int) < N := by omega
      go_enter Tryd.func24, Tryd.ntmps24
      go_wp2
      go_ret
      exact ⟨ret_int HZ.out.symm, Below.refl _ _⟩
  · have hlo : 1 ≤ N := by omega
    have hhi : N ≤ 200 := by omega
    have HE2 : Hid (allE l locals = if l.any (badI locals N) then 1 else 0) := by rw [Hid, HE.out, if_neg hlen]
    have hlen2 : ¬ (N : Int) < 1 := by omega
    have hlen3 : ¬ (200 : Int) < N := by omega
    clear HE hlen
    go_enter Tryd.func24, Tryd.ntmps24
    go_wp2
    go_loopw [5] (fun iv wr => ∃ i : Nat, iv = .int .i64 i ∧ i ≤ N ∧ Hid (Below W.heap.size W wr) ∧ Hid ((l.drop i).any (badI locals N) = l.any (badI locals N))) (fun iv _ => N - (intOf iv).toNat)
    case atStart => exact ⟨0, rfl, Nat.zero_le _, Below.refl _ _, rfl⟩
    case round =>
      obtain ⟨i, rfl, hi, hb, hs⟩ := hrel
      by_cases hlt : i < N
      · obtain ⟨bk, o, hao, hbk, hc⟩ := HA.out (by intro e; have := HN1.out; rw [e] at this; simp at this; omega)
        obtain ⟨x, hx⟩ : ∃ x, l[i]? = some x := ⟨_, List.getElem?_eq_getElem (by rw [HN1.out]; exact hlt)⟩
        subst hao
        have hst := any_at (p := badI locals N) i x hx
        rw [hs.out] at hst
        have hcx := hc i x hx
        obtain ⟨k1, k2, k3, k4⟩ := HOK.out x (List.mem_of_getElem? hx)
        have HO : Hid (∀ w, _) := rOperand_any x.op
        have HC := rCheck_any x.op x.n x.t x.b x.c x.m x.d k1 k2 k3 k4
        have hbad : badI locals N x = ((ickE x.op x.n x.t x.b x.c x.m x.d != 0) || ((opdI x.op == 2) && decide (locals ≤ x.n)) || ((opdI x.op == 3) && decide ((N : Int) ≤ x.n))) := rfl
        have h01 := ick_01 x.op x.n x.t x.b x.c x.m x.d
        obtain ⟨xo, xn, xt, xb, xc, xm, xd⟩ := x
        simp only at HO HC hbad h01
        generalize ickE xo xn xt xb xc xm xd = ck at *
        generalize badI locals N _ = bad at *
        generalize opdI xo = kk at *
        obtain ⟨p0, p1, p2, p3, p4, p5, p6⟩ := hcx.keep hb.out hbk
        simp only at p0 p1 p2 p3 p4 p5 p6
        have hbk2 : bk < wr.heap.size := Nat.lt_of_lt_of_le hbk hb.out.size
        have HC : Hid (∀ w, _) := HC
        clear hc hcx HA HOK hx k1 k2 k3 k4 hs
        rcases h01 with rfl | rfl
        · by_cases e2 : kk = 2
          · by_cases hl : locals ≤ xn
            · have g0 : ((0 : Int) != 0) = false := rfl
              have g2 : (kk == 2) = true := by rw [e2]; rfl
              have g3 : (kk == 3) = false := by rw [e2]; rfl
              have gl : decide (locals ≤ xn) = true := by simpa using hl
              have HF : Hid (allE l locals = 1) := by rw [Hid, HE2.out, hst, show bad = true by rw [hbad]; simp [*]]; rfl
              clear hst hbad HE2
              go_wp2_with (first
                | (go_at_call 12; refine (HO.out _).mono ?_; rintro e w3 ⟨rfl, hw3⟩; rw [hw3]; clear hw3 HO)
                | (go_at_call 14; refine (HC.out _).mono ?_; rintro e w1 ⟨rfl, hb1⟩; have c1 : w1.cell? ⟨bk, o + i * 7 + 1, none⟩ = some (.int .i64 xn) := (hb1.cell (p := ⟨bk, o + i * 7 + 1, none⟩) hbk2).trans p1; have hB1 : Hid (Below W.heap.size W w1) := Below.step hb.out hb1; clear hb1 HC))
              go_ret
              exact ⟨ret_int HF.out.symm, hB1.out⟩
            · have g0 : ((0 : Int) != 0) = false := rfl
              have g2 : (kk == 2) = true := by rw [e2]; rfl
              have g3 : (kk == 3) = false := by rw [e2]; rfl
              have gl : decide (locals ≤ xn) = false := by simpa using hl
              have HF : Hid ((l.drop (i + 1)).any (badI locals N) = l.any (badI locals N)) := by rw [Hid, hst, show bad = false by rw [hbad]; simp [*]]; simp
              clear hst hbad HE2
              go_wp2_with (first
                | (go_at_call 12; refine (HO.out _).mono ?_; rintro e w3 ⟨rfl, hw3⟩; rw [hw3]; clear hw3 HO)
                | (go_at_call 14; refine (HC.out _).mono ?_; rintro e w1 ⟨rfl, hb1⟩; have c1 : w1.cell? ⟨bk, o + i * 7 + 1, none⟩ = some (.int .i64 xn) := (hb1.cell (p := ⟨bk, o + i * 7 + 1, none⟩) hbk2).trans p1; have hB1 : Hid (Below W.heap.size W w1) := Below.step hb.out hb1; clear hb1 HC))
              go_roundw
              case rel => exact ⟨i + 1, by go_num, by omega, hB1, HF⟩
              case measure => simp [intOf]; omega
          · by_cases e3 : kk = 3
            · by_cases hl : (N : Int) ≤ xn
              · have g0 : ((0 : Int) != 0) = false := rfl
                have g2 : (kk == 2) = false := by rw [e3]; rfl
                have g3 : (kk == 3) = true := by rw [e3]; rfl
                have gl : decide ((N : Int) ≤ xn) = true := by simpa using hl
                have HF : Hid (allE l locals = 1) := by rw [Hid, HE2.out, hst, show bad = true by rw [hbad]; simp [*]]; rfl
                clear hst hbad HE2
                go_wp2_with (first
                  | (go_at_call 12; refine (HO.out _).mono ?_; rintro e w3 ⟨rfl, hw3⟩; rw [hw3]; clear hw3 HO)
                  | (go_at_call 14; refine (HC.out _).mono ?_; rintro e w1 ⟨rfl, hb1⟩; have c1 : w1.cell? ⟨bk, o + i * 7 + 1, none⟩ = some (.int .i64 xn) := (hb1.cell (p := ⟨bk, o + i * 7 + 1, none⟩) hbk2).trans p1; have hB1 : Hid (Below W.heap.size W w1) := Below.step hb.out hb1; clear hb1 HC))
                go_ret
                exact ⟨ret_int HF.out.symm, hB1.out⟩
              · have g0 : ((0 : Int) != 0) = false := rfl
                have g2 : (kk == 2) = false := by rw [e3]; rfl
                have g3 : (kk == 3) = true := by rw [e3]; rfl
                have gl : decide ((N : Int) ≤ xn) = false := by simpa using hl
                have HF : Hid ((l.drop (i + 1)).any (badI locals N) = l.any (badI locals N)) := by rw [Hid, hst, show bad = false by rw [hbad]; simp [*]]; simp
                clear hst hbad HE2
                go_wp2_with (first
                  | (go_at_call 12; refine (HO.out _).mono ?_; rintro e w3 ⟨rfl, hw3⟩; rw [hw3]; clear hw3 HO)
                  | (go_at_call 14; refine (HC.out _).mono ?_; rintro e w1 ⟨rfl, hb1⟩; have c1 : w1.cell? ⟨bk, o + i * 7 + 1, none⟩ = some (.int .i64 xn) := (hb1.cell (p := ⟨bk, o + i * 7 + 1, none⟩) hbk2).trans p1; have hB1 : Hid (Below W.heap.size W w1) := Below.step hb.out hb1; clear hb1 HC))
                go_roundw
                case rel => exact ⟨i + 1, by go_num, by omega, hB1, HF⟩
                case measure => simp [intOf]; omega
            · have g0 : ((0 : Int) != 0) = false := rfl
              have g2 : (kk == 2) = false := by simpa using e2
              have g3 : (kk == 3) = false := by simpa using e3
              have HF : Hid ((l.drop (i + 1)).any (badI locals N) = l.any (badI locals N)) := by rw [Hid, hst, show bad = false by rw [hbad]; simp [*]]; simp
              clear hst hbad HE2
              go_wp2_with (first
                | (go_at_call 12; refine (HO.out _).mono ?_; rintro e w3 ⟨rfl, hw3⟩; rw [hw3]; clear hw3 HO)
                | (go_at_call 14; refine (HC.out _).mono ?_; rintro e w1 ⟨rfl, hb1⟩; have c1 : w1.cell? ⟨bk, o + i * 7 + 1, none⟩ = some (.int .i64 xn) := (hb1.cell (p := ⟨bk, o + i * 7 + 1, none⟩) hbk2).trans p1; have hB1 : Hid (Below W.heap.size W w1) := Below.step hb.out hb1; clear hb1 HC))
              go_roundw
              case rel => exact ⟨i + 1, by go_num, by omega, hB1, HF⟩
              case measure => simp [intOf]; omega
        · have g0 : ((1 : Int) != 0) = true := rfl
          have HF : Hid (allE l locals = 1) := by rw [Hid, HE2.out, hst, show bad = true by rw [hbad]; simp [*]]; rfl
          clear hst hbad HE2
          go_wp2_with (first
            | (go_at_call 12; refine (HO.out _).mono ?_; rintro e w3 ⟨rfl, hw3⟩; rw [hw3]; clear hw3 HO)
            | (go_at_call 14; refine (HC.out _).mono ?_; rintro e w1 ⟨rfl, hb1⟩; have c1 : w1.cell? ⟨bk, o + i * 7 + 1, none⟩ = some (.int .i64 xn) := (hb1.cell (p := ⟨bk, o + i * 7 + 1, none⟩) hbk2).trans p1; have hB1 : Hid (Below W.heap.size W w1) := Below.step hb.out hb1; clear hb1 HC))
          go_ret
          exact ⟨ret_int HF.out.symm, hB1.out⟩
      · have HF : Hid (allE l locals = 0) := by
          rw [Hid, HE2.out, ← hs.out, List.drop_of_length_le (by rw [HN1.out]; omega)]; rfl
        clear HA HOK hs HE2
        go_wp2
        go_ret
        exact ⟨ret_int HF.out.symm, hb.out⟩

end Go.Proofs.YtijlipllahfakaaDoor
