/- The document's Extends (arbiterref06): the walk. -/
import Derived.Test.YtgppadlkollfaaaGreatRfL
import Derived.Test.YtgppadlkollfaaaGreatHrZ
namespace Go.Proofs.YtgppadlkollfaaaGreat
open Go.RowKit Go.Maps

set_option maxRecDepth 100000 in
set_option maxHeartbeats 4000000 in
theorem rGather_any {b : Nat} {cs : List Cls} {ps : List Plc} {W : World} (h : RAt b cs W) (ht : TwW cs ps) (hJ : WJ ps) : ∀ (id : Nat), id < ps.length → ∀ (w : World) (v : Value) (l : List Nat), Below W.heap.size W w → w.ownsRow W.heap.size 3 1 v l.length (l.map numV) → ClL ps l → Calls Tryz.prog 156 #[.pointer (some ⟨b, 0, none⟩), .int .i64 (id : Int), v] w fun e w' => (∃ v', e = .returned v' ∧ w'.ownsRow W.heap.size 3 1 v' (takeL l (clO (ps.map nd) id)).length ((takeL l (clO (ps.map nd) id)).map numV)) ∧ Below W.heap.size W w' := by
  intro id
  induction id using Nat.strongRecOn with
  | _ id ih =>
  intro hid w v l hw hrow hcl
  obtain ⟨i0, hi0, hz0, hz1, hz2⟩ := info_parts Tryz.hinfo3
  have hlen := ht.tw.len
  have h3 := ht.wi.hi
  obtain ⟨c, hc⟩ : ∃ c, cs[id]? = some c := ⟨_, List.getElem?_eq_getElem (by omega)⟩
  obtain ⟨ks, hk1, hk2, hk3⟩ := ht.ifaces hJ hc
  have hgt := gath_take (ps := ps) l id ks hk3
  have HR : Hid (RAt b cs W) := h
  have HTW : Hid (TwW cs ps) := ht
  have HW3 : Hid (ps.length ≤ 300) := h3
  have HCC : Hid (cs[id]? = some c) := hc
  have HKS : Hid (∀ (i : Nat) (p : List UInt8), c.ifs[i]? = some p → ∃ j, ks[i]? = some j ∧ nmdI p cs 0 = ((j : Nat) : Int) ∧ j < id) := hk2
  have HN : Hid (∀ (w' : World) (s : ByteArray), Below W.heap.size W w' → Calls Tryz.prog 138 #[.pointer (some ⟨b, 0, none⟩), .string s] w' fun e w'' => e = .returned (.int .i64 (nmdI s.toList cs 0)) ∧ w'' = w') := fun w' s hb => rNamed_c (h.below hb) s (by omega)
  have HIH : Hid (∀ (j : Nat), j < id → ∀ (w : World) (v : Value) (l : List Nat), Below W.heap.size W w → w.ownsRow W.heap.size 3 1 v l.length (l.map numV) → ClL ps l → Calls Tryz.prog 156 #[.pointer (some ⟨b, 0, none⟩), .int .i64 (j : Int), v] w fun e w' => (∃ v', e = .returned v' ∧ w'.ownsRow W.heap.size 3 1 v' (takeL l (clO (ps.map nd) j)).length ((takeL l (clO (ps.map nd) j)).map numV)) ∧ Below W.heap.size W w') := fun j hj => ih j hj (by omega)
  have HHA : Hid (∀ (v : Value) (l : List Nat) (p : Nat) (w : World), w.ownsRow W.heap.size 3 1 v l.length (l.map numV) → l.length ≤ 1000000 → Calls Tryz.prog 155 #[v, .int .i64 (p : Int)] w fun e w' => e = .returned (.bool (l.contains p)) ∧ Below w.heap.size w w') := fun v l p w hr hl => rHas_any v l p w (own_rds hr) hl
  obtain ⟨n, hn⟩ : ∃ n, c.ifs.length = n := ⟨_, rfl⟩
  have HNI : Hid (c.ifs.length = n) := hn
  have HKL : Hid (ks.length = n) := hk1.trans hn
  obtain ⟨L, hL⟩ : ∃ L, cs.length = L := ⟨_, rfl⟩
  have HL : Hid (cs.length = L) := hL
  have hidL : id < L := by omega
  have hidI : (id : Int) < (L : Int) := by omega
  have HCL : Hid (ClL ps l) := hcl
  have HRW : Hid (w.ownsRow W.heap.size 3 1 v l.length (l.map numV)) := hrow
  have HBW : Hid (Below W.heap.size W w) := hw
  have hnb : n ≤ 1000000 := by
    obtain ⟨q, hq, hqc⟩ := ht.tw.at hc
    have h1 := (ht.wi.pb q (List.mem_of_getElem? hq)).ni
    rw [hqc] at h1
    rw [← hn]; exact h1
  obtain ⟨va0, vn0, rfl⟩ := ownv hrow
  by_cases h0 : id = 0
  · have hks : ks = [] := by
      cases hcs : c.ifs with
      | nil => exact List.length_eq_zero_iff.1 (by rw [hk1, hcs]; rfl)
      | cons p r =>
        obtain ⟨j, _, _, hj⟩ := hk2 0 p (by rw [hcs]; rfl)
        omega
    have hz : clO (ps.map nd) id = [] := by
      obtain ⟨n0, h1, _, h2, _⟩ := ht.wi.wo.top
      rw [h0, clO, h1]; exact h2
    have HX1 : Hid (takeL l (clO (ps.map nd) id) = l) := by rw [Hid, hz]; rfl
    have hn0 : n = 0 := by rw [← HKL.out, hks]; rfl
    subst hn0
    subst h0
    obtain ⟨g, cap, vi, vm, b0, hlt0, hgl, c0, c1, c2, c3, c4, c5, hst, _⟩ := (h.below hw).cells hc
    rw [hL] at b0
    obtain ⟨ao, icap, rfl, _, _, _⟩ := hst
    rw [hn] at c2
    have hL0 : (0 : Int) < (L : Int) := by omega
    clear hlen h3 hc hk1 hk2 hk3 hgt h ht hJ ih hn hL hcl hrow hw hks hz HIH HHA HN HKS c0 c1 c3 c4 c5
    go_enter Tryz.func156, Tryz.ntmps156
    go_wp2
    go_loopw [2, 7] (fun lv iv wr => lv = .slice va0 l.length vn0 ∧ iv = .int .i64 0 ∧ wr = w) (fun _ _ _ => 0)
    case atStart => exact ⟨rfl, rfl, rfl⟩
    case round =>
      obtain ⟨rfl, rfl, rfl⟩ := hrel
      go_wp2
      refine bodyPost_ret (results_tmp rfl _ _ _) rfl ⟨⟨.slice va0 l.length vn0, rfl, ?_⟩, HBW.out⟩
      rw [HX1.out]; exact HRW.out
  · obtain ⟨l1, hl1⟩ : ∃ l1, l1 = takeL l (clO (ps.map nd) (spO (ps.map nd) id)) := ⟨_, rfl⟩
    have HX1 : Hid (ks.foldl (gathF (ps.map Plc.cl)) l1 = takeL l (clO (ps.map nd) id)) := by rw [Hid, hl1]; exact hgt.symm
    have hidp : id < (ps.map nd).length := by rw [List.length_map]; exact hid
    have hsl := ht.wi.wo.spLt hidp (by omega)
    have hsu := ht.super hc (by omega)
    have HCL1 : Hid (ClL ps l1) := by rw [Hid, hl1]; exact hcl.take ht.wi _ (by omega)
    have HS1 : Hid (∀ w', Below W.heap.size W w' → Calls Tryz.prog 138 #[.pointer (some ⟨b, 0, none⟩), .string c.su] w' fun e w'' => e = .returned (.int .i64 ((spO (ps.map nd) id : Nat) : Int)) ∧ w'' = w') := fun w' hb => by rw [← hsu]; exact HN.out w' c.su hb
    have HS2 : Hid (Calls Tryz.prog 156 #[.pointer (some ⟨b, 0, none⟩), .int .i64 ((spO (ps.map nd) id : Nat) : Int), .slice va0 l.length vn0] w fun e w' => (∃ v', e = .returned v' ∧ w'.ownsRow W.heap.size 3 1 v' l1.length (l1.map numV)) ∧ Below W.heap.size W w') := by rw [hl1]; exact HIH.out _ hsl w _ l hw hrow hcl
    obtain ⟨g0, cap0, vi0, vm0, b00, hlt00, hgl0, _, c10, _, _, _, _, _, _⟩ := (h.below hw).cells hc
    rw [hL] at b00
    generalize spO (ps.map nd) id = sp at *
    have h0I : ¬ (id : Int) = 0 := by omega
    clear hlen h3 hc hk1 hk2 hk3 hgt h ht hJ ih hn hL hcl hrow hw hl1 hsu
    go_enter Tryz.func156, Tryz.ntmps156
    go_wp2_with (first
      | (go_at_call 138; refine (HS1.out _ HBW.out).mono ?_; rintro e w9 ⟨rfl, hw9⟩; rw [hw9]; clear hw9 w9 HS1)
      | (go_at_call 156; refine HS2.out.mono ?_; rintro e w1 ⟨⟨v1, rfl, ho⟩, hb⟩; obtain ⟨va1, vn1, rfl⟩ := ownv ho; have O1 : Hid (w1.ownsRow W.heap.size 3 1 (.slice va1 l1.length vn1) l1.length (l1.map numV)) := ho; have B1 : Hid (Below W.heap.size W w1) := hb; clear hb ho HS2))
    go_loopw [2, 7] (fun lv iv wr => ∃ (i : Nat), iv = .int .i64 (i : Int) ∧ i ≤ n ∧ Hid (wr.ownsRow W.heap.size 3 1 lv ((ks.take i).foldl (gathF (ps.map Plc.cl)) l1).length (((ks.take i).foldl (gathF (ps.map Plc.cl)) l1).map numV)) ∧ Hid (ClL ps ((ks.take i).foldl (gathF (ps.map Plc.cl)) l1)) ∧ Hid (Below W.heap.size W wr)) (fun _ iv _ => n - (intOf iv).toNat)
    case atStart => exact ⟨0, rfl, Nat.zero_le _, O1, HCL1, B1⟩
    case round =>
      obtain ⟨i, rfl, hi, hO, hC, hB⟩ := hrel
      obtain ⟨g, cap, vi, vm, b0, hlt0, hgl, c0, c1, c2, c3, c4, c5, hst, _⟩ := (HR.out.below hB.out).cells HCC.out
      rw [HL.out] at b0
      obtain ⟨ao, icap, rfl, hq1, hq2, hq3⟩ := hst
      rw [HNI.out] at c2 hq1
      have HQ3 : Hid _ := hq3
      clear c0 c1 c3 c4 c5 hq3
      by_cases hlt : i < n
      · have hltI : (i : Int) < (n : Int) := by omega
        obtain ⟨p, hp⟩ : ∃ p, c.ifs[i]? = some p := ⟨_, List.getElem?_eq_getElem (by rw [HNI.out]; exact hlt)⟩
        obtain ⟨k, hk, hkn, hkl⟩ := HKS.out i p hp
        obtain ⟨bk, o, rfl, hbk, hcs⟩ := HQ3.out (fun e => by rw [e] at hp; simp at hp)
        have hce := hcs i p hp
        have hfold : (ks.take (i + 1)).foldl (gathF (ps.map Plc.cl)) l1 = gathF (ps.map Plc.cl) ((ks.take i).foldl (gathF (ps.map Plc.cl)) l1) k := by
          rw [List.take_add_one, hk, List.foldl_append]; rfl
        have HN1 : Hid (Calls Tryz.prog 138 #[.pointer (some ⟨b, 0, none⟩), .string ⟨p.toArray⟩] wr fun e w'' => e = .returned (.int .i64 (k : Int)) ∧ w'' = wr) := by
          have := HN.out wr ⟨p.toArray⟩ hB.out
          rw [show (ByteArray.mk p.toArray).toList = p from by rw [Lib.toList_data], hkn] at this
          exact this
        obtain ⟨Lc, hLc⟩ : ∃ Lc, (ks.take i).foldl (gathF (ps.map Plc.cl)) l1 = Lc := ⟨_, rfl⟩
        rw [hLc] at hO hC hfold
        have HFO : Hid _ := hfold
        have hLb : Lc.length ≤ 300 := Nat.le_trans hC.out.len HW3.out
        have HA1 : Hid (∀ (v : Value), wr.ownsRow W.heap.size 3 1 v Lc.length (Lc.map numV) → Calls Tryz.prog 155 #[v, .int .i64 (k : Int)] wr fun e w' => e = .returned (.bool (Lc.contains k)) ∧ Below wr.heap.size wr w') := fun v hr => HHA.out v Lc k wr hr (by omega)
        have HG1 : Hid (∀ (w : World) (v : Value), Below W.heap.size W w → w.ownsRow W.heap.size 3 1 v Lc.length (Lc.map numV) → Calls Tryz.prog 156 #[.pointer (some ⟨b, 0, none⟩), .int .i64 (k : Int), v] w fun e w' => (∃ v', e = .returned v' ∧ w'.ownsRow W.heap.size 3 1 v' (takeL Lc (clO (ps.map nd) k)).length ((takeL Lc (clO (ps.map nd) k)).map numV)) ∧ Below W.heap.size W w') := fun w v hb hr => HIH.out k hkl w v Lc hb hr hC.out
        have HCN : Hid (ClL ps (gathF (ps.map Plc.cl) Lc k)) := hC.out.gathF HTW.out.wi k (by omega)
        have HG2 : Hid (Lc.contains k = true → gathF (ps.map Plc.cl) Lc k = Lc) := fun he => gathF_yes hC.out (by simpa using he)
        have HG3 : Hid (Lc.contains k = false → gathF (ps.map Plc.cl) Lc k = takeL Lc (clO (ps.map nd) k) ++ [k] ∧ (takeL Lc (clO (ps.map nd) k)).length ≤ 300) := fun he => ⟨gathF_no HTW.out.wi (by simpa using he), Nat.le_trans (hC.out.take HTW.out.wi k (by omega)).len HW3.out⟩
        obtain ⟨va, vn, rfl⟩ := ownv hO.out
        clear hcs hp hk hkn hfold hLc HX1 HN HIH HHA HQ3
        cases hz : Lc.contains k with
        | true =>
          rw [hz] at HA1
          have he := HG2.out hz
          rw [he] at HFO HCN
          clear HG1 HG2 HG3 hz he
          go_wp2_with (first
            | (go_at_call 138; refine HN1.out.mono ?_; rintro e w9 ⟨rfl, hw9⟩; rw [hw9]; clear hw9 w9 HN1)
            | (go_at_call 155; refine (HA1.out _ hO.out).mono ?_; rintro e w2 ⟨rfl, hb⟩; have O2 : Hid (w2.ownsRow W.heap.size 3 1 (.slice va Lc.length vn) Lc.length (Lc.map numV)) := rowBelow hO.out hb; have B2 : Hid (Below W.heap.size W w2) := bstep hB.out hb; clear hb HA1))
          go_roundw
          case rel => exact ⟨i + 1, by go_num, by omega, by rw [HFO.out]; exact O2, by rw [HFO.out]; exact HCN, B2⟩
          case measure => simp [intOf]; omega
        | false =>
          rw [hz] at HA1
          obtain ⟨he, hlb⟩ := HG3.out hz
          rw [he] at HFO HCN
          generalize takeL Lc (clO (ps.map nd) k) = T at *
          clear HG2 HG3 hz he
          go_wp2_with (first
            | (go_at_call 138; refine HN1.out.mono ?_; rintro e w9 ⟨rfl, hw9⟩; rw [hw9]; clear hw9 w9 HN1)
            | (go_at_call 155; refine (HA1.out _ hO.out).mono ?_; rintro e w2 ⟨rfl, hb⟩; have O2 : Hid (w2.ownsRow W.heap.size 3 1 (.slice va Lc.length vn) Lc.length (Lc.map numV)) := rowBelow hO.out hb; have B2 : Hid (Below W.heap.size W w2) := bstep hB.out hb; clear hb HA1)
            | (go_at_call 156; refine (HG1.out _ _ B2.out O2.out).mono ?_; rintro e w3 ⟨⟨v3, rfl, ho⟩, hb⟩; obtain ⟨va3, vn3, rfl⟩ := ownv ho; have O3 : Hid (w3.ownsRow W.heap.size 3 1 (.slice va3 T.length vn3) T.length (T.map numV)) := ho; have B3 : Hid (Below W.heap.size W w3) := hb; clear hb ho HG1)
            | (at_builtin; refine wpList_append_own _ rfl _ _ 82 rfl W.heap.size 3 i0 (.int .i64 0) 1 8 Tryz.underlying82 hi0 hz0 hz1 hz2 rfl (by decide) (.slice va3 T.length vn3) T.length (T.map numV) rfl (O3.out.alloc _) ⟨w3.heap.size, 0, none⟩ 1 1 [.int .i64 (k : Int)] rfl rfl ?c1 ?c2 ?c3 ?c4 ?c5 ?_))
          case c1 => intro jj u hj; rw [addr_add]; cases jj with
            | zero => simp at hj; subst hj; simp [go_sem]
            | succ jj => simp at hj
          case c2 => intro u hu; simp at hu; subst hu; rfl
          case c3 => unfold maxLen; omega
          case c4 => omega
          case c5 => have := B3.out.size; simp; omega
          intro v' w4 hown hgrow _
          obtain ⟨va4, vn4, rfl⟩ := ownv hown
          have B4 : Hid (Below W.heap.size W w4) := by
            have hb1 : Below W.heap.size W (w3.alloc (.cells #[.int .i64 (k : Int)] 3)) := B3.out.alloc B3.out.size _
            refine hb1.grown hgrow hb1.size (fun x hx => ?_)
            have := (O3.out.lt x hx).1
            omega
          have O4 : Hid (w4.ownsRow W.heap.size 3 1 (.slice va4 (T.length + 1) vn4) (T ++ [k]).length ((T ++ [k]).map numV)) := by
            rw [Hid, List.length_append, List.map_append]; exact hown
          clear hown hgrow
          go_wp2
          go_roundw
          case rel => exact ⟨i + 1, by go_num, by omega, by rw [HFO.out]; exact O4, by rw [HFO.out]; exact HCN, B4⟩
          case measure => simp [intOf]; omega
      · have e : i = n := by omega
        have HT : Hid ((ks.take i).foldl (gathF (ps.map Plc.cl)) l1 = takeL l (clO (ps.map nd) id)) := by
          rw [Hid, e, ← HKL.out, List.take_of_length_le (Nat.le_refl _)]
          exact HX1.out
        rw [HT.out] at hO
        subst e
        obtain ⟨va, vn, rfl⟩ := ownv hO.out
        clear HT HX1
        go_wp2
        refine bodyPost_ret (results_tmp rfl _ _ _) rfl ⟨⟨_, rfl, ?_⟩, hB.out⟩
        exact hO.out


theorem rIn_t {b : Nat} {cs : List Cls} {ps : List Plc} {W : World} (h : RAt b cs W) (ht : TwW cs ps) (i : Int) : Calls Tryz.prog 80 #[.pointer (some ⟨b, 0, none⟩), .int .i64 i] W fun e w' => e = .returned (.bool (plcI ps i).isSome) ∧ w' = W := by
  have := rIn_c h i
  rcases ht.tw.clsI i with ⟨h1, h2⟩ | ⟨k, c, q, rfl, _, _, _, h1, h2⟩
  · rw [h1] at this; rw [h2]; exact this
  · rw [h1] at this; rw [h2]; exact this
set_option maxRecDepth 100000 in
set_option maxHeartbeats 1000000 in
theorem rExtends_c {b : Nat} {cs : List Cls} {ps : List Plc} {W : World} (h : RAt b cs W) (ht : TwW cs ps) (hJ : WJ ps) (x y : Int) : Calls Tryz.prog 84 #[.pointer (some ⟨b, 0, none⟩), .int .i64 x, .int .i64 y] W fun e w' => e = .returned (.bool (extI ps x y)) ∧ Below W.heap.size W w' := by
  have HI : Hid (∀ i z w, Below W.heap.size W w → (plcI ps i).isSome = z → Calls Tryz.prog 80 #[.pointer (some ⟨b, 0, none⟩), .int .i64 i] w fun e w' => e = .returned (.bool z) ∧ w' = w) := fun i z w hb hz => by rw [← hz]; exact rIn_t (h.below hb) ht i
  rcases plcI_cases ps x with ⟨h1, _⟩ | ⟨k, p, rfl, h2, h1⟩
  · have e : extI ps x y = false := by rw [extI, h1]; rfl
    rw [e]
    have HX : Hid (∀ i w, Below W.heap.size W w → i = x → Calls Tryz.prog 80 #[.pointer (some ⟨b, 0, none⟩), .int .i64 i] w fun e w' => e = .returned (.bool false) ∧ w' = w) := fun i w hb hi => by rw [hi]; exact HI.out x false w hb (by rw [h1]; rfl)
    clear h ht hJ HI h1 e
    go_enter Tryz.func84, Tryz.ntmps84
    go_wp2_with (go_at_call 80; refine (HX.out _ _ (Below.refl _ _) (by rfl)).mono ?_; rintro e w9 ⟨rfl, hw9⟩; rw [hw9]; clear hw9 w9)
    exact bodyPost_ret (results_tmp rfl _ _ _) rfl ⟨rfl, Below.refl _ _⟩
  · have HX : Hid (∀ i w, Below W.heap.size W w → i = (k : Int) → Calls Tryz.prog 80 #[.pointer (some ⟨b, 0, none⟩), .int .i64 i] w fun e w' => e = .returned (.bool true) ∧ w' = w) := fun i w hb hi => by rw [hi]; exact HI.out k true w hb (by rw [h1]; rfl)
    rcases plcI_cases ps y with ⟨g1, _⟩ | ⟨j, q, rfl, g2, g1⟩
    · have e : extI ps k y = false := by rw [extI, h1, g1]; rfl
      rw [e]
      have HY : Hid (∀ i w, Below W.heap.size W w → i = y → Calls Tryz.prog 80 #[.pointer (some ⟨b, 0, none⟩), .int .i64 i] w fun e w' => e = .returned (.bool false) ∧ w' = w) := fun i w hb hi => by rw [hi]; exact HI.out y false w hb (by rw [g1]; rfl)
      clear h ht hJ HI h1 g1 e
      go_enter Tryz.func84, Tryz.ntmps84
      go_wp2_with (first
        | (go_at_call 80; refine (HX.out _ _ (Below.refl _ _) (by rfl)).mono ?_; rintro e w9 ⟨rfl, hw9⟩; rw [hw9]; clear hw9 w9)
        | (go_at_call 80; refine (HY.out _ _ (Below.refl _ _) (by rfl)).mono ?_; rintro e w9 ⟨rfl, hw9⟩; rw [hw9]; clear hw9 w9))
      exact bodyPost_ret (results_tmp rfl _ _ _) rfl ⟨rfl, Below.refl _ _⟩
    · have hkl := (List.getElem?_eq_some_iff.1 h2).1
      have e : extI ps k j = ((chL (ps.map nd) k).contains j || (clO (ps.map nd) k).contains j) := by rw [extI, h1, g1]; rfl
      rw [e]
      have HY : Hid (∀ i w, Below W.heap.size W w → i = (j : Int) → Calls Tryz.prog 80 #[.pointer (some ⟨b, 0, none⟩), .int .i64 i] w fun e w' => e = .returned (.bool true) ∧ w' = w) := fun i w hb hi => by rw [hi]; exact HI.out j true w hb (by rw [g1]; rfl)
      have HC : Hid (Calls Tryz.prog 121 #[.pointer (some ⟨b, 0, none⟩), .int .i64 (k : Int)] W fun e w' => (∃ v, e = .returned (.tuple #[v, .int .i64 0]) ∧ w'.ownsRow W.heap.size 3 1 v (chL (ps.map nd) k).length ((chL (ps.map nd) k).map numV)) ∧ Below W.heap.size W w') := rChain_yes h ht k hkl
      have hcb : (chL (ps.map nd) k).length ≤ 1000000 := by
        have hkn : k < (ps.map nd).length := by rw [List.length_map]; exact hkl
        have := nodup_lt_len (k + 1) _ (ch_nodup ht.wi.wo k hkn) (fun i hi => Nat.lt_succ_of_le (ch_le ht.wi.wo k hkn i hi))
        have := ht.wi.hi
        omega
      have hclb : (clO (ps.map nd) k).length ≤ 1000000 := by
        have := nodup_lt_len k _ (cl_nodup ht.wi.wo k) (fun i hi => (cl_facts ht.wi.wo hi).1)
        have := ht.wi.hi
        omega
      have HG : Hid (∀ w, Below W.heap.size W w → Calls Tryz.prog 156 #[.pointer (some ⟨b, 0, none⟩), .int .i64 (k : Int), .slice none 0 0] w fun e w' => (∃ v', e = .returned v' ∧ w'.ownsRow W.heap.size 3 1 v' (clO (ps.map nd) k).length ((clO (ps.map nd) k).map numV)) ∧ Below W.heap.size W w') := fun w hb => by
        have := rGather_any h ht hJ k hkl w (.slice none 0 0) [] hb (World.ownsRow_nil _ _ _ _) (ClL.nil ps)
        rw [take_nil _ (cl_nodup ht.wi.wo k)] at this
        exact this
      have HH1 : Hid (∀ (v : Value) (w : World), w.ownsRow W.heap.size 3 1 v (chL (ps.map nd) k).length ((chL (ps.map nd) k).map numV) → Calls Tryz.prog 155 #[v, .int .i64 (j : Int)] w fun e w' => e = .returned (.bool ((chL (ps.map nd) k).contains j)) ∧ Below w.heap.size w w') := fun v w hr => rHas_any v _ j w (own_rds hr) hcb
      have HH2 : Hid (∀ (v : Value) (w : World), w.ownsRow W.heap.size 3 1 v (clO (ps.map nd) k).length ((clO (ps.map nd) k).map numV) → Calls Tryz.prog 155 #[v, .int .i64 (j : Int)] w fun e w' => e = .returned (.bool ((clO (ps.map nd) k).contains j)) ∧ Below w.heap.size w w') := fun v w hr => rHas_any v _ j w (own_rds hr) hclb
      generalize (chL (ps.map nd) k).contains j = z1 at *
      generalize (clO (ps.map nd) k).contains j = z2 at *
      generalize chL (ps.map nd) k = C at *
      generalize clO (ps.map nd) k = G at *
      clear h ht hJ HI h1 h2 g1 g2 e hcb hclb hkl
      cases z1
      all_goals
        go_enter Tryz.func84, Tryz.ntmps84
        go_wp2_with (first
          | (go_at_call 80; refine (HX.out _ _ (Below.refl _ _) (by rfl)).mono ?_; rintro e w9 ⟨rfl, hw9⟩; rw [hw9]; clear hw9 w9)
          | (go_at_call 80; refine (HY.out _ _ (Below.refl _ _) (by rfl)).mono ?_; rintro e w9 ⟨rfl, hw9⟩; rw [hw9]; clear hw9 w9)
          | (go_at_call 121; refine HC.out.mono ?_; rintro e w1 ⟨⟨v1, rfl, ho⟩, hb⟩; obtain ⟨va1, vn1, rfl⟩ := ownv ho; have O1 : Hid (w1.ownsRow W.heap.size 3 1 (.slice va1 C.length vn1) C.length (C.map numV)) := ho; have B1 : Hid (Below W.heap.size W w1) := hb; clear hb ho HC)
          | (go_at_call 155; refine (HH1.out _ _ O1.out).mono ?_; rintro e w2 ⟨rfl, hb⟩; have B2 : Hid (Below W.heap.size W w2) := bstep B1.out hb; clear hb HH1 O1)
          | (go_at_call 156; refine (HG.out _ B2.out).mono ?_; rintro e w3 ⟨⟨v3, rfl, ho⟩, hb⟩; obtain ⟨va3, vn3, rfl⟩ := ownv ho; have O3 : Hid (w3.ownsRow W.heap.size 3 1 (.slice va3 G.length vn3) G.length (G.map numV)) := ho; have B3 : Hid (Below W.heap.size W w3) := hb; clear hb ho HG)
          | (go_at_call 155; refine (HH2.out _ _ O3.out).mono ?_; rintro e w4 ⟨rfl, hb⟩; have B4 : Hid (Below W.heap.size W w4) := bstep B3.out hb; clear hb HH2 O3))
        first
          | exact bodyPost_ret (results_tmp rfl _ _ _) rfl ⟨rfl, B4.out⟩
          | exact bodyPost_ret (results_tmp rfl _ _ _) rfl ⟨rfl, B2.out⟩
end Go.Proofs.YtgppadlkollfaaaGreat
