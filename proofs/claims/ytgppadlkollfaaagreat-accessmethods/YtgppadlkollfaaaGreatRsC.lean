/- Package resolve: Lookup, LookupIface, lookupBy. -/
import Derived.Test.YtgppadlkollfaaaGreatRfL
import Derived.Test.YtgppadlkollfaaaGreatHrZ
import Derived.Test.YtgppadlkollfaaaGreatWdB
import Derived.Test.YtgppadlkollfaaaGreatOwnC
import Derived.Test.YtgppadlkollfaaaGreatRfX
import Derived.Test.YtgppadlkollfaaaGreatHrX
import Derived.BigQuiet
import Derived.Lib.SliceRun
import Derived.Shelf.RegionOpen
namespace Go.Proofs.YtgppadlkollfaaaGreat
open Go.RowKit Go.Maps

set_option maxRecDepth 100000 in
set_option maxHeartbeats 4000000 in
theorem rGather_any {b : Nat} {cs : List Cls} {ps : List Plc} {W : World} (h : RAt b cs W) (ht : TwW cs ps) (hJ : WJ ps) : ∀ (id : Nat), id < ps.length → ∀ (w : World) (v : Value) (l : List Nat), Below W.heap.size W w → w.ownsRow W.heap.size 3 1 v l.length (l.map numV) → ClL ps l → Calls Tryz.prog 156 #[.pointer (some ⟨b, 0, none⟩), .int .i64 (id : Int), v] w fun e w' => (∃ v', e = .returned v' ∧ w'.ownsRow W.heap.size 3 1 v' (takeL l (clO (ps.map nd) id)).length ((takeL l (clO (ps.map nd) id)).map numV)) ∧ Below W.heap.size W w' := by
  intro id
  induction id using Nat.strongRecOn with
  | _ id ih =>
  intro hid w v l hw hrow hcl
  obtain ⟨i0, hi0, hz0, hz1, hz2⟩ := info_parts Tryz.hinfo3
  have hlen := ht.tw.len
  have h3 := ht.wi.hi
  obtain ⟨c, hc⟩ : ∃ c, cs[id]? = some c := ⟨_, List.getElem?_eq_getElem (by omega)⟩
  obtain ⟨ks, hk1, hk2, hk3⟩ := ht.ifaces hJ hc
  have hgt := gath_take (ps := ps) l id ks hk3
  have HR : Hid (RAt b cs W) := h
  have HTW : Hid (TwW cs ps) := ht
  have HW3 : Hid (ps.length ≤ 300) := h3
  have HCC : Hid (cs[id]? = some c) := hc
  have HKS : Hid (∀ (i : Nat) (p : List UInt8), c.ifs[i]? = some p → ∃ j, ks[i]? = some j ∧ nmdI p cs 0 = ((j : Nat) : Int) ∧ j < id) := hk2
  have HN : Hid (∀ (w' : World) (s : ByteArray), Below W.heap.size W w' → Calls Tryz.prog 138 #[.pointer (some ⟨b, 0, none⟩), .string s] w' fun e w'' => e = .returned (.int .i64 (nmdI s.toList cs 0)) ∧ w'' = w') := fun w' s hb => rNamed_c (h.below hb) s (by omega)
  have HIH : Hid (∀ (j : Nat), j < id → ∀ (w : World) (v : Value) (l : List Nat), Below W.heap.size W w → w.ownsRow W.heap.size 3 1 v l.length (l.map numV) → ClL ps l → Calls Tryz.prog 156 #[.pointer (some ⟨b, 0, none⟩), .int .i64 (j : Int), v] w fun e w' => (∃ v', e = .returned v' ∧ w'.ownsRow W.heap.size 3 1 v' (takeL l (clO (ps.map nd) j)).length ((takeL l (clO (ps.map nd) j)).map numV)) ∧ Below W.heap.size W w') := fun j hj => ih j hj (by omega)
  have HHA : Hid (∀ (v : Value) (l : List Nat) (p : Nat) (w : World), w.ownsRow W.heap.size 3 1 v l.length (l.map numV) → l.length ≤ 1000000 → Calls Tryz.prog 155 #[v, .int .i64 (p : Int)] w fun e w' => e = .returned (.bool (l.contains p)) ∧ Below w.heap.size w w') := fun v l p w hr hl => rHas_any v l p w (own_rds hr) hl
  obtain ⟨n, hn⟩ : ∃ n, c.ifs.length = n := ⟨_, rfl⟩
  have HNI : Hid (c.ifs.length = n) := hn
  have HKL : Hid (ks.length = n) := hk1.trans hn
  obtain ⟨L, hL⟩ : ∃ L, cs.length = L := ⟨_, rfl⟩
  have HL : Hid (cs.length = L) := hL
  have hidL : id < L := by omega
  have hidI : (id : Int) < (L : Int) := by omega
  have HCL : Hid (ClL ps l) := hcl
  have HRW : Hid (w.ownsRow W.heap.size 3 1 v l.length (l.map numV)) := hrow
  have HBW : Hid (Below W.heap.size W w) := hw
  have hnb : n ≤ 1000000 := by
    obtain ⟨q, hq, hqc⟩ := ht.tw.at hc
    have h1 := (ht.wi.pb q (List.mem_of_getElem? hq)).ni
    rw [hqc] at h1
    rw [← hn]; exact h1
  obtain ⟨va0, vn0, rfl⟩ := ownv hrow
  by_cases h0 : id = 0
  · have hks : ks = [] := by
      cases hcs : c.ifs with
      | nil => exact List.length_eq_zero_iff.1 (by rw [hk1, hcs]; rfl)
      | cons p r =>
        obtain ⟨j, _, _, hj⟩ := hk2 0 p (by rw [hcs]; rfl)
        omega
    have hz : clO (ps.map nd) id = [] := by
      obtain ⟨n0, h1, _, h2, _⟩ := ht.wi.wo.top
      rw [h0, clO, h1]; exact h2
    have HX1 : Hid (takeL l (clO (ps.map nd) id) = l) := by rw [Hid, hz]; rfl
    have hn0 : n = 0 := by rw [← HKL.out, hks]; rfl
    subst hn0
    subst h0
    obtain ⟨g, cap, vi, vm, b0, hlt0, hgl, c0, c1, c2, c3, c4, c5, hst, _⟩ := (h.below hw).cells hc
    rw [hL] at b0
    obtain ⟨ao, icap, rfl, _, _, _⟩ := hst
    rw [hn] at c2
    have hL0 : (0 : Int) < (L : Int) := by omega
    clear hlen h3 hc hk1 hk2 hk3 hgt h ht hJ ih hn hL hcl hrow hw hks hz HIH HHA HN HKS c0 c1 c3 c4 c5
    go_enter Tryz.func156, Tryz.ntmps156
    go_wp2
    go_loopw [2, 7] (fun lv iv wr => lv = .slice va0 l.length vn0 ∧ iv = .int .i64 0 ∧ wr = w) (fun _ _ _ => 0)
    case atStart => exact ⟨rfl, rfl, rfl⟩
    case round =>
      obtain ⟨rfl, rfl, rfl⟩ := hrel
      go_wp2
      refine bodyPost_ret (results_tmp rfl _ _ _) rfl ⟨⟨.slice va0 l.length vn0, rfl, ?_⟩, HBW.out⟩
      rw [HX1.out]; exact HRW.out
  · obtain ⟨l1, hl1⟩ : ∃ l1, l1 = takeL l (clO (ps.map nd) (spO (ps.map nd) id)) := ⟨_, rfl⟩
    have HX1 : Hid (ks.foldl (gathF (ps.map Plc.cl)) l1 = takeL l (clO (ps.map nd) id)) := by rw [Hid, hl1]; exact hgt.symm
    have hidp : id < (ps.map nd).length := by rw [List.length_map]; exact hid
    have hsl := ht.wi.wo.spLt hidp (by omega)
    have hsu := ht.super hc (by omega)
    have HCL1 : Hid (ClL ps l1) := by rw [Hid, hl1]; exact hcl.take ht.wi _ (by omega)
    have HS1 : Hid (∀ w', Below W.heap.size W w' → Calls Tryz.prog 138 #[.pointer (some ⟨b, 0, none⟩), .string c.su] w' fun e w'' => e = .returned (.int .i64 ((spO (ps.map nd) id : Nat) : Int)) ∧ w'' = w') := fun w' hb => by rw [← hsu]; exact HN.out w' c.su hb
    have HS2 : Hid (Calls Tryz.prog 156 #[.pointer (some ⟨b, 0, none⟩), .int .i64 ((spO (ps.map nd) id : Nat) : Int), .slice va0 l.length vn0] w fun e w' => (∃ v', e = .returned v' ∧ w'.ownsRow W.heap.size 3 1 v' l1.length (l1.map numV)) ∧ Below W.heap.size W w') := by rw [hl1]; exact HIH.out _ hsl w _ l hw hrow hcl
    obtain ⟨g0, cap0, vi0, vm0, b00, hlt00, hgl0, _, c10, _, _, _, _, _, _⟩ := (h.below hw).cells hc
    rw [hL] at b00
    generalize spO (ps.map nd) id = sp at *
    have h0I : ¬ (id : Int) = 0 := by omega
    clear hlen h3 hc hk1 hk2 hk3 hgt h ht hJ ih hn hL hcl hrow hw hl1 hsu
    go_enter Tryz.func156, Tryz.ntmps156
    go_wp2_with (first
      | (go_at_call 138; refine (HS1.out _ HBW.out).mono ?_; rintro e w9 ⟨rfl, hw9⟩; rw [hw9]; clear hw9 w9 HS1)
      | (go_at_call 156; refine HS2.out.mono ?_; rintro e w1 ⟨⟨v1, rfl, ho⟩, hb⟩; obtain ⟨va1, vn1, rfl⟩ := ownv ho; have O1 : Hid (w1.ownsRow W.heap.size 3 1 (.slice va1 l1.length vn1) l1.length (l1.map numV)) := ho; have B1 : Hid (Below W.heap.size W w1) := hb; clear hb ho HS2))
    go_loopw [2, 7] (fun lv iv wr => ∃ (i : Nat), iv = .int .i64 (i : Int) ∧ i ≤ n ∧ Hid (wr.ownsRow W.heap.size 3 1 lv ((ks.take i).foldl (gathF (ps.map Plc.cl)) l1).length (((ks.take i).foldl (gathF (ps.map Plc.cl)) l1).map numV)) ∧ Hid (ClL ps ((ks.take i).foldl (gathF (ps.map Plc.cl)) l1)) ∧ Hid (Below W.heap.size W wr)) (fun _ iv _ => n - (intOf iv).toNat)
    case atStart => exact ⟨0, rfl, Nat.zero_le _, O1, HCL1, B1⟩
    case round =>
      obtain ⟨i, rfl, hi, hO, hC, hB⟩ := hrel
      obtain ⟨g, cap, vi, vm, b0, hlt0, hgl, c0, c1, c2, c3, c4, c5, hst, _⟩ := (HR.out.below hB.out).cells HCC.out
      rw [HL.out] at b0
      obtain ⟨ao, icap, rfl, hq1, hq2, hq3⟩ := hst
      rw [HNI.out] at c2 hq1
      have HQ3 : Hid _ := hq3
      clear c0 c1 c3 c4 c5 hq3
      by_cases hlt : i < n
      · have hltI : (i : Int) < (n : Int) := by omega
        obtain ⟨p, hp⟩ : ∃ p, c.ifs[i]? = some p := ⟨_, List.getElem?_eq_getElem (by rw [HNI.out]; exact hlt)⟩
        obtain ⟨k, hk, hkn, hkl⟩ := HKS.out i p hp
        obtain ⟨bk, o, rfl, hbk, hcs⟩ := HQ3.out (fun e => by rw [e] at hp; simp at hp)
        have hce := hcs i p hp
        have hfold : (ks.take (i + 1)).foldl (gathF (ps.map Plc.cl)) l1 = gathF (ps.map Plc.cl) ((ks.take i).foldl (gathF (ps.map Plc.cl)) l1) k := by
          rw [List.take_add_one, hk, List.foldl_append]; rfl
        have HN1 : Hid (Calls Tryz.prog 138 #[.pointer (some ⟨b, 0, none⟩), .string ⟨p.toArray⟩] wr fun e w'' => e = .returned (.int .i64 (k : Int)) ∧ w'' = wr) := by
          have := HN.out wr ⟨p.toArray⟩ hB.out
          rw [show (ByteArray.mk p.toArray).toList = p from by rw [Lib.toList_data], hkn] at this
          exact this
        obtain ⟨Lc, hLc⟩ : ∃ Lc, (ks.take i).foldl (gathF (ps.map Plc.cl)) l1 = Lc := ⟨_, rfl⟩
        rw [hLc] at hO hC hfold
        have HFO : Hid _ := hfold
        have hLb : Lc.length ≤ 300 := Nat.le_trans hC.out.len HW3.out
        have HA1 : Hid (∀ (v : Value), wr.ownsRow W.heap.size 3 1 v Lc.length (Lc.map numV) → Calls Tryz.prog 155 #[v, .int .i64 (k : Int)] wr fun e w' => e = .returned (.bool (Lc.contains k)) ∧ Below wr.heap.size wr w') := fun v hr => HHA.out v Lc k wr hr (by omega)
        have HG1 : Hid (∀ (w : World) (v : Value), Below W.heap.size W w → w.ownsRow W.heap.size 3 1 v Lc.length (Lc.map numV) → Calls Tryz.prog 156 #[.pointer (some ⟨b, 0, none⟩), .int .i64 (k : Int), v] w fun e w' => (∃ v', e = .returned v' ∧ w'.ownsRow W.heap.size 3 1 v' (takeL Lc (clO (ps.map nd) k)).length ((takeL Lc (clO (ps.map nd) k)).map numV)) ∧ Below W.heap.size W w') := fun w v hb hr => HIH.out k hkl w v Lc hb hr hC.out
        have HCN : Hid (ClL ps (gathF (ps.map Plc.cl) Lc k)) := hC.out.gathF HTW.out.wi k (by omega)
        have HG2 : Hid (Lc.contains k = true → gathF (ps.map Plc.cl) Lc k = Lc) := fun he => gathF_yes hC.out (by simpa using he)
        have HG3 : Hid (Lc.contains k = false → gathF (ps.map Plc.cl) Lc k = takeL Lc (clO (ps.map nd) k) ++ [k] ∧ (takeL Lc (clO (ps.map nd) k)).length ≤ 300) := fun he => ⟨gathF_no HTW.out.wi (by simpa using he), Nat.le_trans (hC.out.take HTW.out.wi k (by omega)).len HW3.out⟩
        obtain ⟨va, vn, rfl⟩ := ownv hO.out
        clear hcs hp hk hkn hfold hLc HX1 HN HIH HHA HQ3
        cases hz : Lc.contains k with
        | true =>
          rw [hz] at HA1
          have he := HG2.out hz
          rw [he] at HFO HCN
          clear HG1 HG2 HG3 hz he
          go_wp2_with (first
            | (go_at_call 138; refine HN1.out.mono ?_; rintro e w9 ⟨rfl, hw9⟩; rw [hw9]; clear hw9 w9 HN1)
            | (go_at_call 155; refine (HA1.out _ hO.out).mono ?_; rintro e w2 ⟨rfl, hb⟩; have O2 : Hid (w2.ownsRow W.heap.size 3 1 (.slice va Lc.length vn) Lc.length (Lc.map numV)) := rowBelow hO.out hb; have B2 : Hid (Below W.heap.size W w2) := bstep hB.out hb; clear hb HA1))
          go_roundw
          case rel => exact ⟨i + 1, by go_num, by omega, by rw [HFO.out]; exact O2, by rw [HFO.out]; exact HCN, B2⟩
          case measure => simp [intOf]; omega
        | false =>
          rw [hz] at HA1
          obtain ⟨he, hlb⟩ := HG3.out hz
          rw [he] at HFO HCN
          generalize takeL Lc (clO (ps.map nd) k) = T at *
          clear HG2 HG3 hz he
          go_wp2_with (first
            | (go_at_call 138; refine HN1.out.mono ?_; rintro e w9 ⟨rfl, hw9⟩; rw [hw9]; clear hw9 w9 HN1)
            | (go_at_call 155; refine (HA1.out _ hO.out).mono ?_; rintro e w2 ⟨rfl, hb⟩; have O2 : Hid (w2.ownsRow W.heap.size 3 1 (.slice va Lc.length vn) Lc.length (Lc.map numV)) := rowBelow hO.out hb; have B2 : Hid (Below W.heap.size W w2) := bstep hB.out hb; clear hb HA1)
            | (go_at_call 156; refine (HG1.out _ _ B2.out O2.out).mono ?_; rintro e w3 ⟨⟨v3, rfl, ho⟩, hb⟩; obtain ⟨va3, vn3, rfl⟩ := ownv ho; have O3 : Hid (w3.ownsRow W.heap.size 3 1 (.slice va3 T.length vn3) T.length (T.map numV)) := ho; have B3 : Hid (Below W.heap.size W w3) := hb; clear hb ho HG1)
            | (at_builtin; refine wpList_append_own _ rfl _ _ 82 rfl W.heap.size 3 i0 (.int .i64 0) 1 8 Tryz.underlying82 hi0 hz0 hz1 hz2 rfl (by decide) (.slice va3 T.length vn3) T.length (T.map numV) rfl (O3.out.alloc _) ⟨w3.heap.size, 0, none⟩ 1 1 [.int .i64 (k : Int)] rfl rfl ?c1 ?c2 ?c3 ?c4 ?c5 ?_))
          case c1 => intro jj u hj; rw [addr_add]; cases jj with
            | zero => simp at hj; subst hj; simp [go_sem]
            | succ jj => simp at hj
          case c2 => intro u hu; simp at hu; subst hu; rfl
          case c3 => unfold maxLen; omega
          case c4 => omega
          case c5 => have := B3.out.size; simp; omega
          intro v' w4 hown hgrow _
          obtain ⟨va4, vn4, rfl⟩ := ownv hown
          have B4 : Hid (Below W.heap.size W w4) := by
            have hb1 : Below W.heap.size W (w3.alloc (.cells #[.int .i64 (k : Int)] 3)) := B3.out.alloc B3.out.size _
            refine hb1.grown hgrow hb1.size (fun x hx => ?_)
            have := (O3.out.lt x hx).1
            omega
          have O4 : Hid (w4.ownsRow W.heap.size 3 1 (.slice va4 (T.length + 1) vn4) (T ++ [k]).length ((T ++ [k]).map numV)) := by
            rw [Hid, List.length_append, List.map_append]; exact hown
          clear hown hgrow
          go_wp2
          go_roundw
          case rel => exact ⟨i + 1, by go_num, by omega, by rw [HFO.out]; exact O4, by rw [HFO.out]; exact HCN, B4⟩
          case measure => simp [intOf]; omega
      · have e : i = n := by omega
        have HT : Hid ((ks.take i).foldl (gathF (ps.map Plc.cl)) l1 = takeL l (clO (ps.map nd) id)) := by
          rw [Hid, e, ← HKL.out, List.take_of_length_le (Nat.le_refl _)]
          exact HX1.out
        rw [HT.out] at hO
        subst e
        obtain ⟨va, vn, rfl⟩ := ownv hO.out
        clear HT HX1
        go_wp2
        refine bodyPost_ret (results_tmp rfl _ _ _) rfl ⟨⟨_, rfl, ?_⟩, hB.out⟩
        exact hO.out


theorem rIn_t {b : Nat} {cs : List Cls} {ps : List Plc} {W : World} (h : RAt b cs W) (ht : TwW cs ps) (i : Int) : Calls Tryz.prog 80 #[.pointer (some ⟨b, 0, none⟩), .int .i64 i] W fun e w' => e = .returned (.bool (plcI ps i).isSome) ∧ w' = W := by
  have := rIn_c h i
  rcases ht.tw.clsI i with ⟨h1, h2⟩ | ⟨k, c, q, rfl, _, _, _, h1, h2⟩
  · rw [h1] at this; rw [h2]; exact this
  · rw [h1] at this; rw [h2]; exact this
set_option maxRecDepth 100000 in
set_option maxHeartbeats 1000000 in
theorem rExtends_c {b : Nat} {cs : List Cls} {ps : List Plc} {W : World} (h : RAt b cs W) (ht : TwW cs ps) (hJ : WJ ps) (x y : Int) : Calls Tryz.prog 84 #[.pointer (some ⟨b, 0, none⟩), .int .i64 x, .int .i64 y] W fun e w' => e = .returned (.bool (extI ps x y)) ∧ Below W.heap.size W w' := by
  have HI : Hid (∀ i z w, Below W.heap.size W w → (plcI ps i).isSome = z → Calls Tryz.prog 80 #[.pointer (some ⟨b, 0, none⟩), .int .i64 i] w fun e w' => e = .returned (.bool z) ∧ w' = w) := fun i z w hb hz => by rw [← hz]; exact rIn_t (h.below hb) ht i
  rcases plcI_cases ps x with ⟨h1, _⟩ | ⟨k, p, rfl, h2, h1⟩
  · have e : extI ps x y = false := by rw [extI, h1]; rfl
    rw [e]
    have HX : Hid (∀ i w, Below W.heap.size W w → i = x → Calls Tryz.prog 80 #[.pointer (some ⟨b, 0, none⟩), .int .i64 i] w fun e w' => e = .returned (.bool false) ∧ w' = w) := fun i w hb hi => by rw [hi]; exact HI.out x false w hb (by rw [h1]; rfl)
    clear h ht hJ HI h1 e
    go_enter Tryz.func84, Tryz.ntmps84
    go_wp2_with (go_at_call 80; refine (HX.out _ _ (Below.refl _ _) (by rfl)).mono ?_; rintro e w9 ⟨rfl, hw9⟩; rw [hw9]; clear hw9 w9)
    exact bodyPost_ret (results_tmp rfl _ _ _) rfl ⟨rfl, Below.refl _ _⟩
  · have HX : Hid (∀ i w, Below W.heap.size W w → i = (k : Int) → Calls Tryz.prog 80 #[.pointer (some ⟨b, 0, none⟩), .int .i64 i] w fun e w' => e = .returned (.bool true) ∧ w' = w) := fun i w hb hi => by rw [hi]; exact HI.out k true w hb (by rw [h1]; rfl)
    rcases plcI_cases ps y with ⟨g1, _⟩ | ⟨j, q, rfl, g2, g1⟩
    · have e : extI ps k y = false := by rw [extI, h1, g1]; rfl
      rw [e]
      have HY : Hid (∀ i w, Below W.heap.size W w → i = y → Calls Tryz.prog 80 #[.pointer (some ⟨b, 0, none⟩), .int .i64 i] w fun e w' => e = .returned (.bool false) ∧ w' = w) := fun i w hb hi => by rw [hi]; exact HI.out y false w hb (by rw [g1]; rfl)
      clear h ht hJ HI h1 g1 e
      go_enter Tryz.func84, Tryz.ntmps84
      go_wp2_with (first
        | (go_at_call 80; refine (HX.out _ _ (Below.refl _ _) (by rfl)).mono ?_; rintro e w9 ⟨rfl, hw9⟩; rw [hw9]; clear hw9 w9)
        | (go_at_call 80; refine (HY.out _ _ (Below.refl _ _) (by rfl)).mono ?_; rintro e w9 ⟨rfl, hw9⟩; rw [hw9]; clear hw9 w9))
      exact bodyPost_ret (results_tmp rfl _ _ _) rfl ⟨rfl, Below.refl _ _⟩
    · have hkl := (List.getElem?_eq_some_iff.1 h2).1
      have e : extI ps k j = ((chL (ps.map nd) k).contains j || (clO (ps.map nd) k).contains j) := by rw [extI, h1, g1]; rfl
      rw [e]
      have HY : Hid (∀ i w, Below W.heap.size W w → i = (j : Int) → Calls Tryz.prog 80 #[.pointer (some ⟨b, 0, none⟩), .int .i64 i] w fun e w' => e = .returned (.bool true) ∧ w' = w) := fun i w hb hi => by rw [hi]; exact HI.out j true w hb (by rw [g1]; rfl)
      have HC : Hid (Calls Tryz.prog 121 #[.pointer (some ⟨b, 0, none⟩), .int .i64 (k : Int)] W fun e w' => (∃ v, e = .returned (.tuple #[v, .int .i64 0]) ∧ w'.ownsRow W.heap.size 3 1 v (chL (ps.map nd) k).length ((chL (ps.map nd) k).map numV)) ∧ Below W.heap.size W w') := rChain_yes h ht k hkl
      have hcb : (chL (ps.map nd) k).length ≤ 1000000 := by
        have hkn : k < (ps.map nd).length := by rw [List.length_map]; exact hkl
        have := nodup_lt_len (k + 1) _ (ch_nodup ht.wi.wo k hkn) (fun i hi => Nat.lt_succ_of_le (ch_le ht.wi.wo k hkn i hi))
        have := ht.wi.hi
        omega
      have hclb : (clO (ps.map nd) k).length ≤ 1000000 := by
        have := nodup_lt_len k _ (cl_nodup ht.wi.wo k) (fun i hi => (cl_facts ht.wi.wo hi).1)
        have := ht.wi.hi
        omega
      have HG : Hid (∀ w, Below W.heap.size W w → Calls Tryz.prog 156 #[.pointer (some ⟨b, 0, none⟩), .int .i64 (k : Int), .slice none 0 0] w fun e w' => (∃ v', e = .returned v' ∧ w'.ownsRow W.heap.size 3 1 v' (clO (ps.map nd) k).length ((clO (ps.map nd) k).map numV)) ∧ Below W.heap.size W w') := fun w hb => by
        have := rGather_any h ht hJ k hkl w (.slice none 0 0) [] hb (World.ownsRow_nil _ _ _ _) (ClL.nil ps)
        rw [take_nil _ (cl_nodup ht.wi.wo k)] at this
        exact this
      have HH1 : Hid (∀ (v : Value) (w : World), w.ownsRow W.heap.size 3 1 v (chL (ps.map nd) k).length ((chL (ps.map nd) k).map numV) → Calls Tryz.prog 155 #[v, .int .i64 (j : Int)] w fun e w' => e = .returned (.bool ((chL (ps.map nd) k).contains j)) ∧ Below w.heap.size w w') := fun v w hr => rHas_any v _ j w (own_rds hr) hcb
      have HH2 : Hid (∀ (v : Value) (w : World), w.ownsRow W.heap.size 3 1 v (clO (ps.map nd) k).length ((clO (ps.map nd) k).map numV) → Calls Tryz.prog 155 #[v, .int .i64 (j : Int)] w fun e w' => e = .returned (.bool ((clO (ps.map nd) k).contains j)) ∧ Below w.heap.size w w') := fun v w hr => rHas_any v _ j w (own_rds hr) hclb
      generalize (chL (ps.map nd) k).contains j = z1 at *
      generalize (clO (ps.map nd) k).contains j = z2 at *
      generalize chL (ps.map nd) k = C at *
      generalize clO (ps.map nd) k = G at *
      clear h ht hJ HI h1 h2 g1 g2 e hcb hclb hkl
      cases z1
      all_goals
        go_enter Tryz.func84, Tryz.ntmps84
        go_wp2_with (first
          | (go_at_call 80; refine (HX.out _ _ (Below.refl _ _) (by rfl)).mono ?_; rintro e w9 ⟨rfl, hw9⟩; rw [hw9]; clear hw9 w9)
          | (go_at_call 80; refine (HY.out _ _ (Below.refl _ _) (by rfl)).mono ?_; rintro e w9 ⟨rfl, hw9⟩; rw [hw9]; clear hw9 w9)
          | (go_at_call 121; refine HC.out.mono ?_; rintro e w1 ⟨⟨v1, rfl, ho⟩, hb⟩; obtain ⟨va1, vn1, rfl⟩ := ownv ho; have O1 : Hid (w1.ownsRow W.heap.size 3 1 (.slice va1 C.length vn1) C.length (C.map numV)) := ho; have B1 : Hid (Below W.heap.size W w1) := hb; clear hb ho HC)
          | (go_at_call 155; refine (HH1.out _ _ O1.out).mono ?_; rintro e w2 ⟨rfl, hb⟩; have B2 : Hid (Below W.heap.size W w2) := bstep B1.out hb; clear hb HH1 O1)
          | (go_at_call 156; refine (HG.out _ B2.out).mono ?_; rintro e w3 ⟨⟨v3, rfl, ho⟩, hb⟩; obtain ⟨va3, vn3, rfl⟩ := ownv ho; have O3 : Hid (w3.ownsRow W.heap.size 3 1 (.slice va3 G.length vn3) G.length (G.map numV)) := ho; have B3 : Hid (Below W.heap.size W w3) := hb; clear hb ho HG)
          | (go_at_call 155; refine (HH2.out _ _ O3.out).mono ?_; rintro e w4 ⟨rfl, hb⟩; have B4 : Hid (Below W.heap.size W w4) := bstep B3.out hb; clear hb HH2 O3))
        first
          | exact bodyPost_ret (results_tmp rfl _ _ _) rfl ⟨rfl, B4.out⟩
          | exact bodyPost_ret (results_tmp rfl _ _ _) rfl ⟨rfl, B2.out⟩


















theorem wld_wj (l : List Cls) (hl : ∀ c ∈ l, ClsW c) : WI (wld l) ∧ WJ (wld l) := wld_ind (P := fun ps => WI ps ∧ WJ ps) ⟨wi3, wj3⟩ (fun _ c h hc => ⟨h.1.define c hc, WJ.define h.1 h.2 c hc⟩) l hl






theorem halloc2 (w : World) {n : Nat} (o : Obj) (hn : w.heap.size = n) : (w.alloc o).heap[n]? = some o := by subst hn; exact halloc1 w o


theorem hkeep {w : World} {n : Nat} {x o : Obj} (h : w.heap[n]? = some x) : (w.alloc o).heap[n]? = some x := by
  have hb : Below w.heap.size w (w.alloc o) := (Below.refl _ w).alloc (Nat.le_refl _) _
  exact (hb.block n (Array.getElem?_eq_some_iff.1 h).1).trans h


/-- where a method lies, all of its cells -/
theorem RAt.meth {b : Nat} {cs : List Cls} {ps : List Plc} {w : World} (h : RAt b cs w) (ht : TwW cs ps) {k : Nat} {i : Int} {x : HM} (hx : methI ps (k : Int) i = some x) : ∃ (g cap bk n cm j : Nat) (ac : Option Addr) (cc : Nat), i = (j : Int) ∧ w.cell? ⟨b, 0, none⟩ = some (.slice (some ⟨g, 0, none⟩) cs.length cap) ∧ b < w.heap.size ∧ g < w.heap.size ∧ (k : Int) < (cs.length : Int) ∧ w.cell? ⟨g, k * 6 + 5, none⟩ = some (.slice (some ⟨bk, 0, none⟩) n cm) ∧ bk < w.heap.size ∧ (j : Int) < (n : Int) ∧ w.cell? ⟨bk, j * 6, none⟩ = some (.string x.nm) ∧ w.cell? ⟨bk, j * 6 + 1, none⟩ = some (.string x.ds) ∧ w.cell? ⟨bk, j * 6 + 2, none⟩ = some (.int .i64 x.fl) ∧ w.cell? ⟨bk, j * 6 + 3, none⟩ = some (.int .i64 x.lo) ∧ w.cell? ⟨bk, j * 6 + 4, none⟩ = some (.int .i64 x.st) ∧ w.cell? ⟨bk, j * 6 + 5, none⟩ = some (.slice ac x.n cc) ∧ Rds w (.slice ac x.n cc) x.n 7 x.xs ∧ (∀ u ∈ x.xs, u.oneCell' = true) ∧ x.n ≤ 1000000 := by
  obtain ⟨k', q, hk, hq, _, hm⟩ := meth_plc hx
  have : k = k' := by omega
  subst this
  obtain ⟨c, hc, hcq⟩ := ht.tw.at' hq
  have hcd := (ht.wi.pb q (List.mem_of_getElem? hq)).cd
  obtain ⟨N, v, rs, hW, hrc⟩ := h
  have hc2 := hc
  rw [← hrc, List.getElem?_map] at hc2
  cases er : rs[k]? with
  | none => rw [er] at hc2; cases hc2
  | some r =>
    rw [er] at hc2
    have hrcc : r.c = c := Option.some.inj hc2
    have hkl := (List.getElem?_eq_some_iff.1 er).1
    obtain ⟨g, cap, rfl⟩ := Go.Joins.ownsRow_form hW.row (by omega)
    have hat := (hW.row.cellAt (k * 6 + 5) (by omega)).trans (flatR_at rs k r er 5 (by omega))
    have b0 := cell_of_row w b 0 _ _ _ hW.hb
    simp only [List.getElem?_toArray, List.getElem?_cons_zero] at b0
    obtain ⟨qm, hqm, ho⟩ := hW.own r (List.mem_of_getElem? er)
    unfold methP at hm
    split at hm
    · rename_i hi
      have hms : q.c.ms = qm.map Prod.fst := by rw [hqm, hrcc, hcq]; rfl
      have hxm : x ∈ q.c.ms := List.mem_of_getElem? hm
      rw [hms, List.getElem?_map] at hm
      cases e : qm[i.toNat]? with
      | none => rw [e] at hm; cases hm
      | some p =>
        rw [e] at hm
        have hpx : p.1 = x := Option.some.inj hm
        have hil := (List.getElem?_eq_some_iff.1 e).1
        obtain ⟨bk, cm, hvm⟩ := Go.Joins.ownsRow_form ho.ms (by omega)
        have hmr := ho.ms
        rw [hvm] at hmr
        have hcell := fun j hj => (hmr.cellAt (i.toNat * 6 + j) (by omega)).trans (flatH_at qm i.toNat p e j hj)
        have hco := ho.cod p (List.mem_of_getElem? e)
        obtain ⟨ac, cc, hp2⟩ := ownv hco
        have h0 : w.cell? ⟨bk, i.toNat * 6, none⟩ = some (.string x.nm) := by rw [← hpx]; exact hcell 0 (by omega)
        have hgb := World.block_lt_of_cell? w _ (show w.cell? ⟨g, k * 6 + 5, none⟩ = some r.vm from hat)
        refine ⟨g, cap, bk, qm.length, cm, i.toNat, ac, cc, by omega, ?_, (Array.getElem?_eq_some_iff.1 hW.hb).1, hgb, ?_, ?_, World.block_lt_of_cell? w _ h0, by omega, h0, ?_, ?_, ?_, ?_, ?_, ?_, (hcd x hxm).1, (hcd x hxm).2⟩
        · rw [← hrc, List.length_map]; exact b0
        · rw [← hrc, List.length_map]; omega
        · rw [← hvm]; exact hat
        · rw [← hpx]; exact hcell 1 (by omega)
        · rw [← hpx]; exact hcell 2 (by omega)
        · rw [← hpx]; exact hcell 3 (by omega)
        · rw [← hpx]; exact hcell 4 (by omega)
        · have := hcell 5 (by omega)
          rw [← hpx, ← hp2]; exact this
        · rw [hp2] at hco
          rw [← hpx]
          exact own_rds hco
    · cases hm
/-- what is said of the answer -/
def MthS (x : Option HM) (e : Ending) : Prop := match x with
  | none => e = .returned noM
  | some x => ∃ a n c, e = .returned (.tuple #[.agg #[.string x.nm, .string x.ds, .int .i64 x.fl, .int .i64 x.lo, .int .i64 x.st, .slice a n c], .int .i64 0])
set_option maxRecDepth 100000 in
set_option maxHeartbeats 1000000 in
theorem rMethod_no {b : Nat} {cs : List Cls} {ps : List Plc} {W : World} (h : RAt b cs W) (ht : TwW cs ps) (c i : Int) (hm : plcI ps c = none) : Calls Tryz.prog 79 #[.pointer (some ⟨b, 0, none⟩), .agg #[.int .i64 c, .int .i64 i]] W fun e w' => e = .returned noM ∧ Below W.heap.size W w' := by
  obtain ⟨σ, V, hne, V1, V2⟩ := class_of' (fun w' => Below (W.heap.size + 2) ((W.alloc (.cells #[.int .i64 c, .int .i64 i] 38)).alloc (.cells #[.string ⟨#[]⟩, .string ⟨#[]⟩, .int .i64 0, .int .i64 0, .int .i64 0, .slice none 0 0] 47)) w') ⟨_, Below.refl _ _⟩
  have hBV : ∀ s0, Below W.heap.size W (V s0) := fun s0 => (((Below.refl _ W).alloc (Nat.le_refl _) _).alloc (by simp) _).trans ((V1.out s0).mono (by omega))
  have HI : Hid (∀ s0, Calls Tryz.prog 80 #[.pointer (some ⟨b, 0, none⟩), .int .i64 c] (V s0) fun e w'' => e = .returned (.bool false) ∧ ∃ s', w'' = V s') := fun s0 => (rIn_t (h.below (hBV s0)) ht c).mono fun e w'' zz => ⟨by rw [zz.1, hm]; rfl, s0, zz.2⟩
  have m0 : ∀ s0, (V s0).cell? ⟨W.heap.size, 0, none⟩ = some (.int .i64 c) := fun s0 => ((V1.out s0).cell (p := ⟨W.heap.size, 0, none⟩) (show W.heap.size < W.heap.size + 2 by omega)).trans (by simp [go_sem])
  have HZ : Hid (∀ s0, (V s0).heap[W.heap.size + 1]? = some (.cells #[.string ⟨#[]⟩, .string ⟨#[]⟩, .int .i64 0, .int .i64 0, .int .i64 0, .slice none 0 0] 47 (0, 0))) := fun s0 => ((V1.out s0).block (W.heap.size + 1) (by omega)).trans (heap_alloc2_new W _ _)
  have HBV : Hid (∀ s0, Below W.heap.size W (V s0)) := hBV
  have VD : Hid (∃ s1, ((W.alloc (.cells #[.int .i64 c, .int .i64 i] 38)).alloc (.cells #[.string ⟨#[]⟩, .string ⟨#[]⟩, .int .i64 0, .int .i64 0, .int .i64 0, .slice none 0 0] 47)).drew = V s1) := V2.out _ ((Below.refl _ _).drew)
  clear h ht hm hBV V1 V2
  go_enter Tryz.func79, Tryz.ntmps79
  go_wp2
  refine wp_region_class (C := fun w' => ∃ s0, w' = V s0) (by kernel_rfl) (by kernel_rfl) VD.out ?_
  repeat (go_big_quiet_step ((go_at_call 80; exact HI.out _)))
  refine wpQuiet_nil ?_
  intro w9 hw9
  obtain ⟨s9, hs9⟩ := hw9
  have k : w9.heap[W.heap.size + 1]? = some (.cells #[.string ⟨#[]⟩, .string ⟨#[]⟩, .int .i64 0, .int .i64 0, .int .i64 0, .slice none 0 0] 47 (0, 0)) := by rw [hs9]; exact HZ.out s9
  have B9 : Hid (Below W.heap.size W w9) := by rw [hs9]; exact HBV.out s9
  clear HZ HBV VD HI hs9 m0
  have z0 : w9.cell? ⟨W.heap.size + 1, 0, none⟩ = some (.string ⟨#[]⟩) := (cell_of_row _ (W.heap.size + 1) 0 _ _ _ k).trans rfl
  have z1 : w9.cell? ⟨W.heap.size + 1, 1, none⟩ = some (.string ⟨#[]⟩) := (cell_of_row _ (W.heap.size + 1) 1 _ _ _ k).trans rfl
  have z2 : w9.cell? ⟨W.heap.size + 1, 2, none⟩ = some (.int .i64 0) := (cell_of_row _ (W.heap.size + 1) 2 _ _ _ k).trans rfl
  have z3 : w9.cell? ⟨W.heap.size + 1, 3, none⟩ = some (.int .i64 0) := (cell_of_row _ (W.heap.size + 1) 3 _ _ _ k).trans rfl
  have z4 : w9.cell? ⟨W.heap.size + 1, 4, none⟩ = some (.int .i64 0) := (cell_of_row _ (W.heap.size + 1) 4 _ _ _ k).trans rfl
  have z5 : w9.cell? ⟨W.heap.size + 1, 5, none⟩ = some (.slice none 0 0) := (cell_of_row _ (W.heap.size + 1) 5 _ _ _ k).trans rfl
  have f0 := frozen_of_row w9 (W.heap.size + 1) 0 _ _ k
  have f1 := frozen_of_row w9 (W.heap.size + 1) 1 _ _ k
  have f2 := frozen_of_row w9 (W.heap.size + 1) 2 _ _ k
  have f3 := frozen_of_row w9 (W.heap.size + 1) 3 _ _ k
  have f4 := frozen_of_row w9 (W.heap.size + 1) 4 _ _ k
  have f5 := frozen_of_row w9 (W.heap.size + 1) 5 _ _ k
  clear k
  go_wp2
  refine bodyPost_ret (v := noM) (by simp [results, Tryz.results79, go_sem, noM, z0, z1, z2, z3, z4, z5]) rfl ⟨rfl, ?_⟩
  repeat (first | refine Below.setCell ?_ (by simp; try omega) _ | exact B9.out)
set_option maxRecDepth 100000 in
set_option maxHeartbeats 1000000 in
theorem rMethod_no2 {b : Nat} {cs : List Cls} {ps : List Plc} {W : World} (h : RAt b cs W) (ht : TwW cs ps) (k : Nat) (q : Plc) (hq : ps[k]? = some q) (i : Int) (hm : methP q i = none) : Calls Tryz.prog 79 #[.pointer (some ⟨b, 0, none⟩), .agg #[.int .i64 (k : Int), .int .i64 i]] W fun e w' => e = .returned noM ∧ Below W.heap.size W w' := by
  obtain ⟨c0, hc, hcq⟩ := ht.tw.at' hq
  obtain ⟨c, hcI⟩ : ∃ c : Int, c = (k : Int) := ⟨_, rfl⟩
  rw [← hcI]
  obtain ⟨σ, V, hne, V1, V2⟩ := class_of' (fun w' => Below (W.heap.size + 2) ((W.alloc (.cells #[.int .i64 c, .int .i64 i] 38)).alloc (.cells #[.string ⟨#[]⟩, .string ⟨#[]⟩, .int .i64 0, .int .i64 0, .int .i64 0, .slice none 0 0] 47)) w') ⟨_, Below.refl _ _⟩
  have hBV : ∀ s0, Below W.heap.size W (V s0) := fun s0 => (((Below.refl _ W).alloc (Nat.le_refl _) _).alloc (by simp) _).trans ((V1.out s0).mono (by omega))
  have HI : Hid (∀ s0, Calls Tryz.prog 80 #[.pointer (some ⟨b, 0, none⟩), .int .i64 c] (V s0) fun e w'' => e = .returned (.bool true) ∧ ∃ s', w'' = V s') := fun s0 => (rIn_t (h.below (hBV s0)) ht c).mono fun e w'' zz => ⟨by rw [zz.1, hcI, plcI_nat, hq]; rfl, s0, zz.2⟩
  have m0 : ∀ s0, (V s0).cell? ⟨W.heap.size, 0, none⟩ = some (.int .i64 c) := fun s0 => ((V1.out s0).cell (p := ⟨W.heap.size, 0, none⟩) (show W.heap.size < W.heap.size + 2 by omega)).trans (by simp [go_sem])
  have HZ : Hid (∀ s0, (V s0).heap[W.heap.size + 1]? = some (.cells #[.string ⟨#[]⟩, .string ⟨#[]⟩, .int .i64 0, .int .i64 0, .int .i64 0, .slice none 0 0] 47 (0, 0))) := fun s0 => ((V1.out s0).block (W.heap.size + 1) (by omega)).trans (heap_alloc2_new W _ _)
  have HBV : Hid (∀ s0, Below W.heap.size W (V s0)) := hBV
  have VD : Hid (∃ s1, ((W.alloc (.cells #[.int .i64 c, .int .i64 i] 38)).alloc (.cells #[.string ⟨#[]⟩, .string ⟨#[]⟩, .int .i64 0, .int .i64 0, .int .i64 0, .slice none 0 0] 47)).drew = V s1) := V2.out _ ((Below.refl _ _).drew)
  have m1 : ∀ s0, (V s0).cell? ⟨W.heap.size, 1, none⟩ = some (.int .i64 i) := fun s0 => ((V1.out s0).cell (p := ⟨W.heap.size, 1, none⟩) (show W.heap.size < W.heap.size + 2 by omega)).trans (by simp [go_sem])
  obtain ⟨g, cap, vi, vm, b0, hlt, hgl, _, _, _, _, _, c5, _, hMs⟩ := RAt.cells h hc
  obtain ⟨am, cm, rfl⟩ := mths_slice hMs
  have kp : ∀ (s0 : σ) (bb j : Nat) (v : Value), bb < W.heap.size → W.cell? ⟨bb, j, none⟩ = some v → (V s0).cell? ⟨bb, j, none⟩ = some v := fun s0 bb j v hl h => ((hBV s0).cell (p := ⟨bb, j, none⟩) hl).trans h
  replace b0 := fun s0 => kp s0 _ _ _ hlt b0
  replace c5 := fun s0 => kp s0 _ _ _ hgl c5
  have hkI : (k : Int) < (cs.length : Int) := by have := (List.getElem?_eq_some_iff.1 hc).1; omega
  have hml : i < 0 ∨ (0 ≤ i ∧ (c0.ms.length : Int) ≤ i) := by
    unfold methP at hm
    split at hm
    · rename_i h0
      have : q.c.ms.length = c0.ms.length := by rw [hcq]; simp [hcOf]
      have := List.getElem?_eq_none_iff.1 hm
      exact .inr ⟨h0, by omega⟩
    · exact .inl (by omega)
  generalize c0.ms.length = n at *
  subst hcI
  clear h ht hm hBV V1 V2 kp hMs hq hc hcq
  have hml2 : (i < 0 ∧ decide (i < 0) = true) ∨ (¬ i < 0 ∧ decide (i < 0) = false ∧ (n : Int) ≤ i) := by
    rcases hml with h0 | ⟨h0, h1⟩
    · exact .inl ⟨h0, by simpa using h0⟩
    · exact .inr ⟨by omega, by simpa using h0, h1⟩
  clear hml
  rcases hml2 with ⟨hi, hi1⟩ | ⟨hi, hi1, hi2⟩
  all_goals
    go_enter Tryz.func79, Tryz.ntmps79
    go_wp2
    refine wp_region_class (C := fun w' => ∃ s0, w' = V s0) (by kernel_rfl) (by kernel_rfl) VD.out ?_
    repeat (go_big_quiet_step ((go_at_call 80; exact HI.out _)))
    refine wpQuiet_nil ?_
    intro w9 hw9
    obtain ⟨s9, hs9⟩ := hw9
    have k : w9.heap[W.heap.size + 1]? = some (.cells #[.string ⟨#[]⟩, .string ⟨#[]⟩, .int .i64 0, .int .i64 0, .int .i64 0, .slice none 0 0] 47 (0, 0)) := by rw [hs9]; exact HZ.out s9
    have B9 : Hid (Below W.heap.size W w9) := by rw [hs9]; exact HBV.out s9
    clear HZ HBV VD HI hs9 m0 m1 b0 c5
    have z0 : w9.cell? ⟨W.heap.size + 1, 0, none⟩ = some (.string ⟨#[]⟩) := (cell_of_row _ (W.heap.size + 1) 0 _ _ _ k).trans rfl
    have z1 : w9.cell? ⟨W.heap.size + 1, 1, none⟩ = some (.string ⟨#[]⟩) := (cell_of_row _ (W.heap.size + 1) 1 _ _ _ k).trans rfl
    have z2 : w9.cell? ⟨W.heap.size + 1, 2, none⟩ = some (.int .i64 0) := (cell_of_row _ (W.heap.size + 1) 2 _ _ _ k).trans rfl
    have z3 : w9.cell? ⟨W.heap.size + 1, 3, none⟩ = some (.int .i64 0) := (cell_of_row _ (W.heap.size + 1) 3 _ _ _ k).trans rfl
    have z4 : w9.cell? ⟨W.heap.size + 1, 4, none⟩ = some (.int .i64 0) := (cell_of_row _ (W.heap.size + 1) 4 _ _ _ k).trans rfl
    have z5 : w9.cell? ⟨W.heap.size + 1, 5, none⟩ = some (.slice none 0 0) := (cell_of_row _ (W.heap.size + 1) 5 _ _ _ k).trans rfl
    have f0 := frozen_of_row w9 (W.heap.size + 1) 0 _ _ k
    have f1 := frozen_of_row w9 (W.heap.size + 1) 1 _ _ k
    have f2 := frozen_of_row w9 (W.heap.size + 1) 2 _ _ k
    have f3 := frozen_of_row w9 (W.heap.size + 1) 3 _ _ k
    have f4 := frozen_of_row w9 (W.heap.size + 1) 4 _ _ k
    have f5 := frozen_of_row w9 (W.heap.size + 1) 5 _ _ k
    clear k
    go_wp2
    refine bodyPost_ret (v := noM) (by simp [results, Tryz.results79, go_sem, noM, z0, z1, z2, z3, z4, z5]) rfl ⟨rfl, ?_⟩
    repeat (first | refine Below.setCell ?_ (by simp; try omega) _ | exact B9.out)
set_option maxRecDepth 100000 in
set_option maxHeartbeats 1000000 in
theorem rMethod_yes {b : Nat} {cs : List Cls} {ps : List Plc} {W : World} (h : RAt b cs W) (ht : TwW cs ps) (k : Nat) (q : Plc) (hq : ps[k]? = some q) (i : Int) (x : HM) (hm : methI ps (k : Int) i = some x) : Calls Tryz.prog 79 #[.pointer (some ⟨b, 0, none⟩), .agg #[.int .i64 (k : Int), .int .i64 i]] W fun e w' => MthS (some x) e ∧ Below W.heap.size W w' := by
  obtain ⟨iI, hiI, hzI, hsI, hbI⟩ := info_parts Tryz.hinfo81
  obtain ⟨c0, hc, hcq⟩ := ht.tw.at' hq
  obtain ⟨c, hcI⟩ : ∃ c : Int, c = (k : Int) := ⟨_, rfl⟩
  rw [← hcI]
  obtain ⟨σ, V, hne, V1, V2⟩ := class_of' (fun w' => Below (W.heap.size + 2) ((W.alloc (.cells #[.int .i64 c, .int .i64 i] 38)).alloc (.cells #[.string ⟨#[]⟩, .string ⟨#[]⟩, .int .i64 0, .int .i64 0, .int .i64 0, .slice none 0 0] 47)) w') ⟨_, Below.refl _ _⟩
  have hBV : ∀ s0, Below W.heap.size W (V s0) := fun s0 => (((Below.refl _ W).alloc (Nat.le_refl _) _).alloc (by simp) _).trans ((V1.out s0).mono (by omega))
  have HI : Hid (∀ s0, Calls Tryz.prog 80 #[.pointer (some ⟨b, 0, none⟩), .int .i64 c] (V s0) fun e w'' => e = .returned (.bool true) ∧ ∃ s', w'' = V s') := fun s0 => (rIn_t (h.below (hBV s0)) ht c).mono fun e w'' zz => ⟨by rw [zz.1, hcI, plcI_nat, hq]; rfl, s0, zz.2⟩
  have m0 : ∀ s0, (V s0).cell? ⟨W.heap.size, 0, none⟩ = some (.int .i64 c) := fun s0 => ((V1.out s0).cell (p := ⟨W.heap.size, 0, none⟩) (show W.heap.size < W.heap.size + 2 by omega)).trans (by simp [go_sem])
  have HZ : Hid (∀ s0, (V s0).heap[W.heap.size + 1]? = some (.cells #[.string ⟨#[]⟩, .string ⟨#[]⟩, .int .i64 0, .int .i64 0, .int .i64 0, .slice none 0 0] 47 (0, 0))) := fun s0 => ((V1.out s0).block (W.heap.size + 1) (by omega)).trans (heap_alloc2_new W _ _)
  have HBV : Hid (∀ s0, Below W.heap.size W (V s0)) := hBV
  have VD : Hid (∃ s1, ((W.alloc (.cells #[.int .i64 c, .int .i64 i] 38)).alloc (.cells #[.string ⟨#[]⟩, .string ⟨#[]⟩, .int .i64 0, .int .i64 0, .int .i64 0, .slice none 0 0] 47)).drew = V s1) := V2.out _ ((Below.refl _ _).drew)
  have m1 : ∀ s0, (V s0).cell? ⟨W.heap.size, 1, none⟩ = some (.int .i64 i) := fun s0 => ((V1.out s0).cell (p := ⟨W.heap.size, 1, none⟩) (show W.heap.size < W.heap.size + 2 by omega)).trans (by simp [go_sem])
  have HMe : Hid (∀ w, Below W.heap.size W w → ∃ (g cap bk n cm j : Nat) (ac : Option Addr) (cc : Nat), i = (j : Int) ∧ w.cell? ⟨b, 0, none⟩ = some (.slice (some ⟨g, 0, none⟩) cs.length cap) ∧ b < w.heap.size ∧ g < w.heap.size ∧ (k : Int) < (cs.length : Int) ∧ w.cell? ⟨g, k * 6 + 5, none⟩ = some (.slice (some ⟨bk, 0, none⟩) n cm) ∧ bk < w.heap.size ∧ (j : Int) < (n : Int) ∧ w.cell? ⟨bk, j * 6, none⟩ = some (.string x.nm) ∧ w.cell? ⟨bk, j * 6 + 1, none⟩ = some (.string x.ds) ∧ w.cell? ⟨bk, j * 6 + 2, none⟩ = some (.int .i64 x.fl) ∧ w.cell? ⟨bk, j * 6 + 3, none⟩ = some (.int .i64 x.lo) ∧ w.cell? ⟨bk, j * 6 + 4, none⟩ = some (.int .i64 x.st) ∧ w.cell? ⟨bk, j * 6 + 5, none⟩ = some (.slice ac x.n cc) ∧ Rds w (.slice ac x.n cc) x.n 7 x.xs ∧ (∀ u ∈ x.xs, u.oneCell' = true) ∧ x.n ≤ 1000000) := fun w hb => (h.below hb).meth ht hm
  obtain ⟨g, cap, bk, n, cm, j, ac, cc, rfl, b0, hlt, hgl, hkI, c5, hbk, hjn, e0, e1, e2, e3, e4, e5, hrd, hone, hxn⟩ := HMe.out W (Below.refl _ _)
  have kp : ∀ (s0 : σ) (bb j : Nat) (v : Value), bb < W.heap.size → W.cell? ⟨bb, j, none⟩ = some v → (V s0).cell? ⟨bb, j, none⟩ = some v := fun s0 bb j v hl h => ((hBV s0).cell (p := ⟨bb, j, none⟩) hl).trans h
  have KP : Hid (∀ (s0 : σ) (bb j : Nat) (v : Value), bb < W.heap.size → W.cell? ⟨bb, j, none⟩ = some v → (V s0).cell? ⟨bb, j, none⟩ = some v) := kp
  have b0s := fun s0 => kp s0 _ _ _ hlt b0
  have c5s := fun s0 => kp s0 _ _ _ hgl c5
  have hj0 : ¬ (j : Int) < 0 := by omega
  have hj1 : decide ((j : Int) < 0) = false := by simp
  have hj2 : ¬ (n : Int) ≤ (j : Int) := by omega
  have HRD : Hid (Rds W (.slice ac x.n cc) x.n 7 x.xs) := hrd
  have HON : Hid (∀ u ∈ x.xs, u.oneCell' = true) := hone
  subst hcI
  clear h ht hm hBV V1 V2 kp hq hc hcq HMe hrd hone
  have HE : Hid (W.cell? ⟨bk, j * 6, none⟩ = some (.string x.nm) ∧ W.cell? ⟨bk, j * 6 + 1, none⟩ = some (.string x.ds) ∧ W.cell? ⟨bk, j * 6 + 2, none⟩ = some (.int .i64 x.fl) ∧ W.cell? ⟨bk, j * 6 + 3, none⟩ = some (.int .i64 x.lo) ∧ W.cell? ⟨bk, j * 6 + 4, none⟩ = some (.int .i64 x.st) ∧ W.cell? ⟨bk, j * 6 + 5, none⟩ = some (.slice ac x.n cc)) := ⟨e0, e1, e2, e3, e4, e5⟩
  clear e0 e1 e2 e3 e4 e5 b0 c5
  go_enter Tryz.func79, Tryz.ntmps79
  go_wp2
  refine wp_region_class (C := fun w' => ∃ s0, w' = V s0) (by kernel_rfl) (by kernel_rfl) VD.out ?_
  repeat (go_big_quiet_step ((go_at_call 80; exact HI.out _)))
  refine wpQuiet_nil ?_
  intro w9 hw9
  obtain ⟨s9, hs9⟩ := hw9
  have k9 : w9.heap[W.heap.size + 1]? = some (.cells #[.string ⟨#[]⟩, .string ⟨#[]⟩, .int .i64 0, .int .i64 0, .int .i64 0, .slice none 0 0] 47 (0, 0)) := by rw [hs9]; exact HZ.out s9
  have B9 : Hid (Below W.heap.size W w9) := by rw [hs9]; exact HBV.out s9
  have q0 : w9.cell? ⟨W.heap.size, 0, none⟩ = some (.int .i64 (k : Int)) := by rw [hs9]; exact m0 s9
  have q1 : w9.cell? ⟨W.heap.size, 1, none⟩ = some (.int .i64 (j : Int)) := by rw [hs9]; exact m1 s9
  have q2 := b0s s9
  have q3 := c5s s9
  rw [← hs9] at q2 q3
  clear HZ HBV VD HI hs9 m0 m1 b0s c5s KP
  obtain ⟨e0, e1, e2, e3, e4, e5⟩ := HE.out
  replace e0 := (B9.out.cell (p := ⟨bk, j * 6, none⟩) hbk).trans e0
  replace e1 := (B9.out.cell (p := ⟨bk, j * 6 + 1, none⟩) hbk).trans e1
  replace e2 := (B9.out.cell (p := ⟨bk, j * 6 + 2, none⟩) hbk).trans e2
  replace e3 := (B9.out.cell (p := ⟨bk, j * 6 + 3, none⟩) hbk).trans e3
  replace e4 := (B9.out.cell (p := ⟨bk, j * 6 + 4, none⟩) hbk).trans e4
  replace e5 := (B9.out.cell (p := ⟨bk, j * 6 + 5, none⟩) hbk).trans e5
  clear HE
  have hL9 : W.heap.size + 1 < w9.heap.size := (Array.getElem?_eq_some_iff.1 k9).1
  have hs := B9.out.size
  have y1 : ¬ W.heap.size = w9.heap.size := by omega
  have y2 : ¬ bk = w9.heap.size := by omega
  have y3 : ¬ b = w9.heap.size := by omega
  have y4 : ¬ g = w9.heap.size := by omega
  have y5 : ¬ W.heap.size + 1 = w9.heap.size := by omega
  have x1 : W.heap.size < w9.heap.size := by omega
  have x2 : bk < w9.heap.size := by omega
  have x3 : b < w9.heap.size := by omega
  have x4 : g < w9.heap.size := by omega
  go_wp2
  go_region
  have hxU : (w9.alloc (.cells #[.string x.nm, .string x.ds, .int .i64 x.fl, .int .i64 x.lo, .int .i64 x.st, .slice ac x.n cc] 47)).drew.heap[w9.heap.size]? = some (.cells #[.string x.nm, .string x.ds, .int .i64 x.fl, .int .i64 x.lo, .int .i64 x.st, .slice ac x.n cc] 47 (0, 0)) := (((Below.refl (w9.alloc (.cells #[.string x.nm, .string x.ds, .int .i64 x.fl, .int .i64 x.lo, .int .i64 x.st, .slice ac x.n cc] 47)).heap.size _).drew).block w9.heap.size (by simp)).trans (halloc1 w9 _)
  have hkU : (w9.alloc (.cells #[.string x.nm, .string x.ds, .int .i64 x.fl, .int .i64 x.lo, .int .i64 x.st, .slice ac x.n cc] 47)).drew.heap[W.heap.size + 1]? = some (.cells #[.string ⟨#[]⟩, .string ⟨#[]⟩, .int .i64 0, .int .i64 0, .int .i64 0, .slice none 0 0] 47 (0, 0)) := (((Below.refl (w9.alloc (.cells #[.string x.nm, .string x.ds, .int .i64 x.fl, .int .i64 x.lo, .int .i64 x.st, .slice ac x.n cc] 47)).heap.size _).drew).block (W.heap.size + 1) (by simp; omega)).trans (hkeep k9)
  have BU : Below W.heap.size W (w9.alloc (.cells #[.string x.nm, .string x.ds, .int .i64 x.fl, .int .i64 x.lo, .int .i64 x.st, .slice ac x.n cc] 47)).drew := (B9.out.alloc B9.out.size _).drew
  have hzU : (w9.alloc (.cells #[.string x.nm, .string x.ds, .int .i64 x.fl, .int .i64 x.lo, .int .i64 x.st, .slice ac x.n cc] 47)).drew.heap.size = w9.heap.size + 1 := by simp
  generalize (w9.alloc (.cells #[.string x.nm, .string x.ds, .int .i64 x.fl, .int .i64 x.lo, .int .i64 x.st, .slice ac x.n cc] 47)).drew = U at *
  have x0U := (cell_of_row U w9.heap.size 5 _ _ _ hxU).trans rfl
  have HRU : Hid (Rds U (.slice ac x.n cc) x.n 7 x.xs) := HRD.out.keep BU
  have HXU : Hid (U.heap[w9.heap.size]? = some (.cells #[.string x.nm, .string x.ds, .int .i64 x.fl, .int .i64 x.lo, .int .i64 x.st, .slice ac x.n cc] 47 (0, 0))) := hxU
  have HKU : Hid (U.heap[W.heap.size + 1]? = some (.cells #[.string ⟨#[]⟩, .string ⟨#[]⟩, .int .i64 0, .int .i64 0, .int .i64 0, .slice none 0 0] 47 (0, 0))) := hkU
  have HBU : Hid (Below W.heap.size W U) := BU
  have n1 : ¬ w9.heap.size = U.heap.size := by omega
  have n2 : w9.heap.size < U.heap.size := by omega
  simp only [List.getElem?_toArray, List.getElem?_cons_zero, List.getElem?_cons_succ] at x0U
  clear hxU hkU BU q0 q1 q2 q3 e0 e1 e2 e3 e4 e5 k9 HRD B9 y1 y2 y3 y4 x1 x2 x3 x4 hj0 hj1 hj2
  go_wp2_with (at_builtin; refine wpList_append_rdw rfl _ _ 45 rfl (w9.heap.size + 1) 160 iI _ 7 _ Tryz.underlying45 hiI hzI hsI hbI rfl (by decide) (.slice (some ⟨w9.heap.size + 1, 0, none⟩) 0 0) 0 [] rfl (own_empty U _ hzU _ _ _ (by omega)) (.slice ac x.n cc) x.n x.xs rfl (.inl (HRU.out.keep ((Below.refl _ U).alloc (Nat.le_refl _) _))) HON.out ?c1 ?c2 ?c3 ?_)
  case c1 => unfold maxLen; omega
  case c2 => omega
  case c3 => simp; omega
  intro v' w5 hown hgrow
  obtain ⟨a5, c5, rfl⟩ := ownv hown
  have hb5 : Below (w9.heap.size + 1) U w5 := by
    have h1 : Below (w9.heap.size + 1) U (U.alloc (.cells #[] 160)) := (Below.refl _ U).alloc (by omega) _
    refine h1.grown hgrow (by simp; omega) (fun z hz => ?_)
    simp [Value.ownBlock] at hz
    omega
  have kx := (hb5.block w9.heap.size (by omega)).trans HXU.out
  have kz := (hb5.block (W.heap.size + 1) (by omega)).trans HKU.out
  have B5 : Hid (Below W.heap.size W w5) := HBU.out.trans (hb5.mono (by omega))
  have p0 : w5.cell? ⟨w9.heap.size, 0, none⟩ = some (.string x.nm) := (cell_of_row _ w9.heap.size 0 _ _ _ kx).trans rfl
  have p1 : w5.cell? ⟨w9.heap.size, 1, none⟩ = some (.string x.ds) := (cell_of_row _ w9.heap.size 1 _ _ _ kx).trans rfl
  have p2 : w5.cell? ⟨w9.heap.size, 2, none⟩ = some (.int .i64 x.fl) := (cell_of_row _ w9.heap.size 2 _ _ _ kx).trans rfl
  have p3 : w5.cell? ⟨w9.heap.size, 3, none⟩ = some (.int .i64 x.lo) := (cell_of_row _ w9.heap.size 3 _ _ _ kx).trans rfl
  have p4 : w5.cell? ⟨w9.heap.size, 4, none⟩ = some (.int .i64 x.st) := (cell_of_row _ w9.heap.size 4 _ _ _ kx).trans rfl
  have p5 : w5.cell? ⟨w9.heap.size, 5, none⟩ = some (.slice ac x.n cc) := (cell_of_row _ w9.heap.size 5 _ _ _ kx).trans rfl
  have pf := frozen_of_row w5 w9.heap.size 5 _ _ kx
  have z0 : w5.cell? ⟨W.heap.size + 1, 0, none⟩ = some (.string ⟨#[]⟩) := (cell_of_row _ (W.heap.size + 1) 0 _ _ _ kz).trans rfl
  have z1 : w5.cell? ⟨W.heap.size + 1, 1, none⟩ = some (.string ⟨#[]⟩) := (cell_of_row _ (W.heap.size + 1) 1 _ _ _ kz).trans rfl
  have z2 : w5.cell? ⟨W.heap.size + 1, 2, none⟩ = some (.int .i64 0) := (cell_of_row _ (W.heap.size + 1) 2 _ _ _ kz).trans rfl
  have z3 : w5.cell? ⟨W.heap.size + 1, 3, none⟩ = some (.int .i64 0) := (cell_of_row _ (W.heap.size + 1) 3 _ _ _ kz).trans rfl
  have z4 : w5.cell? ⟨W.heap.size + 1, 4, none⟩ = some (.int .i64 0) := (cell_of_row _ (W.heap.size + 1) 4 _ _ _ kz).trans rfl
  have z5 : w5.cell? ⟨W.heap.size + 1, 5, none⟩ = some (.slice none 0 0) := (cell_of_row _ (W.heap.size + 1) 5 _ _ _ kz).trans rfl
  have f0 := frozen_of_row w5 (W.heap.size + 1) 0 _ _ kz
  have f1 := frozen_of_row w5 (W.heap.size + 1) 1 _ _ kz
  have f2 := frozen_of_row w5 (W.heap.size + 1) 2 _ _ kz
  have f3 := frozen_of_row w5 (W.heap.size + 1) 3 _ _ kz
  have f4 := frozen_of_row w5 (W.heap.size + 1) 4 _ _ kz
  have f5 := frozen_of_row w5 (W.heap.size + 1) 5 _ _ kz
  have hWle : Hid (W.heap.size ≤ w9.heap.size) := by rw [Hid]; omega
  have y6 : ¬ w9.heap.size = W.heap.size + 1 := by omega
  clear hown hgrow hb5 kx kz HXU HKU HRU HBU x0U
  try simp only [Nat.zero_add]
  go_wp2
  refine bodyPost_ret (v := .tuple #[.agg #[.string x.nm, .string x.ds, .int .i64 x.fl, .int .i64 x.lo, .int .i64 x.st, .slice a5 (0 + x.n) c5], .int .i64 0]) (by simp [results, Tryz.results79, go_sem, z0, z1, z2, z3, z4, z5]) rfl ⟨⟨_, _, _, rfl⟩, ?_⟩
  repeat (first | refine Below.setCell ?_ (by first | (simp; done) | (simp; exact hWle.out) | (simp; omega)) _ | exact B5.out)
theorem rMethod_c {b : Nat} {cs : List Cls} {ps : List Plc} {W : World} (h : RAt b cs W) (ht : TwW cs ps) (c i : Int) : Calls Tryz.prog 79 #[.pointer (some ⟨b, 0, none⟩), .agg #[.int .i64 c, .int .i64 i]] W fun e w' => MthS (methI ps c i) e ∧ Below W.heap.size W w' := by
  rcases plcI_cases ps c with ⟨h1, _⟩ | ⟨k, q, rfl, h2, h1⟩
  · have e : methI ps c i = none := by rw [methI, h1]; rfl
    rw [e]; exact rMethod_no h ht c i h1
  · cases hm : methI ps (k : Int) i with
    | none =>
      have : methP q i = none := by rw [methI, h1] at hm; exact hm
      exact rMethod_no2 h ht k q h2 i this
    | some x => exact rMethod_yes h ht k q h2 i x hm




end Go.Proofs.YtgppadlkollfaaaGreat
