/- Package cache's sets: keys. -/
import Derived.Test.YtdjmjdlolhfejaaKaJ
namespace Go.Proofs.Ytdjmjdlolhfejaa
open Go.RowKit Go.Maps

theorem Try.hinfoI : (Try.prog.info? 3).map (fun i => (i.zero, i.size, i.bytes)) = some (some (.int .i64 0), 1, 8) := by kernel_rfl
def intC (ks : List Int) : List Value := ks.map (Value.int .i64)
theorem intC_len (ks : List Int) : (intC ks).length = ks.length := by simp [intC]
theorem intC_app (a b : List Int) : intC (a ++ b) = intC a ++ intC b := by simp [intC]
/-- the keys of all entries, set by set -/
def ksL (ss : List (List (Int × Int))) : List Int := ss.flatMap fun l => l.map Prod.fst
theorem ksL_snoc {ss : List (List (Int × Int))} {i : Nat} {l : List (Int × Int)} (h : ss[i]? = some l) : ksL (ss.take (i + 1)) = ksL (ss.take i) ++ l.map Prod.fst := by
  rw [List.take_add_one, h]
  simp [ksL]
theorem ksL_len {cap : Nat} : ∀ (ss : List (List (Int × Int))), (∀ l ∈ ss, l.length ≤ 2) → (ksL ss).length ≤ 2 * ss.length
  | [], _ => by simp [ksL]
  | l :: r, h => by
    have := ksL_len (cap := cap) r (fun x hx => h x (by simp [hx]))
    have h2 := h l (by simp)
    have e : ksL (l :: r) = l.map Prod.fst ++ ksL r := by simp [ksL]
    rw [e, List.length_append, List.length_map, List.length_cons]; omega
theorem new1 (w : World) (o : Obj) (x : Int) : ∀ j u, [Value.int .i64 x][j]? = some u → ((w.alloc o).alloc (.cells #[.int .i64 x] 3)).cell? ((⟨w.heap.size + 1, 0, none⟩ : Addr).add j) = some u
  | 0, u, hj => by
    simp at hj; subst hj
    rw [Addr.add_lit]
    exact (cell_of_row _ (w.heap.size + 1) 0 _ _ _ (halloc2 _ _ (by simp))).trans rfl
  | j + 1, u, hj => by simp at hj
set_option maxRecDepth 100000 in
set_option maxHeartbeats 4000000 in
theorem sskeys_c {W : World} {N q a cap : Nat} {vs : List Value} {ss : List (List (Int × Int))} (h : SetsAt W N q a cap 0 vs ss) :
    Calls Try.prog 97 #[.pointer (some ⟨q, 0, none⟩)] W fun e w' => ∃ v', e = .returned v' ∧ w'.ownsRow W.heap.size 3 1 v' (ksL ss).length (intC (ksL ss)) ∧ (∃ vs', SetsAt w' N q a cap 0 vs' ss) ∧ TK N W w' := by
  obtain ⟨i0, hi0, hz0, hz1, hz2⟩ := info_parts Try.hinfoI
  obtain ⟨q0, _, qf⟩ := h.qc
  have f0 := qf 0
  have h1 := h.lock 1
  have T1 : Hid (TK N W (W.setCell ⟨q, 0, none⟩ (.int .i32 1))) := h.tkq 0 _
  have hsz : (W.setCell ⟨q, 0, none⟩ (.int .i32 1)).heap.size = W.heap.size := by simp
  have q2 : (W.setCell ⟨q, 0, none⟩ (.int .i32 1)).cell? ⟨q, 2, none⟩ = some (.slice (some ⟨a, 0, none⟩) ss.length ss.length) := h1.qc.2.1
  have hL : ∀ l ∈ ss, l.length ≤ 2 := fun l hl => by
    obtain ⟨j, hj⟩ := List.getElem?_of_mem hl
    obtain ⟨v, hv⟩ : ∃ v, vs[j]? = some v := ⟨_, List.getElem?_eq_getElem (by have := (List.getElem?_eq_some_iff.1 hj).1; have := h.lv; omega)⟩
    have := (h.row j v l hv hj).2.2
    unfold rmN at this; omega
  have HLL : Hid (∀ l ∈ ss, l.length ≤ 2) := hL
  have hn32 : ss.length ≤ 32 := by rw [h.ls]; have := h.c64; omega
  have LV : Hid (vs.length = ss.length) := h.lv
  have hqw := h.lt
  obtain ⟨n, hn⟩ : ∃ n, ss.length = n := ⟨_, rfl⟩
  rw [hn] at q2 hn32
  have HN : Hid (ss.length = n) := hn
  clear h qf hL hn
  go_enter_defers Try.func97, Try.ntmps97
  go_wp2_with (go_at_call 46; refine (Go.MuLone.lock_free Try.muLib ⟨q, 0, none⟩ _ q0 f0).mono ?_; rintro e w1 ⟨rfl, hw1⟩; rw [← hw1] at h1 T1 hsz q2; clear hw1; have S1 : Hid (SetsAt w1 N q a cap 1 vs ss) := h1; have HZ : Hid (w1.heap.size = W.heap.size) := hsz; clear h1 hsz)
  go_loopw [3, 20] (fun kv iv wr => ∃ (i : Nat) (ks : List Int), iv = .int .i64 i ∧ i ≤ n ∧ Hid (ks = ksL (ss.take i)) ∧ Hid (wr.ownsRow w1.heap.size 3 1 kv ks.length (intC ks)) ∧ Hid (Tch (fun _ => False) w1 wr)) (fun _ iv _ => n - (intOf iv).toNat)
  case atStart => exact ⟨0, [], rfl, Nat.zero_le _, by simp [Hid, ksL], World.ownsRow_nil _ _ _ _, Tch.refl _ _⟩
  case round =>
    obtain ⟨i, ks, rfl, hi, hks, hrow, ht⟩ := hrel
    obtain ⟨w2, rfl⟩ : ∃ w2, w2 = wr := ⟨_, rfl⟩
    obtain ⟨ka, kc, rfl⟩ := ownv hrow.out
    by_cases hlt : i < n
    · obtain ⟨l, hl⟩ : ∃ l, ss[i]? = some l := ⟨_, List.getElem?_eq_getElem (by rw [HN.out]; exact hlt)⟩
      obtain ⟨v, hv⟩ : ∃ v, vs[i]? = some v := ⟨_, List.getElem?_eq_getElem (by rw [LV.out, HN.out]; exact hlt)⟩
      have S2 := S1.out.tch ht.out
      have A2 := S2.at hv hl
      obtain ⟨c0, c1, _⟩ := A2.cells
      have ha2 := A2.lt
      obtain ⟨va, vc, rfl⟩ := ownv A2.row
      have HR2 : Hid (w2.ownsRow N 75 2 (.slice va l.length vc) l.length (flatD l)) := A2.row
      have hl2 := HLL.out l (List.mem_of_getElem? hl)
      have HG : Hid (∀ g, va = some ⟨g, 0, none⟩ → g < w1.heap.size) := fun g e => S1.out.ltv hv (by simp [Value.ownBlock, e])
      have hk64 : ks.length ≤ 64 := by
        have e := ksL_len (cap := 0) (ss.take i) (fun x hx => HLL.out x (List.mem_of_mem_take hx))
        rw [← hks.out, List.length_take] at e; omega
      obtain ⟨K, hK⟩ : ∃ K, l.length = K := ⟨_, rfl⟩
      rw [hK] at c1 HR2 hl2
      have HK : Hid (l.length = K) := hK
      have HV : Hid (ksL (ss.take (i + 1)) = ks ++ l.map Prod.fst) := by rw [Hid, ksL_snoc hl, hks.out]
      clear S2 A2 hK hl hv hks
      have HT2 : Hid (Tch (fun _ => False) w2 (w2.alloc (.cells #[.int .i64 (rmN cap i), .slice va K vc] 108))) := (Tch.refl _ w2).alloc _
      go_wp2
      go_loopw [3, 27] (fun kv iv wr => ∃ (t : Nat) (kt : List Int), iv = .int .i64 t ∧ t ≤ K ∧ Hid (kt = ks ++ (l.take t).map Prod.fst) ∧ Hid (kt.length = ks.length + t) ∧ Hid (wr.ownsRow w1.heap.size 3 1 kv kt.length (intC kt)) ∧ Hid (Tch (fun _ => False) w1 wr) ∧ Hid (wr.ownsRow N 75 2 (.slice va K vc) K (flatD l))) (fun _ iv _ => K - (intOf iv).toNat)
      case atStart => exact ⟨0, ks, rfl, Nat.zero_le _, by simp [Hid], by simp [Hid], hrow.out.alloc _, ht.out.alloc _, HR2.out.alloc _⟩
      case round =>
        obtain ⟨t, kt, rfl, hi2, hkt, hktl, hrow3, ht3, hent3⟩ := hrel
        obtain ⟨ka3, kc3, rfl⟩ := ownv hrow3.out
        by_cases hlt2 : t < K
        · obtain ⟨⟨x1, x2⟩, hx⟩ : ∃ x, l[t]? = some x := ⟨_, List.getElem?_eq_getElem (by rw [HK.out]; exact hlt2)⟩
          obtain ⟨g, rfl⟩ : ∃ g, va = some ⟨g, 0, none⟩ := by
            rcases hent3.out.2 with ⟨_, e⟩ | ⟨g, c, cur, e, _⟩
            · omega
            · cases e; exact ⟨g, rfl⟩
          obtain ⟨y0, y1⟩ := flatD_at l t _ hx
          have k0 : wr.cell? ⟨g, t * 2, none⟩ = some (.int .i64 x1) := (hent3.out.cellAt (t * 2) (by omega)).trans y0
          have k1 : wr.cell? ⟨g, t * 2 + 1, none⟩ = some (.int .i64 x2) := (hent3.out.cellAt (t * 2 + 1) (by omega)).trans y1
          have HX : Hid (kt ++ [x1] = ks ++ (l.take (t + 1)).map Prod.fst) := by rw [Hid, hkt.out, List.take_add_one, hx]; simp
          have hgl : g < wr.heap.size := (hent3.out.lt g rfl).2
          have HL1 : Hid (w1.heap.size ≤ wr.heap.size) := ht3.out.size
          obtain ⟨M, hM⟩ : ∃ M, kt.length = M := ⟨_, rfl⟩
          have hM64 : M ≤ 66 := by have := hktl.out; omega
          rw [hM] at hrow3 ⊢
          have HM : Hid (kt.length = M) := hM
          clear y0 y1 hx hM
          go_wp2_with (first
            | (at_builtin; refine wpList_append_own _ rfl _ _ 35 rfl w1.heap.size 3 i0 (.int .i64 0) 1 8 Try.underlying35 hi0 hz0 hz1 hz2 rfl (by decide) (.slice ka3 M kc3) M (intC kt) rfl ?own ⟨wr.heap.size + 1, 0, none⟩ 1 1 [.int .i64 x1] rfl rfl ?news ?one ?b1 ?b2 ?b3 ?_
               case own => exact (hrow3.out.alloc _).alloc _
               case news => exact new1 _ _ x1
               case one => (intro u hu; simp at hu; subst hu; rfl)
               case b1 => (unfold maxLen; omega)
               case b2 => omega
               case b3 => (have := HL1.out; simp; omega)
               intro v' w4 hown hgrow hnil
               obtain ⟨va4, vn4, rfl⟩ := ownv hown
               have O4 : Hid (w4.ownsRow w1.heap.size 3 1 (.slice va4 (M + 1) vn4) (M + 1) (intC (kt ++ [x1]))) := (by rw [Hid, intC_app]; exact hown)
               have T4 : Hid (Tch (fun _ => False) w1 w4) := ((ht3.out.alloc _).alloc _).grown hgrow (fun k hk => .inr (hrow3.out.lt k hk).1)
               have E4 : Hid (w4.ownsRow N 75 2 (.slice (some ⟨g, 0, none⟩) K vc) K (flatD l)) := ((hent3.out.alloc _).alloc _).kept hgrow (.inr (fun e => by have h1 := (hrow3.out.lt g (by rw [← e]; rfl)).1; have h2 := HG.out g rfl; omega))
               clear hown hgrow hnil))
          go_roundw
          case rel => exact ⟨t + 1, kt ++ [x1], by go_num, by omega, HX, by have := HM.out; have := hktl.out; simp [Hid]; omega, by rw [List.length_append, HM.out]; exact O4, T4, E4⟩
          case measure => simp [intOf]; omega
        · obtain rfl : t = K := by omega
          have HW : Hid (kt = ksL (ss.take (i + 1))) := by rw [Hid, HV.out, hkt.out, List.take_of_length_le (by rw [HK.out]; exact Nat.le_refl _)]
          clear hkt
          go_wp2
          go_roundw
          case rel => exact ⟨i + 1, kt, by go_num, by omega, HW, hrow3, ht3⟩
          case measure => simp [intOf]; omega
    · obtain rfl : i = n := by omega
      have HKK : Hid (ks = ksL ss) := by rw [Hid, hks.out, List.take_of_length_le (by rw [HN.out]; exact Nat.le_refl _)]
      clear hks
      go_wp2
      have S2 := S1.out.tch ht.out
      refine leaves_cons (f := 51) (args := #[.pointer (some ⟨q, 0, none⟩)]) (by simp) (by simp [go_sem]) ?_
      refine (Go.MuLone.unlock_deferred Try.muLib ⟨q, 0, none⟩ .returning _ S2.qc.1 (S2.qc.2.2 0)).mono ?_
      rintro e u' w'' ⟨rfl, rfl, rfl⟩
      refine ⟨_, results_tmp rfl _ _ _, .slice ka ks.length kc, rfl, ?_, ⟨_, S2.lock 0⟩, (T1.out.trans (Tch.mono ht.out (fun _ _ x => x.elim))).trans (S2.tkq 0 _)⟩
      rw [← HKK.out, ← HZ.out]
      refine own_keep hrow.out (fun g hg => Below.heap_setCell _ _ _ _ ?_)
      have := (hrow.out.lt g hg).1
      have := HZ.out
      simp; omega
end Go.Proofs.Ytdjmjdlolhfejaa
