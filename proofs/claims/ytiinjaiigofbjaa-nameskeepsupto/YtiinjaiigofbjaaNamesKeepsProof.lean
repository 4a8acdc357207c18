/-
  For every text and list of texts of bulk at most 1048576 together, the Go function arbiterlaw01.NamesKeeps returns true: names.Join leaves the list that is handed in as it was, spare room included, and names.Parts answers new memory each time.
  The statement is 'Rows.NamesKeepsUptoSaid': arguments so great that a list of parts passes the memory's end are left out.
-/
import Derived.Test.YtiinjaiigofbjaaRows
import Derived.Test.YtiinjaiigofbjaaApart
import Derived.Test.YtiinjaiigofbjaaArgs
import Derived.WalkKit
import Derived.ProofKit
import Derived.OpenShut
import Derived.ShutString
import Derived.Carry
import Derived.JoinedCond
import Derived.SliceStrings
import Derived.Laws.AppendOwnNone
namespace Go.Proofs.Ytiinjaiigofbjaa
open Go.ChangeShapes Go.WideShapes Go.ChangeAt Go.RowKit
open Go.ChangeMaps (open_string shut_string)

theorem Below.onto {w w1 w2 : World} (h1 : Below w.heap.size w w1) (h2 : Below w1.heap.size w1 w2) : Below w.heap.size w w2 := h1.trans (h2.mono h1.size)

theorem own_base {w : World} {B base : Nat} {e : TypeId} {size : Nat} {v : Value} {n : Nat} {xs : List Value} (h : w.ownsRow base e size v n xs) (hB : B ≤ base) : w.ownsRow B e size v n xs := by
  refine ⟨h.1, ?_⟩
  rcases h.2 with hn | ⟨g, cap, cur, rfl, hb, r⟩
  · exact .inl hn
  · exact .inr ⟨g, cap, cur, rfl, Nat.le_trans hB hb, r⟩

set_option maxHeartbeats 400000 in
theorem same_nil (ao bo : Option Addr) (c1 c2 : Nat) (w : World) :
    Calls Try.prog 17 #[.slice ao 0 c1, .slice bo 0 c2] w fun e w' => e = .returned (.bool true) ∧ w' = w := by
  go_enter Try.func17, Try.ntmps17
  go_wp2
  go_loop [5] (fun i => i = .int .i64 0) (fun _ => 0)
  case atStart => rfl
  case round =>
    subst hrel
    go_wp2
    go_ret
    exact ⟨rfl, rfl⟩

theorem same_self (v1 v2 : Value) (ps : List (List UInt8)) (w : World) (h1 : IsStrs w v1 ps) (h2 : IsStrs w v2 ps) :
    Calls Try.prog 17 #[v1, v2] w fun e w' => e = .returned (.bool true) ∧ ∃ n, w' = w.drewN n := by
  by_cases hne : ps = []
  · subst hne
    obtain ⟨ao, c1, rfl, _⟩ := h1
    obtain ⟨bo, c2, rfl, _⟩ := h2
    exact (same_nil ao bo c1 c2 w).mono fun e w' ⟨he, hw⟩ => ⟨he, 0, hw⟩
  · have := same_any v1 v2 ps ps w h1 h2 hne hne
    simpa using this

/-- the two lists that Parts answered, as TextsApart takes them -/
theorem apart_two (B : Nat) (w w1 w2 : World) (v1 v2 : Value) (ps : List (List UInt8)) (hps : ps ≠ []) (hlen : ps.length ≤ 2097152) (hB : B ≤ w.heap.size)
    (ho1 : w1.ownsRow w.heap.size 9 1 v1 ps.length (ps.map strV)) (hb1 : Below w.heap.size w w1) (ho2 : w2.ownsRow w1.heap.size 9 1 v2 ps.length (ps.map strV)) (hb2 : Below w1.heap.size w1 w2) :
    Calls Try.prog 24 #[.slice (some ⟨w2.heap.size, 0, none⟩) 2 2] (w2.alloc (.cells #[v1, v2] 22)) fun e w' => e = .returned (.bool true) ∧ Below B (w2.alloc (.cells #[v1, v2] 22)) w' := by
  obtain ⟨g1, c1, rfl, hg1, hl1, hc1, hm1, _⟩ := own_shape ho1 hps
  obtain ⟨g2, c2, rfl, hg2, hl2, hc2, hm2, _⟩ := own_shape ho2 hps
  have o1 := own_below (own_below ho1 hb2 (Nat.le_refl _)) ((Below.refl w2.heap.size w2).alloc (Nat.le_refl _) (.cells #[.slice (some ⟨g1, 0, none⟩) ps.length c1, .slice (some ⟨g2, 0, none⟩) ps.length c2] 22)) (Nat.le_refl _)
  have o2 := own_below ho2 ((Below.refl w2.heap.size w2).alloc (Nat.le_refl _) (.cells #[.slice (some ⟨g1, 0, none⟩) ps.length c1, .slice (some ⟨g2, 0, none⟩) ps.length c2] 22)) (Nat.le_refl _)
  have s12 := hb2.size
  have s01 := hb1.size
  refine apart_any w2.heap.size 2 B (fun t => if t = 0 then g1 else g2) (fun t => if t = 0 then c1 else c2) (fun _ => ps.length) _ (fun _ => ps.map strV) (by omega) (by simp; omega) ⟨fun t ht => ?_, fun t ht => ?_⟩ (fun t u ht hu e => ?_) (fun t ht => ?_) (fun t _ => hlen)
  · match t, ht with
    | 0, _ => exact own_base o1 hB
    | 1, _ => exact own_base o2 (by omega)
  · match t, ht with
    | 0, _ => rw [cell_of_row _ w2.heap.size 0 _ 22 (0, 0) (heap_alloc_new w2 _)]; rfl
    | 1, _ => rw [cell_of_row _ w2.heap.size 1 _ 22 (0, 0) (heap_alloc_new w2 _)]; rfl
  · match t, ht, u, hu with
    | 0, _, 0, _ => rfl
    | 1, _, 1, _ => rfl
    | 0, _, 1, _ => simp at e; omega
    | 1, _, 0, _ => simp at e; omega
  · match t, ht with
    | 0, _ => simp; omega
    | 1, _ => simp; omega

/-- what is known of the copy with two texts behind it -/
theorem whole_view {w3 : World} {B : Nat} {v2 : Value} {ps : List (List UInt8)} (ho : w3.ownsRow B 9 1 v2 (ps.length + 2) (ps.map strV ++ [.string ⟨#[35, 55, 49]⟩, .string ⟨#[35, 55, 50]⟩])) :
    ∃ g cap, v2 = .slice (some ⟨g, 0, none⟩) (ps.length + 2) cap ∧ ps.length + 2 ≤ cap ∧ cap ≤ maxLen ∧ g < w3.heap.size ∧ IsStrs w3 (.slice (some ⟨g, 0, none⟩) ps.length cap) ps ∧
      w3.cell? ⟨g, ps.length, none⟩ = some (.string ⟨#[35, 55, 49]⟩) ∧ w3.cell? ⟨g, ps.length + 1, none⟩ = some (.string ⟨#[35, 55, 50]⟩) := by
  have ho' := ho
  rcases ho.2 with ⟨_, h0⟩ | ⟨g, cap, cur, rfl, hb, hg, hn, hm, _, _⟩
  · omega
  · have hl : (ps.map strV).length = ps.length := by simp
    refine ⟨g, cap, rfl, hn, hm, (Array.getElem?_eq_some_iff.1 hg).1, ⟨_, cap, rfl, by omega, hm, fun _ => ⟨g, 0, rfl, (Array.getElem?_eq_some_iff.1 hg).1, fun k p hk => ?_⟩⟩, ?_, ?_⟩
    · have hlt : k < ps.length := (List.getElem?_eq_some_iff.1 hk).1
      rw [Nat.zero_add, ho'.cellAt k (by omega), List.getElem?_append_left (by omega), List.getElem?_map, hk]; rfl
    · rw [ho'.cellAt _ (by omega), List.getElem?_append_right (by omega), hl, Nat.sub_self]; rfl
    · rw [ho'.cellAt _ (by omega), List.getElem?_append_right (by omega), hl, Nat.add_sub_cancel_left]; rfl

set_option maxHeartbeats 4000000 in
theorem namesKeeps_some (a : ByteArray) (ad : Addr) (cap : Nat) (ps : List (List UInt8)) (w : World) (ha : a.size ≤ 1048576) (hv : IsStrs w (.slice (some ad) ps.length cap) ps) (hlt : ps ≠ [] → ad.block < w.heap.size) (hcell : ∀ j u, (ps.map strV)[j]? = some u → w.cell? (ad.add j) = some u) (hn : ps.length ≤ 1048576) (hp : ∀ p ∈ ps, p.length ≤ 1048576) :
    Calls Try.prog 7 #[.string a, .slice (some ad) ps.length cap] w fun e w' => e = .returned (.bool true) ∧ Below w.heap.size w w' := by
  obtain ⟨i0, hi, hz0, hz1, hz2⟩ := info_parts Try.info9
  have hb : Below w.heap.size w w := Below.refl _ _
  have HA : Hid (∀ w, _) := awake_any
  have HP : Hid (∀ w, _) := parts_any a (by omega)
  have HPr : Hid (∀ w, _) := rParts_any a (by omega)
  have hpl := partsL_length a.data.toList
  have HNe : Hid _ := partsL_ne a.data.toList
  have hal : a.data.toList.length = a.size := by simp
  have HAp : Hid _ := fun B w w1 w2 v1 v2 => apart_two B w w1 w2 v1 v2 (partsL a.data.toList) (partsL_ne _) (by omega)
  have HJ : Hid (∀ v w, IsStrs w v ps → Calls Try.prog 22 #[v] w fun e w' => e = .returned (.tuple #[.string ⟨(joinS ps).toArray⟩, .int .i64 (joinE ps)]) ∧ Below w.heap.size w w') :=
    fun v w h => join_any v ps w h (by omega) (fun p q => by have := hp p q; omega)
  have HJr : Hid (∀ v w, IsStrs w v ps → Calls Try.prog 23 #[v] w fun e w' => e = .returned (.tuple #[.string ⟨(joinS ps).toArray⟩, .int .i64 (joinE ps)]) ∧ w' = w) :=
    fun v w h => rJoin_any v ps w h (fun p q => by have := hp p q; omega)
  have HI : Hid _ := hv
  have HCL : Hid (∀ w2 : World, Below w.heap.size w w2 → ∀ j u, (ps.map strV)[j]? = some u → w2.cell? (ad.add j) = some u) := fun w2 hb j u hj => by
    have hne : ps ≠ [] := fun e => by rw [e] at hj; simp at hj
    have hbk : (ad.add j).block < w.heap.size := by
      have := hlt hne
      unfold Addr.add; split <;> simpa using this
    exact (hb.cell hbk).trans (hcell j u hj)
  clear hp hv hlt hcell hpl hal
  generalize partsL a.data.toList = qs at *
  go_enter Try.func7, Try.ntmps7
  go_wp2_with (first
    | (go_at_call 8; refine ((HA.out) _).mono ?_; rintro e w2 ⟨rfl, hb2⟩; replace hb := Below.onto hb hb2; clear hb2)
    | (at_builtin; refine wpList_append_own _ rfl (.tmp 12) (.tmp 13) 22 rfl w.heap.size 9 i0 (.string ⟨#[]⟩) 1 16 Try.underlying22 hi hz0 hz1 hz2 rfl (by decide) _ 0 [] rfl (World.ownsRow_made _ #[] 0 hb.size (Nat.zero_le _) rfl) ad ps.length cap (ps.map strV) rfl (by simp) ?c1 ?c2 ?c3 ?c4 ?c5 ?_))
  case c1 => exact HCL.out _ (hb.alloc hb.size _)
  case c2 =>
    intro u hu
    obtain ⟨p, _, rfl⟩ := List.mem_map.1 hu
    rfl
  case c3 => unfold maxLen; omega
  case c4 => omega
  case c5 => have := hb.size; simp; omega
  intro v3 w3 hown3 hgrow _
  have hb3 : Below w.heap.size w w3 := (hb.alloc hb.size _).grown hgrow (by have := hb.size; simp; omega) (fun k hk => by have := hb.size; simp [Value.ownBlock] at hk; omega)
  clear hgrow HCL hb
  go_wp2_with (at_builtin; refine wpList_append_own _ rfl (.tmp 14) (.tmp 15) 22 rfl w.heap.size 9 i0 (.string ⟨#[]⟩) 1 16 Try.underlying22 hi hz0 hz1 hz2 rfl (by decide) _ ps.length (ps.map strV) rfl (hown3.alloc _) ⟨w3.heap.size, 0, none⟩ 2 2 [.string ⟨#[35, 55, 49]⟩, .string ⟨#[35, 55, 50]⟩] rfl rfl ?d1 ?d2 ?d3 ?d4 ?d5 ?_)
  case d1 =>
    intro j u hj
    match j, hj with
    | 0, hj => simp at hj; subst hj; rw [Addr.add_lit, cell_of_row _ w3.heap.size 0 _ 9 (0, 0) (heap_alloc_new w3 _)]; rfl
    | 1, hj => simp at hj; subst hj; rw [Addr.add_lit, cell_of_row _ w3.heap.size 1 _ 9 (0, 0) (heap_alloc_new w3 _)]; rfl
  case d2 =>
    intro u hu
    simp at hu
    rcases hu with rfl | rfl <;> rfl
  case d3 => unfold maxLen; omega
  case d4 => omega
  case d5 => have := hb3.size; simp; omega
  intro v4 w4 hown4 hgrow4 _
  have hb4 : Below w.heap.size w w4 := (hb3.alloc hb3.size _).grown hgrow4 (by have := hb3.size; simp; omega) (fun k hk => (hown3.lt k hk).1)
  obtain ⟨g, cp, rfl, hcp, hcm, hgl, hI4, hc1, hc2⟩ := whole_view hown4
  have H4 : Hid _ := hI4
  have H1 : Hid _ := hc1
  have H2 : Hid _ := hc2
  clear hgrow4 hown4 hown3 hb3 hI4 hc1 hc2
  unfold maxLen at hcm
  go_wp2_with fail
  refine (HJ.out _ _ H4.out).mono ?_
  rintro e w5 ⟨rfl, hb5⟩
  have H5 : Hid (IsStrs w5 (.slice (some ⟨g, 0, none⟩) ps.length cp) ps) := IsStrs.keep H4.out hb5
  have e1 := (hb5.cell (p := ⟨g, ps.length, none⟩) hgl).trans H1.out
  have e2 := (hb5.cell (p := ⟨g, ps.length + 1, none⟩) hgl).trans H2.out
  replace hb4 := Below.onto hb4 hb5
  clear hb5 H4 H1 H2 hgl
  go_wp2_with fail
  refine (HJr.out _ _ (IsStrs.keep HI.out hb4)).mono ?_
  rintro e w' ⟨rfl, rfl⟩
  go_wp2_with fail
  refine (same_self _ _ ps _ H5.out (IsStrs.keep HI.out hb4)).mono ?_
  rintro e w6 ⟨rfl, nq, rfl⟩
  replace hb4 := below_drewN hb4 nq
  clear H5 HJ HJr
  go_wp2_with fail
  clear e1 e2
  refine (HP.out _).mono ?_
  rintro e w7 ⟨v7, rfl, ho7, hb7⟩
  obtain ⟨g7, c7, rfl, _⟩ := own_shape ho7 HNe.out
  have O7 : Hid _ := ho7
  clear ho7
  go_wp2_with fail
  refine (HP.out _).mono ?_
  rintro e w8 ⟨v8, rfl, ho8, hb8⟩
  obtain ⟨g8, c8, rfl, _⟩ := own_shape ho8 HNe.out
  have O8 : Hid _ := ho8
  clear ho8
  go_wp2_with fail
  refine (HAp.out w.heap.size _ w7 w8 _ _ hb4.size O7.out hb7 O8.out hb8).mono ?_
  rintro e w9 ⟨rfl, hb9⟩
  have hbX : Below w.heap.size w w9 := ((Below.onto (Below.onto hb4 hb7) hb8).alloc (Below.onto (Below.onto hb4 hb7) hb8).size _).trans hb9
  clear hb9 hb8 hb7 hb4 O7 O8
  go_wp2_with fail
  refine (HP.out _).mono ?_
  rintro e w10 ⟨v10, rfl, ho10, hb10⟩
  have O10 : Hid _ := ho10
  clear ho10
  go_wp2_with fail
  refine (HPr.out _).mono ?_
  rintro e w11 ⟨v11, rfl, ho11, hb11⟩
  have O11 : Hid _ := ho11
  clear ho11
  go_wp2_with fail
  refine (same_self _ _ qs _ (IsStrs.keep (own_strs O10.out) hb11) (own_strs O11.out)).mono ?_
  rintro e w12 ⟨rfl, nr, rfl⟩
  go_wp2
  go_ret
  exact ⟨rfl, below_drewN (Below.onto (Below.onto hbX hb10) hb11) _⟩

set_option maxHeartbeats 4000000 in
theorem namesKeeps_none (a : ByteArray) (w : World) (ha : a.size ≤ 1048576) :
    Calls Try.prog 7 #[.string a, .slice none 0 0] w fun e w' => e = .returned (.bool true) ∧ Below w.heap.size w w' := by
  have hv : ∀ w, IsStrs w (.slice none 0 0) [] := fun _ => ⟨none, 0, rfl, Nat.le_refl _, Nat.zero_le _, fun h => absurd rfl h⟩
  obtain ⟨i0, hi, hz0, hz1, hz2⟩ := info_parts Try.info9
  have hb : Below w.heap.size w w := Below.refl _ _
  have HA : Hid (∀ w, _) := awake_any
  have HP : Hid (∀ w, _) := parts_any a (by omega)
  have HPr : Hid (∀ w, _) := rParts_any a (by omega)
  have hpl := partsL_length a.data.toList
  have HNe : Hid _ := partsL_ne a.data.toList
  have hal : a.data.toList.length = a.size := by simp
  have HAp : Hid _ := fun B w w1 w2 v1 v2 => apart_two B w w1 w2 v1 v2 (partsL a.data.toList) (partsL_ne _) (by omega)
  have HJ : Hid (∀ v w, IsStrs w v [] → Calls Try.prog 22 #[v] w fun e w' => e = .returned (.tuple #[.string ⟨(joinS []).toArray⟩, .int .i64 (joinE [])]) ∧ Below w.heap.size w w') :=
    fun v w h => join_any v [] w h (by simp) (by simp)
  have HJr : Hid (∀ v w, IsStrs w v [] → Calls Try.prog 23 #[v] w fun e w' => e = .returned (.tuple #[.string ⟨(joinS []).toArray⟩, .int .i64 (joinE [])]) ∧ w' = w) :=
    fun v w h => rJoin_any v [] w h (by simp)
  have HI : Hid (∀ w, _) := hv
  clear hv hpl hal
  generalize partsL a.data.toList = qs at *
  go_enter Try.func7, Try.ntmps7
  go_wp2_with (first
    | (go_at_call 8; refine ((HA.out) _).mono ?_; rintro e w2 ⟨rfl, hb2⟩; replace hb := Below.onto hb hb2; clear hb2)
    | (at_builtin; refine wpList_append_own_none rfl (.tmp 12) (.tmp 13) 22 rfl w.heap.size 9 i0 1 Try.underlying22 hi _ 0 [] rfl (World.ownsRow_made _ #[] 0 hb.size (Nat.zero_le _) rfl) rfl ?_; have O3 : Hid ((w2.alloc (.cells #[] 9)).ownsRow w.heap.size 9 1 (.slice (some ⟨w2.heap.size, 0, none⟩) 0 0) 0 []) := World.ownsRow_made (size := 1) (e := 9) w2 #[] 0 hb.size (Nat.zero_le _) rfl; have s2 := hb.size; have hb3 := Below.alloc hb hb.size (.cells #[] 9); clear hb)
    | (at_builtin; refine wpList_append_own _ rfl (.tmp 14) (.tmp 15) 22 rfl w.heap.size 9 i0 (.string ⟨#[]⟩) 1 16 Try.underlying22 hi hz0 hz1 hz2 rfl (by decide) _ 0 [] rfl (World.ownsRow.alloc O3.out _) ⟨w2.heap.size + 1, 0, none⟩ 2 2 [.string ⟨#[35, 55, 49]⟩, .string ⟨#[35, 55, 50]⟩] rfl rfl ?d1 ?d2 ?d3 ?d4 ?d5 ?_))
  case d1 =>
    intro j u hj
    have hsz : w2.heap.size + 1 = (w2.alloc (.cells #[] 9)).heap.size := by simp
    rw [hsz]
    match j, hj with
    | 0, hj => simp only [List.getElem?_cons_zero, Option.some.injEq] at hj; subst hj; rw [Addr.add_lit, cell_of_row _ (w2.alloc (.cells #[] 9)).heap.size 0 _ 9 (0, 0) (heap_alloc_new (w2.alloc (.cells #[] 9)) _)]; rfl
    | 1, hj => simp only [List.getElem?_cons_succ, List.getElem?_cons_zero, Option.some.injEq] at hj; subst hj; rw [Addr.add_lit, cell_of_row _ (w2.alloc (.cells #[] 9)).heap.size 1 _ 9 (0, 0) (heap_alloc_new (w2.alloc (.cells #[] 9)) _)]; rfl
  case d2 =>
    intro u hu
    simp at hu
    rcases hu with rfl | rfl <;> rfl
  case d4 => omega
  case d3 => unfold maxLen; omega
  case d5 => simp; omega
  intro v4 w4 hown4 hgrow4 _
  have hb4 : Below w.heap.size w w4 := (hb3.alloc hb3.size _).grown hgrow4 (by simp; omega) (fun k hk => (World.ownsRow.lt O3.out k hk).1)
  obtain ⟨g, cp, rfl, hcp, hcm, hgl, hI4, hc1, hc2⟩ := whole_view (ps := []) hown4
  have H4 : Hid _ := hI4
  have H1 : Hid _ := hc1
  have H2 : Hid _ := hc2
  clear hgrow4 hown4 O3 hb3 hI4 hc1 hc2
  simp only [List.length_nil, Nat.zero_add] at *
  unfold maxLen at hcm
  go_wp2_with fail
  refine (HJ.out _ _ H4.out).mono ?_
  rintro e w5 ⟨rfl, hb5⟩
  have H5 : Hid (IsStrs w5 (.slice (some ⟨g, 0, none⟩) 0 cp) []) := IsStrs.keep H4.out hb5
  have e1 := (hb5.cell (p := ⟨g, 0, none⟩) hgl).trans H1.out
  have e2 := (hb5.cell (p := ⟨g, 0 + 1, none⟩) hgl).trans H2.out
  replace hb4 := Below.onto hb4 hb5
  clear hb5 H4 H1 H2 hgl
  go_wp2_with fail
  refine (HJr.out _ _ (HI.out _)).mono ?_
  rintro e w' ⟨rfl, rfl⟩
  go_wp2_with fail
  refine (same_self _ _ [] _ H5.out (HI.out _)).mono ?_
  rintro e w6 ⟨rfl, nq, rfl⟩
  replace hb4 := below_drewN hb4 nq
  clear H5 HJ HJr
  go_wp2_with fail
  clear e1 e2
  refine (HP.out _).mono ?_
  rintro e w7 ⟨v7, rfl, ho7, hb7⟩
  obtain ⟨g7, c7, rfl, _⟩ := own_shape ho7 HNe.out
  have O7 : Hid _ := ho7
  clear ho7
  go_wp2_with fail
  refine (HP.out _).mono ?_
  rintro e w8 ⟨v8, rfl, ho8, hb8⟩
  obtain ⟨g8, c8, rfl, _⟩ := own_shape ho8 HNe.out
  have O8 : Hid _ := ho8
  clear ho8
  go_wp2_with fail
  refine (HAp.out w.heap.size _ w7 w8 _ _ hb4.size O7.out hb7 O8.out hb8).mono ?_
  rintro e w9 ⟨rfl, hb9⟩
  have hbX : Below w.heap.size w w9 := ((Below.onto (Below.onto hb4 hb7) hb8).alloc (Below.onto (Below.onto hb4 hb7) hb8).size _).trans hb9
  clear hb9 hb8 hb7 hb4 O7 O8
  go_wp2_with fail
  refine (HP.out _).mono ?_
  rintro e w10 ⟨v10, rfl, ho10, hb10⟩
  have O10 : Hid _ := ho10
  clear ho10
  go_wp2_with fail
  refine (HPr.out _).mono ?_
  rintro e w11 ⟨v11, rfl, ho11, hb11⟩
  have O11 : Hid _ := ho11
  clear ho11
  go_wp2_with fail
  refine (same_self _ _ qs _ (IsStrs.keep (own_strs O10.out) hb11) (own_strs O11.out)).mono ?_
  rintro e w12 ⟨rfl, nr, rfl⟩
  go_wp2
  go_ret
  exact ⟨rfl, below_drewN (Below.onto (Below.onto hbX hb10) hb11) _⟩

theorem namesKeeps_own : ownKnob Try.prog.godebug = none := by kernel_rfl
theorem namesKeeps_laidOut : laidOutB Try.prog = true := by kernel_rfl

theorem short_namesKeeps {H : Type} {a0 : ByteArray} {d : DataW H} (hk : Rows.uptoSmall H [.lit (.string a0.data.toList), d] = true) : a0.size ≤ 1048576 ∧ Rows.uptoBulk d ≤ 1048576 := by
  have h : Rows.uptoBulkAll (H := H) [.lit (.string a0.data.toList), d] ≤ 1048576 := of_decide_eq_true hk
  simp only [Rows.uptoBulkAll, Rows.uptoBulk] at h
  have e0 : a0.data.toList.length = a0.size := by rw [Array.length_toList]; rfl
  omega

set_option linter.unusedVariables false in
theorem namesKeeps_contract (H : Type) (enc : TypeId × Value → H) (W : World) (base : Nat) (args : Array Value) (ds gs : List (DataW H)) (before : List MemPlace)
    (hval : ∀ (j : Nat) t v, Try.f7.params[j]? = some t → args[j]? = some v → Value.okWide Try.prog W .any base t v)
    (hW : DataW.Whole enc Try.prog Try.f7.params.toList Rows.namesKeepsSpec.vars false W args.toList ds gs before) (hk : Rows.uptoSmall H (ds ++ gs) = true) :
    Calls Try.prog 7 args W fun e W' => ∃ v, e = .returned v ∧ Rows.namesKeepsSpec.post enc Try.prog Try.f7 false true false false W args v W' := by
  have hW' := hW
  obtain ⟨p, q, hA0, hV, rfl, hfz, hnd⟩ := hW
  have hA : DataW.TrodAll enc Try.prog W 0 (fun _ => true) true Try.f7.params.toList args.toList ds p := hA0
  rw [Try.params7] at hA hval
  obtain ⟨v0, vs0, d0, ds0, p0, q0, hargs, rfl, rfl, h0, r0⟩ := trodAll_cons hA
  obtain ⟨v1, vs1, d1, ds1, p1, q1, rfl, rfl, rfl, h1, r1⟩ := trodAll_cons r0
  obtain ⟨rfl, rfl, rfl⟩ := trodAll_nil r1
  obtain rfl : args = #[v0, v1] := by cases args; simp_all
  obtain ⟨rfl, rfl⟩ := trodVars_none hV
  obtain ⟨a0, rfl, rfl, rfl, m0⟩ := open_string Try.underlying9 (hval 0 9 v0 rfl rfl) h0
  obtain ⟨x0, len0, cap0, rfl⟩ := okWide_slice Try.underlying22 (hval 1 22 v1 rfl rfl)
  have k0 := h1
  have lt0 : ∀ x ∈ p1, x.block < W.heap.size := by obtain ⟨m, hm⟩ := k0; exact DataW.trod_lt m _ _ _ hm
  clear hA0
  simp only [List.append_nil] at hW' hk
  have hz := short_namesKeeps hk
  have hcall : Calls Try.prog 7 #[.string a0, .slice x0 len0 cap0] W fun e W' => e = .returned (.bool true) ∧ Below W.heap.size W W' := by
    rcases read_strs k0 with ⟨rfl, rfl, rfl, rfl⟩ | ⟨ad, ps, sp, rfl, rfl, hI, hlt, hcell, rfl⟩
    · exact namesKeeps_none a0 W hz.1
    · have hb := hz.2
      have hb2 : Rows.uptoBulkAll (ps.map (litT (H := H))) + 1 ≤ Rows.uptoBulk (DataW.slice (ps.map (litT (H := H))) sp) := by simp only [Rows.uptoBulk]; omega
      have hb3 := bulk_lits (H := H) ps
      exact namesKeeps_some a0 ad cap0 ps W hz.1 hI hlt hcell (by omega) (fun p hp => by have := hb3.2 p hp; omega)
  refine hcall.mono fun e W' ⟨he, bel⟩ => ?_
  subst he
  exact ⟨_, rfl, _, _, _, [], _, [], hW', trodAll_mk1 (shut_bool Try.underlying4 _), (trodAll_cons_mk (shut_string Try.underlying9 m0) (trodAll_cons_mk (Below.trod namesKeeps_laidOut (by kernel_rfl) (of_decide_eq_true (by kernel_rfl)) k0 bel lt0) trodAll_mk0)), rfl, bel.frame _, fun h => by cases h⟩

set_option maxRecDepth 100000 in
theorem namesKeeps_lifted (os : Os) (started : os.Started) (H : Type) (enc : TypeId × Value → H) (F : Stop.Interp) :
    ReturnsInHanded {} Try.checked os 7 .any ((Rows.OpenSpec.upto Rows.namesKeepsSpec).pre6 enc Try.prog Try.f7 Rows.namesKeepsUptoRow.domain false) (((Rows.OpenSpec.upto Rows.namesKeepsSpec).at F).post enc Try.prog Try.f7 false true false false) := by
  refine returnsInHanded_of_cond (C := Try.checked) (s := Rows.OpenSpec.upto Rows.namesKeepsSpec) (k := Rows.uptoSmall) rfl namesKeeps_own started (by kernel_rfl) Try.func7
    (OpenSpec.witness (enc := enc) (C := Try.checked) (s := Rows.OpenSpec.upto Rows.namesKeepsSpec) (k := Rows.uptoSmall) rfl false ⟨#[], #[.string .empty, .slice none 0 0], []⟩ 8 (by kernel_rfl) (by kernel_rfl) (by kernel_rfl)
      (x := ([.lit (.string []), .nil], [], [])) (by kernel_rfl) rfl (by kernel_rfl)) ?_
  intro W base args ds gs before hval hW _ hk _
  exact namesKeeps_contract H enc W base args ds gs before hval hW hk

/-- THE STATEMENT -/
theorem namesKeeps_holds : Rows.NamesKeepsUptoSaid :=
  OpenClaim.holds_of_cond 7 Try.f7 rfl rfl rfl rfl rfl rfl rfl ⟨rfl, rfl, rfl, rfl, rfl⟩ rfl rfl rfl rfl rfl (by kernel_rfl) Try.func7 (by kernel_rfl)
    (of_decide_eq_true (by kernel_rfl)) (by unfold Func.isWrapper; first | (rw [if_pos (by decide +kernel)]; kernel_rfl) | (rw [if_neg (by decide +kernel)]; exact ⟨rfl, rfl⟩))
    (fun os started H enc _ F => namesKeeps_lifted os started H enc F)
#print axioms namesKeeps_holds

end Go.Proofs.Ytiinjaiigofbjaa
