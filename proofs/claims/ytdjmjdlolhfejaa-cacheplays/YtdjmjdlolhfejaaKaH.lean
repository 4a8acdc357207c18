/- find and put of a set. -/
import Derived.Test.YtdjmjdlolhfejaaKaG
namespace Go.Proofs.Ytdjmjdlolhfejaa
open Go.RowKit Go.Maps

theorem tkM_len {key : Int} : ∀ {l l' : List (Int × Int)} {x : Int × Int}, tkM key l = some (x, l') → l.length = l'.length + 1
  | [], _, _, h => by simp [tkM] at h
  | y :: r, l', x, h => by
    cases e : y.1 == key
    · simp only [tkM, e, Bool.false_eq_true, if_false, Option.map_eq_some_iff] at h
      obtain ⟨⟨p, q⟩, h1, h2⟩ := h
      simp at h2
      obtain ⟨rfl, rfl⟩ := h2
      simp [tkM_len h1]
    · simp [tkM, e] at h
      obtain ⟨rfl, rfl⟩ := h
      rfl
/-- find of a set: the value, is it there, and the entries behind -/
def fdS (key : Int) (l : List (Int × Int)) : Int × Bool × List (Int × Int) := match tkM key l with
  | none => (0, false, l)
  | some (x, l') => (x.2, true, x :: l')
/-- the entries without a key's -/
def rmS (key : Int) (l : List (Int × Int)) : List (Int × Int) := match tkM key l with
  | none => l
  | some p => p.2
/-- put into a set that has room for so many: the entry that is dropped, is one dropped, and the entries behind -/
def ptS (room : Nat) (x : Int × Int) (l : List (Int × Int)) : (Int × Int) × Bool × List (Int × Int) :=
  if (rmS x.1 l).length = room then
    match (rmS x.1 l)[room - 1]? with
    | none => ((0, 0), false, x :: rmS x.1 l)
    | some y => match tkM y.1 (rmS x.1 l) with
      | none => ((0, 0), false, x :: rmS x.1 l)
      | some p => (p.1, true, x :: p.2)
  else ((0, 0), false, x :: rmS x.1 l)
theorem ptS_room {room : Nat} {x : Int × Int} {l : List (Int × Int)} (h : (rmS x.1 l).length ≠ room) : ptS room x l = ((0, 0), false, x :: rmS x.1 l) := by rw [ptS, if_neg h]
theorem ptS_full {room : Nat} {x y z : Int × Int} {l l2 : List (Int × Int)} (h : (rmS x.1 l).length = room) (hy : (rmS x.1 l)[room - 1]? = some y) (hz : tkM y.1 (rmS x.1 l) = some (z, l2)) : ptS room x l = (z, true, x :: l2) := by
  rw [ptS, if_pos h, hy]
  simp only [hz]
theorem stp_same {W w : World} {N a o : Nat} {room : Int} {v : Value} {l : List (Int × Int)} (h : SetAt W N a o room v l) (ht : Tch (fun _ => False) W w) : Stp W w a o v v :=
  Stp.same ht (fun C hC => by obtain ⟨C', h1, _, h3⟩ := h.blk; rw [h1] at hC; cases hC; exact h3)
theorem stp_end {W w w2 : World} {a o : Nat} {v v' : Value} (h : Stp W w a o v v') (ha : a < W.heap.size) (k : Tch (fun _ => False) w w2) : Stp W w2 a o v v' := by
  refine ⟨h.tch.trans k (fun _ _ x => x.elim), fun C hC => ?_, h.new⟩
  have := h.arr C hC
  rw [k.blk a (Nat.lt_of_lt_of_le ha h.tch.size) (fun x => x)]; exact this
theorem SetAt.tch {W w : World} {N a o : Nat} {room : Int} {v : Value} {l : List (Int × Int)} (h : SetAt W N a o room v l) (ht : Tch (fun _ => False) W w) : SetAt w N a o room v l := by
  obtain ⟨C, h1, h2⟩ := h.blk
  exact ⟨h.na, ⟨C, (ht.blk a h.lt (fun x => x)).trans h1, h2⟩, own_keep h.row (fun g hg => ht.blk g (h.row.lt g hg).2 (fun x => x))⟩
/-- a block that is none of a set's stays behind a call of the set's -/
theorem Stp.far {W w : World} {N a o : Nat} {room : Int} {v v' : Value} {l : List (Int × Int)} (h : Stp W w a o v v') (_hs : SetAt W N a o room v l) {k : Nat} (hk : k < W.heap.size) (h1 : k ≠ a) (h2 : v.ownBlock ≠ some k) : w.heap[k]? = W.heap[k]? :=
  h.tch.blk k hk (fun x => by rcases x with x | x; exact h1 x; exact h2 x)
set_option maxRecDepth 100000 in
set_option maxHeartbeats 4000000 in
theorem fnd_c (N a o : Nat) (room : Int) (v : Value) (l : List (Int × Int)) (key : Int) (W : World) (h : SetAt W N a o room v l) (hl : l.length ≤ 2) (h1 : Roomy1 v) :
    Calls Try.prog 100 #[.pointer (some ⟨a, o, none⟩), .int .i64 key] W fun e w' => e = .returned (.tuple #[.int .i64 (fdS key l).1, .bool (fdS key l).2.1]) ∧ ∃ v', w'.ownsRow N 75 2 v' (fdS key l).2.2.length (flatD (fdS key l).2.2) ∧ Stp W w' a o v v' ∧ Roomy1 v' := by
  cases hk : tkM key l with
  | none =>
    have HT : Hid (Calls Try.prog 102 #[.pointer (some ⟨a, o, none⟩), .int .i64 key] W fun e w' => e = .returned (.tuple #[.agg #[.int .i64 0, .int .i64 0], .bool false]) ∧ Tch (fun _ => False) W w') := tk_none N a o room v l key W h hl hk
    have HS : Hid (SetAt W N a o room v l) := h
    simp only [fdS, hk]
    clear hk h
    go_enter Try.func100, Try.ntmps100
    go_wp2_with (go_at_call 102; refine HT.out.mono ?_; rintro e w2 ⟨rfl, hb⟩; have B2 : Hid (Tch (fun _ => False) W w2) := hb; clear hb HT)
    go_ret2
    refine ⟨rfl, v, ?_, stp_same HS.out ?_, h1⟩
    · refine own_keep HS.out.row (fun g hg => ?_)
      have := (HS.out.row.lt g hg).2
      exact (B2.out.alloc _).blk g this (fun x => x)
    · exact B2.out.alloc _
  | some p =>
    obtain ⟨⟨x1, x2⟩, l'⟩ := p
    have hlen := tkM_len hk
    have HT : Hid (Calls Try.prog 102 #[.pointer (some ⟨a, o, none⟩), .int .i64 key] W fun e w' => e = .returned (.tuple #[.agg #[.int .i64 x1, .int .i64 x2], .bool true]) ∧ ∃ v', w'.ownsRow N 75 2 v' l'.length (flatD l') ∧ Stp W w' a o v v' ∧ Roomy1 v') := tk_some N a o room v l l' x1 x2 key W h hl hk
    have HS : Hid (SetAt W N a o room v l) := h
    have HL : Hid (∀ (v : Value) (w : World), SetAt w N a o room v l' → Roomy1 v → Calls Try.prog 103 #[.pointer (some ⟨a, o, none⟩), .agg #[.int .i64 x1, .int .i64 x2]] w fun e w' => e = .returned (.tuple #[]) ∧ ∃ v', w'.ownsRow N 75 2 v' (l'.length + 1) (flatD ((x1, x2) :: l')) ∧ Stp w w' a o v v' ∧ Roomy1 v') := fun v w h hr => lead_c N a o room v l' x1 x2 w h (by omega) hr
    simp only [fdS, hk]
    clear hk h hlen
    go_enter Try.func100, Try.ntmps100
    go_wp2_with (first
      | (go_at_call 102; refine HT.out.mono ?_; rintro e w2 ⟨rfl, v2, hr2, hs2, hv2⟩; have S2 : Hid (Stp W w2 a o v v2) := hs2; have A2 : Hid (SetAt w2 N a o room v2 l') := hs2.set HS.out hr2; clear hr2 hs2 HT)
      | (go_at_call 103; refine (HL.out v2 _ (A2.out.tch ((Tch.refl _ w2).alloc _)) hv2).mono ?_; rintro e w3 ⟨rfl, v3, hr3, hs3, hv3⟩
         have d3 : w3.heap[w2.heap.size]? = some (.cells #[.int .i64 x1, .int .i64 x2] 75 (0, 0)) := (hs3.far (A2.out.tch ((Tch.refl _ w2).alloc _)) (by simp) (by have := A2.out.lt; omega) (fun e => by have := (A2.out.row.lt _ e).2; omega)).trans (halloc1 _ _)
         have q1 : w3.cell? ⟨w2.heap.size, 1, none⟩ = some (.int .i64 x2) := (cell_of_row w3 _ 1 _ _ _ d3).trans rfl
         have R3 : Hid (w3.ownsRow N 75 2 v3 (l'.length + 1) (flatD ((x1, x2) :: l'))) := hr3
         have S3 : Hid (Stp W w3 a o v v3) := (S2.out.trans (stp_same A2.out ((Tch.refl _ w2).alloc _))).trans hs3
         clear hr3 hs3 d3 S2 A2 HL))
    go_ret2
    exact ⟨rfl, v3, R3.out, S3.out, hv3⟩
theorem Stp.setNew {W w : World} {a o : Nat} {v v' : Value} (h : Stp W w a o v v') (ha : a < W.heap.size) {p : Addr} (hp : W.heap.size ≤ p.block) (u : Value) : Stp W (w.setCell p u) a o v v' := by
  refine ⟨h.tch.set (.inr hp) u, fun C hC => ?_, h.new⟩
  rw [Below.heap_setCell _ _ _ _ (by omega)]; exact h.arr C hC
theorem SetAt.setFar {W : World} {N a o : Nat} {room : Int} {v : Value} {l : List (Int × Int)} (h : SetAt W N a o room v l) {p : Addr} (h1 : p.block ≠ a) (h2 : v.ownBlock ≠ some p.block) (u : Value) : SetAt (W.setCell p u) N a o room v l := by
  obtain ⟨C, c1, c2⟩ := h.blk
  exact ⟨h.na, ⟨C, (Below.heap_setCell _ _ _ _ (fun e => h1 e.symm)).trans c1, c2⟩, own_keep h.row (fun g hg => Below.heap_setCell _ _ _ _ (fun e => h2 (by rw [hg, e])))⟩
/-- put, where there is room behind the key's old entry -/
theorem put_n (N a o : Nat) (room : Nat) (v : Value) (l l1 : List (Int × Int)) (e1 e2 : Int) (W : World) (h : SetAt W N a o room v l) (hne : l1.length ≠ room) (hl : l1.length ≤ 1)
    (t : Value) (HT0 : ∀ w, Tch (fun _ => False) W w → Calls Try.prog 102 #[.pointer (some ⟨a, o, none⟩), .int .i64 e1] w fun e w' => e = .returned t ∧ ∃ v', SetAt w' N a o room v' l1 ∧ Stp w w' a o v v' ∧ Roomy1 v') :
    Calls Try.prog 101 #[.pointer (some ⟨a, o, none⟩), .agg #[.int .i64 e1, .int .i64 e2]] W fun e w' => e = .returned (.tuple #[.agg #[.int .i64 0, .int .i64 0], .bool false]) ∧ ∃ v', w'.ownsRow N 75 2 v' (l1.length + 1) (flatD ((e1, e2) :: l1)) ∧ Stp W w' a o v v' ∧ Roomy1 v' := by
  have HT : Hid (∀ w, Tch (fun _ => False) W w → Calls Try.prog 102 #[.pointer (some ⟨a, o, none⟩), .int .i64 e1] w fun e w' => e = .returned t ∧ ∃ v', SetAt w' N a o room v' l1 ∧ Stp w w' a o v v' ∧ Roomy1 v') := HT0
  have HS : Hid (SetAt W N a o (room : Int) v l) := h
  have HL : Hid (∀ (v : Value) (w : World), SetAt w N a o room v l1 → Roomy1 v → Calls Try.prog 103 #[.pointer (some ⟨a, o, none⟩), .agg #[.int .i64 e1, .int .i64 e2]] w fun e w' => e = .returned (.tuple #[]) ∧ ∃ v', w'.ownsRow N 75 2 v' (l1.length + 1) (flatD ((e1, e2) :: l1)) ∧ Stp w w' a o v v' ∧ Roomy1 v') := fun v w h hr => lead_c N a o room v l1 e1 e2 w h hl hr
  have hq : ¬ ((l1.length : Int) = (room : Int)) := by omega
  clear h HT0
  go_enter Try.func101, Try.ntmps101
  go_wp2_with (first
    | (go_at_call 102; refine (HT.out _ (((Tch.refl _ W).alloc _).alloc _)).mono ?_; rintro e w2 ⟨rfl, v2, hA2, hS2, hv2⟩
       have SA := HS.out.tch (((Tch.refl (fun _ => False) W).alloc (.cells #[.int .i64 e1, .int .i64 e2] 75)).alloc (.cells #[.int .i64 0, .int .i64 0] 75))
       have dE : w2.heap[W.heap.size]? = some (.cells #[.int .i64 e1, .int .i64 e2] 75 (0, 0)) := (hS2.far SA (by simp; omega) (by have := HS.out.lt; omega) (fun e => by have := (HS.out.row.lt _ e).2; omega)).trans (hkeep (halloc1 _ _))
       have dR : w2.heap[W.heap.size + 1]? = some (.cells #[.int .i64 0, .int .i64 0] 75 (0, 0)) := (hS2.far SA (by simp) (by have := HS.out.lt; omega) (fun e => by have := (HS.out.row.lt _ e).2; omega)).trans (halloc2 _ _ (by simp))
       have DE : Hid (w2.heap[W.heap.size]? = some (.cells #[.int .i64 e1, .int .i64 e2] 75 (0, 0))) := dE
       have DR : Hid (w2.heap[W.heap.size + 1]? = some (.cells #[.int .i64 0, .int .i64 0] 75 (0, 0))) := dR
       have E0 : w2.cell? ⟨W.heap.size, 0, none⟩ = some (.int .i64 e1) := (cell_of_row w2 _ 0 _ _ _ dE).trans rfl
       have E1 : w2.cell? ⟨W.heap.size, 1, none⟩ = some (.int .i64 e2) := (cell_of_row w2 _ 1 _ _ _ dE).trans rfl
       have R0 : w2.cell? ⟨W.heap.size + 1, 0, none⟩ = some (.int .i64 0) := (cell_of_row w2 _ 0 _ _ _ dR).trans rfl
       have R1 : w2.cell? ⟨W.heap.size + 1, 1, none⟩ = some (.int .i64 0) := (cell_of_row w2 _ 1 _ _ _ dR).trans rfl
       have RF := fun k => frozen_of_row w2 (W.heap.size + 1) k _ _ dR
       obtain ⟨ca0, ca1, caf⟩ := hA2.cells
       have S2 : Hid (Stp W w2 a o v v2) := (stp_same HS.out (((Tch.refl _ W).alloc _).alloc _)).trans hS2
       have A2 : Hid (SetAt w2 N a o (room : Int) v2 l1) := hA2
       have N2 : Hid (∀ g, v2.ownBlock = some g → g < W.heap.size ∨ W.heap.size + 2 ≤ g) := fun g hg => (hS2.new g hg).imp (fun x => (HS.out.row.lt _ x).2) (fun x => by simpa using x)
       have hal : a < W.heap.size := HS.out.lt
       have hsz : W.heap.size + 2 ≤ w2.heap.size := (by have := hS2.tch.size; simpa using this)
       obtain ⟨va, vc, rfl⟩ := ownv hA2.row
       clear HT hA2 hS2 SA dE dR caf))
  go_region
  all_goals go_wp2_with (first
    | (go_at_call 103; refine (HL.out _ _ (A2.out.tch (Tch.refl _ w2).drew) hv2).mono ?_; rintro e w3 ⟨rfl, v3, hr3, hs3, hv3⟩
       have d3 : w3.heap[W.heap.size + 1]? = some (.cells #[.int .i64 0, .int .i64 0] 75 (0, 0)) := (hs3.far (A2.out.tch (Tch.refl _ w2).drew) (by show W.heap.size + 1 < w2.heap.size; omega) (by omega) (fun e => by have := N2.out _ e; omega)).trans DR.out
       have Z0 : w3.cell? ⟨W.heap.size + 1, 0, none⟩ = some (.int .i64 0) := (cell_of_row w3 _ 0 _ _ _ d3).trans rfl
       have Z1 : w3.cell? ⟨W.heap.size + 1, 1, none⟩ = some (.int .i64 0) := (cell_of_row w3 _ 1 _ _ _ d3).trans rfl
       have ZF := fun k => frozen_of_row w3 (W.heap.size + 1) k _ _ d3
       have R3 : Hid (w3.ownsRow N 75 2 v3 (l1.length + 1) (flatD ((e1, e2) :: l1))) := hr3
       have S3 : Hid (Stp W w3 a o v v3) := (S2.out.trans (stp_same A2.out (Tch.refl _ w2).drew)).trans hs3
       have hs3' := hs3.tch.size
       have hw3 : W.heap.size + 2 ≤ w3.heap.size := Nat.le_trans hsz hs3'
       have D3 : Hid (w3.heap[W.heap.size + 1]? = some (.cells #[.int .i64 0, .int .i64 0] 75 (0, 0))) := d3
       have N3 : Hid (∀ g, v3.ownBlock = some g → g < W.heap.size ∨ W.heap.size + 2 ≤ g) := fun g hg => (hs3.new g hg).elim (fun x => N2.out g x) (fun x => .inr (Nat.le_trans hsz x))
       clear hr3 hs3 d3 S2 A2 HL hs3'))
  all_goals refine bodyPost_ret (v := .tuple #[.agg #[.int .i64 0, .int .i64 0], .bool false]) (by simp [results, Try.results101, go_sem, *]) rfl ⟨rfl, v3, ?_, ?_, hv3⟩
  · exact own_keep R3.out (fun g hg => by have := N3.out g hg; rw [Below.heap_setCell _ _ _ _ (by simp; omega), Below.heap_setCell _ _ _ _ (by simp; omega)])
  · exact (S3.out.setNew hal (by simp) _).setNew hal (by simp) _
set_option maxRecDepth 100000 in
set_option maxHeartbeats 4000000 in
/-- put, where the set is full: the last one goes -/
theorem put_f (N a o : Nat) (room : Nat) (v : Value) (l l1 l2 : List (Int × Int)) (e1 e2 y1 y2 z1 z2 : Int) (hr1 : 1 ≤ room) (hr2 : room ≤ 2) (W : World) (h : SetAt W N a o room v l) (hle : l1.length = room) (hl : l2.length ≤ 1) (hy : l1[room - 1]? = some (y1, y2))
    (t : Value) (HT0 : ∀ w, Tch (fun _ => False) W w → Calls Try.prog 102 #[.pointer (some ⟨a, o, none⟩), .int .i64 e1] w fun e w' => e = .returned t ∧ ∃ v', SetAt w' N a o room v' l1 ∧ Stp w w' a o v v' ∧ Roomy1 v')
    (HT1 : ∀ v w, SetAt w N a o room v l1 → Calls Try.prog 102 #[.pointer (some ⟨a, o, none⟩), .int .i64 y1] w fun e w' => e = .returned (.tuple #[.agg #[.int .i64 z1, .int .i64 z2], .bool true]) ∧ ∃ v', SetAt w' N a o room v' l2 ∧ Stp w w' a o v v' ∧ Roomy1 v') :
    Calls Try.prog 101 #[.pointer (some ⟨a, o, none⟩), .agg #[.int .i64 e1, .int .i64 e2]] W fun e w' => e = .returned (.tuple #[.agg #[.int .i64 z1, .int .i64 z2], .bool true]) ∧ ∃ v', w'.ownsRow N 75 2 v' (l2.length + 1) (flatD ((e1, e2) :: l2)) ∧ Stp W w' a o v v' ∧ Roomy1 v' := by
  have HT : Hid (∀ w, Tch (fun _ => False) W w → Calls Try.prog 102 #[.pointer (some ⟨a, o, none⟩), .int .i64 e1] w fun e w' => e = .returned t ∧ ∃ v', SetAt w' N a o room v' l1 ∧ Stp w w' a o v v' ∧ Roomy1 v') := HT0
  have HU : Hid (∀ v w, SetAt w N a o room v l1 → Calls Try.prog 102 #[.pointer (some ⟨a, o, none⟩), .int .i64 y1] w fun e w' => e = .returned (.tuple #[.agg #[.int .i64 z1, .int .i64 z2], .bool true]) ∧ ∃ v', SetAt w' N a o room v' l2 ∧ Stp w w' a o v v' ∧ Roomy1 v') := HT1
  have HS : Hid (SetAt W N a o (room : Int) v l) := h
  have HL : Hid (∀ (v : Value) (w : World), SetAt w N a o room v l2 → Roomy1 v → Calls Try.prog 103 #[.pointer (some ⟨a, o, none⟩), .agg #[.int .i64 e1, .int .i64 e2]] w fun e w' => e = .returned (.tuple #[]) ∧ ∃ v', w'.ownsRow N 75 2 v' (l2.length + 1) (flatD ((e1, e2) :: l2)) ∧ Stp w w' a o v v' ∧ Roomy1 v') := fun v w h hr => lead_c N a o room v l2 e1 e2 w h hl hr
  obtain ⟨q, hq⟩ : ∃ q, q = room - 1 := ⟨_, rfl⟩
  have HY : Hid (l1[q]? = some (y1, y2)) := by rw [Hid, hq]; exact hy
  have HE : Hid (l1.length = room) := hle
  have hrm : (room : Int) - 1 = (q : Int) := by omega
  have hqr : q < room := by omega
  have hw1 : IntKind.i64.wrap (q : Int) = q := by rw [IntKind.wrap_i64]; omega
  have hw2 : wrap64 (q : Int) = q := by unfold wrap64; omega
  clear h HT0 HT1 hle hy hq
  go_enter Try.func101, Try.ntmps101
  go_wp2_with (first
    | (go_at_call 102; refine (HT.out _ (((Tch.refl _ W).alloc _).alloc _)).mono ?_; rintro e w2 ⟨rfl, v2, hA2, hS2, hv2⟩
       have SA := HS.out.tch (((Tch.refl (fun _ => False) W).alloc (.cells #[.int .i64 e1, .int .i64 e2] 75)).alloc (.cells #[.int .i64 0, .int .i64 0] 75))
       have dE : w2.heap[W.heap.size]? = some (.cells #[.int .i64 e1, .int .i64 e2] 75 (0, 0)) := (hS2.far SA (by simp; omega) (by have := HS.out.lt; omega) (fun e => by have := (HS.out.row.lt _ e).2; omega)).trans (hkeep (halloc1 _ _))
       have dR : w2.heap[W.heap.size + 1]? = some (.cells #[.int .i64 0, .int .i64 0] 75 (0, 0)) := (hS2.far SA (by simp) (by have := HS.out.lt; omega) (fun e => by have := (HS.out.row.lt _ e).2; omega)).trans (halloc2 _ _ (by simp))
       have DE : Hid (w2.heap[W.heap.size]? = some (.cells #[.int .i64 e1, .int .i64 e2] 75 (0, 0))) := dE
       have DR : Hid (w2.heap[W.heap.size + 1]? = some (.cells #[.int .i64 0, .int .i64 0] 75 (0, 0))) := dR
       have E0 : w2.cell? ⟨W.heap.size, 0, none⟩ = some (.int .i64 e1) := (cell_of_row w2 _ 0 _ _ _ dE).trans rfl
       have E1 : w2.cell? ⟨W.heap.size, 1, none⟩ = some (.int .i64 e2) := (cell_of_row w2 _ 1 _ _ _ dE).trans rfl
       have R0 : w2.cell? ⟨W.heap.size + 1, 0, none⟩ = some (.int .i64 0) := (cell_of_row w2 _ 0 _ _ _ dR).trans rfl
       have R1 : w2.cell? ⟨W.heap.size + 1, 1, none⟩ = some (.int .i64 0) := (cell_of_row w2 _ 1 _ _ _ dR).trans rfl
       have RF := fun k => frozen_of_row w2 (W.heap.size + 1) k _ _ dR
       obtain ⟨ca0, ca1, caf⟩ := hA2.cells
       have S2 : Hid (Stp W w2 a o v v2) := (stp_same HS.out (((Tch.refl _ W).alloc _).alloc _)).trans hS2
       have A2 : Hid (SetAt w2 N a o (room : Int) v2 l1) := hA2
       have N2 : Hid (∀ g, v2.ownBlock = some g → g < W.heap.size ∨ W.heap.size + 2 ≤ g) := fun g hg => (hS2.new g hg).imp (fun x => (HS.out.row.lt _ x).2) (fun x => by simpa using x)
       have hal : a < W.heap.size := HS.out.lt
       have hsz : W.heap.size + 2 ≤ w2.heap.size := (by have := hS2.tch.size; simpa using this)
       obtain ⟨va, vc, rfl⟩ := ownv hA2.row
       clear HT hA2 hS2 SA dE dR caf))
  rw [HE.out] at ca1 hv2 S2 A2 N2
  have hrow := A2.out.row
  rw [HE.out] at hrow
  obtain ⟨g, rfl⟩ : ∃ g, va = some ⟨g, 0, none⟩ := by
    rcases hrow.2 with ⟨_, e⟩ | ⟨g, cap, cur, e, _⟩
    · omega
    · cases e; exact ⟨g, rfl⟩
  obtain ⟨u0, u1⟩ := flatD_at l1 q _ HY.out
  have k0 : w2.cell? ⟨g, q * 2, none⟩ = some (.int .i64 y1) := (hrow.cellAt (q * 2) (by omega)).trans u0
  have k1 : w2.cell? ⟨g, q * 2 + 1, none⟩ = some (.int .i64 y2) := (hrow.cellAt (q * 2 + 1) (by omega)).trans u1
  have al0 := cal ca0 (.cells #[.int .i64 0, .int .i64 0] 75)
  have al1 := cal ca1 (.cells #[.int .i64 0, .int .i64 0] 75)
  have al2 := cal k0 (.cells #[.int .i64 0, .int .i64 0] 75)
  have al3 := cal k1 (.cells #[.int .i64 0, .int .i64 0] 75)
  clear hrow u0 u1
  go_region
  all_goals go_wp2
  all_goals go_region
  all_goals go_wp2_with (first
    | (go_at_call 102; refine (HU.out _ _ (A2.out.tch (((Tch.refl _ w2).alloc _).drew).drew)).mono ?_; rintro e w4 ⟨rfl, v4, hA4, hS4, hv4⟩
       have SA := A2.out.tch (((Tch.refl (fun _ => False) w2).alloc (.cells #[.int .i64 y1, .int .i64 y2] 75)).drew).drew
       have dE : w4.heap[W.heap.size]? = some (.cells #[.int .i64 e1, .int .i64 e2] 75 (0, 0)) := (hS4.far SA (by simp; omega) (by omega) (fun e => by have := N2.out _ e; omega)).trans ((Below.heap_alloc _ _ _ (by omega)).trans DE.out)
       have dR : w4.heap[W.heap.size + 1]? = some (.cells #[.int .i64 0, .int .i64 0] 75 (0, 0)) := (hS4.far SA (by simp; omega) (by omega) (fun e => by have := N2.out _ e; omega)).trans ((Below.heap_alloc _ _ _ (by omega)).trans DR.out)
       have S4 : Hid (Stp W w4 a o v v4) := (S2.out.trans (stp_same A2.out (((Tch.refl _ w2).alloc _).drew).drew)).trans hS4
       have A4 : Hid (SetAt w4 N a o (room : Int) v4 l2) := hA4
       have hz4 : W.heap.size + 2 ≤ w4.heap.size := (by have := hS4.tch.size; simp at this; omega)
       have N4 : Hid (∀ g, v4.ownBlock = some g → g < W.heap.size ∨ W.heap.size + 2 ≤ g) := fun g hg => (hS4.new g hg).elim (fun x => N2.out g x) (fun x => .inr (by simp at x; omega))
       have D4E : Hid (w4.heap[W.heap.size]? = some (.cells #[.int .i64 e1, .int .i64 e2] 75 (0, 0))) := dE
       have D4R : Hid (w4.heap[W.heap.size + 1]? = some (.cells #[.int .i64 0, .int .i64 0] 75 (0, 0))) := dR
       have P0 : w4.cell? ⟨W.heap.size, 0, none⟩ = some (.int .i64 e1) := (cell_of_row w4 _ 0 _ _ _ dE).trans rfl
       have P1 : w4.cell? ⟨W.heap.size, 1, none⟩ = some (.int .i64 e2) := (cell_of_row w4 _ 1 _ _ _ dE).trans rfl
       have Q0 : w4.cell? ⟨W.heap.size + 1, 0, none⟩ = some (.int .i64 0) := (cell_of_row w4 _ 0 _ _ _ dR).trans rfl
       have Q1 : w4.cell? ⟨W.heap.size + 1, 1, none⟩ = some (.int .i64 0) := (cell_of_row w4 _ 1 _ _ _ dR).trans rfl
       have QF := fun k => frozen_of_row w4 (W.heap.size + 1) k _ _ dR
       clear HU hA4 hS4 SA dE dR E0 E1 R0 R1 RF ca0 ca1 k0 k1 al0 al1 al2 al3 S2 A2 DE DR N2)
    | (go_at_call 103; refine (HL.out _ _ ((A4.out.setFar (by simp; omega) (fun e => by have := N4.out _ e; simp at this; omega) _).setFar (by simp; omega) (fun e => by have := N4.out _ e; simp at this; omega) _) hv4).mono ?_; rintro e w6 ⟨rfl, v6, hr6, hs6, hv6⟩
       have SA := (A4.out.setFar (p := ⟨W.heap.size + 1, 0, none⟩) (by simp; omega) (fun e => by have := N4.out _ e; simp at this; omega) (.int .i64 z1)).setFar (p := ⟨W.heap.size + 1, 1, none⟩) (by simp; omega) (fun e => by have := N4.out _ e; simp at this; omega) (.int .i64 z2)
       have d6 : w6.heap[W.heap.size + 1]? = some (.cells #[.int .i64 z1, .int .i64 z2] 75 (0, 0)) := (hs6.far SA (by simp; omega) (by omega) (fun e => by have := N4.out _ e; omega)).trans (by rw [Go.Joins.block_setCell (Go.Joins.block_setCell D4R.out _)]; rfl)
       have Z0 : w6.cell? ⟨W.heap.size + 1, 0, none⟩ = some (.int .i64 z1) := (cell_of_row w6 _ 0 _ _ _ d6).trans rfl
       have Z1 : w6.cell? ⟨W.heap.size + 1, 1, none⟩ = some (.int .i64 z2) := (cell_of_row w6 _ 1 _ _ _ d6).trans rfl
       have ZF := fun k => frozen_of_row w6 (W.heap.size + 1) k _ _ d6
       have R6 : Hid (w6.ownsRow N 75 2 v6 (l2.length + 1) (flatD ((e1, e2) :: l2))) := hr6
       have S6 : Hid (Stp W w6 a o v v6) := ((S4.out.setNew hal (by simp) _).setNew hal (by simp) _).trans hs6
       have N6 : Hid (∀ g, v6.ownBlock = some g → g < W.heap.size ∨ W.heap.size + 2 ≤ g) := fun g hg => (hs6.new g hg).elim (fun x => N4.out g x) (fun x => .inr (by simp at x; omega))
       clear hr6 hs6 d6 S4 A4 HL SA P0 P1 Q0 Q1 QF D4E D4R))
  all_goals refine bodyPost_ret (v := .tuple #[.agg #[.int .i64 z1, .int .i64 z2], .bool true]) (by simp [results, Try.results101, go_sem, *]) rfl ⟨rfl, v6, ?_, ?_, hv6⟩
  all_goals first
    | exact own_keep R6.out (fun g hg => by have := N6.out g hg; rw [Below.heap_setCell _ _ _ _ (by simp; omega), Below.heap_setCell _ _ _ _ (by simp; omega)])
    | exact (S6.out.setNew hal (by simp) _).setNew hal (by simp) _
end Go.Proofs.Ytdjmjdlolhfejaa
