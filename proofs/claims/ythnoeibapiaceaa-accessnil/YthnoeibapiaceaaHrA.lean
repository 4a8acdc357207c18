/- Copies of lists (package hier's copyList): each answers a list of its own, with the same cells; what was there before stays. -/
import Derived.Test.YthnoeibapiaceaaChecked
import Derived.WalkKit
import Derived.OwnWalk
import Derived.Laws.AppendOwnNone
import Derived.Lib.SmallJoins
namespace Go.Proofs.Ythnoeibapiaceaa
open Go.RowKit

theorem Try.hinfo9 : (Try.prog.info? 9).map (fun i => (i.zero, i.size, i.bytes)) = some (some (.string ⟨#[]⟩), 1, 16) := by kernel_rfl
theorem Try.hinfo3 : (Try.prog.info? 3).map (fun i => (i.zero, i.size, i.bytes)) = some (some (.int .i64 0), 1, 8) := by kernel_rfl
theorem Try.hinfo58 : (Try.prog.info? 42).map (fun i => (i.zero, i.size, i.bytes)) = some (some (.agg #[.string ⟨#[]⟩, .string ⟨#[]⟩, .int .i64 0, .int .i64 0, .int .i64 0, .slice none 0 0]), 6, 80) := by kernel_rfl
theorem Try.hinfo81 : (Try.prog.info? 86).map (fun i => (i.zero, i.size, i.bytes)) = some (some (.agg #[.int .i64 0, .int .i64 0, .string ⟨#[]⟩, .bool false, .string ⟨#[]⟩, .string ⟨#[]⟩, .string ⟨#[]⟩]), 7, 88) := by kernel_rfl

/-- a list of n elements of k cells each that can be read in w: these are its cells -/
structure Rds (w : World) (v : Value) (n k : Nat) (xs : List Value) : Prop where
  len : xs.length = n * k
  val : (v = .slice none 0 0 ∧ n = 0) ∨ ∃ bk o cap, v = .slice (some ⟨bk, o, none⟩) n cap ∧ n ≤ cap ∧ cap ≤ maxLen ∧ bk < w.heap.size ∧ ∀ j u, xs[j]? = some u → w.cell? ⟨bk, o + j, none⟩ = some u

theorem Rds.keep {w w' : World} {v : Value} {n k : Nat} {xs : List Value} (h : Rds w v n k xs) (hb : Below w.heap.size w w') : Rds w' v n k xs := by
  refine ⟨h.len, ?_⟩
  rcases h.val with h1 | ⟨bk, o, cap, e, h1, h2, h3, h4⟩
  · exact .inl h1
  · exact .inr ⟨bk, o, cap, e, h1, h2, Nat.lt_of_lt_of_le h3 hb.size, fun j u hj => (hb.cell h3).trans (h4 j u hj)⟩

/-- the same, but an empty list may lie anywhere -/
def Rdw (w : World) (v : Value) (n k : Nat) (xs : List Value) : Prop := Rds w v n k xs ∨ (n = 0 ∧ xs = [] ∧ ∃ ad cap, v = .slice (some ad) 0 cap)
theorem Rdw.keep {w w' : World} {v : Value} {n k : Nat} {xs : List Value} (h : Rdw w v n k xs) (hb : Below w.heap.size w w') : Rdw w' v n k xs := h.imp (fun h => h.keep hb) id
theorem Rds.slice {w : World} {v : Value} {n k : Nat} {xs : List Value} (h : Rds w v n k xs) : ∃ a c, v = .slice a n c := by
  rcases h.val with ⟨e, e2⟩ | ⟨_, _, c, e, _⟩
  · rw [e2]; exact ⟨_, _, e⟩
  · exact ⟨_, _, e⟩
theorem Rdw.slice {w : World} {v : Value} {n k : Nat} {xs : List Value} (h : Rdw w v n k xs) : ∃ a c, v = .slice a n c := by
  rcases h with h | ⟨e, _, ad, cap, e2⟩
  · exact h.slice
  · rw [e]; exact ⟨_, _, e2⟩

theorem bstep {w w1 w2 : World} (h1 : Below w.heap.size w w1) (h2 : Below w1.heap.size w1 w2) : Below w.heap.size w w2 := h1.trans (h2.mono h1.size)

theorem ownv {w : World} {base : Nat} {e : TypeId} {k : Nat} {v : Value} {n : Nat} {xs : List Value} (h : w.ownsRow base e k v n xs) : ∃ a c, v = .slice a n c := by
  rcases h.2 with ⟨rfl, h2⟩ | ⟨g, cap, cur, rfl, _⟩
  · have : n = 0 := by first | exact h2 | exact h2.1 | (simp at h2; omega)
    subst this; exact ⟨none, 0, rfl⟩
  · exact ⟨_, cap, rfl⟩

theorem addr_add (bk o j : Nat) : (⟨bk, o, none⟩ : Addr).add j = ⟨bk, o + j, none⟩ := by unfold Addr.add; split <;> simp_all

/-- below what an append that owns nothing leaves -/
theorem below_nil {w w' : World} (h : w.grownBy w' (Value.ownBlock (.slice none 0 0))) : Below w.heap.size w w' :=
  ⟨h.os, h.tape, h.output, h.size, fun k hk => h.block k hk (by simp [Value.ownBlock])⟩

set_option maxRecDepth 100000 in
theorem copyS_any (v : Value) (n : Nat) (xs : List Value) (W : World) (h : Rdw W v n 1 xs) (h1 : ∀ u ∈ xs, u.oneCell' = true) (hn : n ≤ 1000000) :
    Calls Try.prog 41 #[v] W fun e w' => ∃ v', e = .returned v' ∧ w'.ownsRow W.heap.size 9 1 v' n xs ∧ Below W.heap.size W w' := by
  obtain ⟨i0, hi, hz0, hz1, hz2⟩ := info_parts Try.hinfo9
  go_enter Try.func41, Try.ntmps41
  rcases h with h | ⟨rfl, rfl, ad, cap, rfl⟩
  · rcases h.val with ⟨rfl, rfl⟩ | ⟨bk, o, cap, rfl, hc1, hc2, hlt, hcell⟩
    · have hx : xs = [] := List.length_eq_zero_iff.1 (by rw [h.len, Nat.zero_mul])
      subst hx
      go_wp2_with (at_builtin; refine wpList_append_own_none rfl _ _ 55 rfl W.heap.size 9 i0 1 Try.underlying55 hi (.slice none 0 0) 0 [] rfl (World.ownsRow_nil _ _ _ _) rfl ?_)
      exact bodyPost_ret (by simp [results, Try.results41, go_sem, *]) rfl ⟨_, rfl, World.ownsRow_nil _ _ _ _, Below.refl _ _⟩
    · go_wp2_with (at_builtin; refine wpList_append_own _ rfl _ _ 55 rfl W.heap.size 9 i0 (.string ⟨#[]⟩) 1 16 Try.underlying55 hi hz0 hz1 hz2 rfl (by decide) (.slice none 0 0) 0 [] rfl (World.ownsRow_nil _ _ _ _) ⟨bk, o, none⟩ n cap xs rfl h.len ?c1 h1 ?c3 ?c4 (Nat.le_refl _) ?_)
      case c1 => intro j u hj; rw [addr_add]; exact hcell j u hj
      case c3 => unfold maxLen; omega
      case c4 => omega
      intro v' w' hown hgrow _
      go_wp2
      exact bodyPost_ret (v := v') (by simp [results, Try.results41, go_sem, *]) rfl ⟨_, rfl, hown, below_nil hgrow⟩
  · go_wp2_with (at_builtin; refine wpList_append_own _ rfl _ _ 55 rfl W.heap.size 9 i0 (.string ⟨#[]⟩) 1 16 Try.underlying55 hi hz0 hz1 hz2 rfl (by decide) (.slice none 0 0) 0 [] rfl (World.ownsRow_nil _ _ _ _) ad 0 cap [] rfl rfl ?c1 h1 ?c3 ?c4 (Nat.le_refl _) ?_)
    case c1 => intro j u hj; simp at hj
    case c3 => unfold maxLen; omega
    case c4 => omega
    intro v' w' hown hgrow _
    go_wp2
    exact bodyPost_ret (v := v') (by simp [results, Try.results41, go_sem, *]) rfl ⟨_, rfl, hown, below_nil hgrow⟩
set_option maxRecDepth 100000 in
theorem copyH_any (v : Value) (n : Nat) (xs : List Value) (W : World) (h : Rdw W v n 6 xs) (h1 : ∀ u ∈ xs, u.oneCell' = true) (hn : n ≤ 1000000) :
    Calls Try.prog 42 #[v] W fun e w' => ∃ v', e = .returned v' ∧ w'.ownsRow W.heap.size 42 6 v' n xs ∧ Below W.heap.size W w' := by
  obtain ⟨i0, hi, hz0, hz1, hz2⟩ := info_parts Try.hinfo58
  go_enter Try.func42, Try.ntmps42
  rcases h with h | ⟨rfl, rfl, ad, cap, rfl⟩
  · rcases h.val with ⟨rfl, rfl⟩ | ⟨bk, o, cap, rfl, hc1, hc2, hlt, hcell⟩
    · have hx : xs = [] := List.length_eq_zero_iff.1 (by rw [h.len, Nat.zero_mul])
      subst hx
      go_wp2_with (at_builtin; refine wpList_append_own_none rfl _ _ 56 rfl W.heap.size 42 i0 6 Try.underlying56 hi (.slice none 0 0) 0 [] rfl (World.ownsRow_nil _ _ _ _) rfl ?_)
      exact bodyPost_ret (by simp [results, Try.results42, go_sem, *]) rfl ⟨_, rfl, World.ownsRow_nil _ _ _ _, Below.refl _ _⟩
    · go_wp2_with (at_builtin; refine wpList_append_own _ rfl _ _ 56 rfl W.heap.size 42 i0 (.agg #[.string ⟨#[]⟩, .string ⟨#[]⟩, .int .i64 0, .int .i64 0, .int .i64 0, .slice none 0 0]) 6 80 Try.underlying56 hi hz0 hz1 hz2 rfl (by decide) (.slice none 0 0) 0 [] rfl (World.ownsRow_nil _ _ _ _) ⟨bk, o, none⟩ n cap xs rfl h.len ?c1 h1 ?c3 ?c4 (Nat.le_refl _) ?_)
      case c1 => intro j u hj; rw [addr_add]; exact hcell j u hj
      case c3 => unfold maxLen; omega
      case c4 => omega
      intro v' w' hown hgrow _
      go_wp2
      exact bodyPost_ret (v := v') (by simp [results, Try.results42, go_sem, *]) rfl ⟨_, rfl, hown, below_nil hgrow⟩
  · go_wp2_with (at_builtin; refine wpList_append_own _ rfl _ _ 56 rfl W.heap.size 42 i0 (.agg #[.string ⟨#[]⟩, .string ⟨#[]⟩, .int .i64 0, .int .i64 0, .int .i64 0, .slice none 0 0]) 6 80 Try.underlying56 hi hz0 hz1 hz2 rfl (by decide) (.slice none 0 0) 0 [] rfl (World.ownsRow_nil _ _ _ _) ad 0 cap [] rfl rfl ?c1 h1 ?c3 ?c4 (Nat.le_refl _) ?_)
    case c1 => intro j u hj; simp at hj
    case c3 => unfold maxLen; omega
    case c4 => omega
    intro v' w' hown hgrow _
    go_wp2
    exact bodyPost_ret (v := v') (by simp [results, Try.results42, go_sem, *]) rfl ⟨_, rfl, hown, below_nil hgrow⟩
set_option maxRecDepth 100000 in
theorem copyI_any (v : Value) (n : Nat) (xs : List Value) (W : World) (h : Rdw W v n 7 xs) (h1 : ∀ u ∈ xs, u.oneCell' = true) (hn : n ≤ 1000000) :
    Calls Try.prog 37 #[v] W fun e w' => ∃ v', e = .returned v' ∧ w'.ownsRow W.heap.size 86 7 v' n xs ∧ Below W.heap.size W w' := by
  obtain ⟨i0, hi, hz0, hz1, hz2⟩ := info_parts Try.hinfo81
  go_enter Try.func37, Try.ntmps37
  rcases h with h | ⟨rfl, rfl, ad, cap, rfl⟩
  · rcases h.val with ⟨rfl, rfl⟩ | ⟨bk, o, cap, rfl, hc1, hc2, hlt, hcell⟩
    · have hx : xs = [] := List.length_eq_zero_iff.1 (by rw [h.len, Nat.zero_mul])
      subst hx
      go_wp2_with (at_builtin; refine wpList_append_own_none rfl _ _ 40 rfl W.heap.size 86 i0 7 Try.underlying40 hi (.slice none 0 0) 0 [] rfl (World.ownsRow_nil _ _ _ _) rfl ?_)
      exact bodyPost_ret (by simp [results, Try.results37, go_sem, *]) rfl ⟨_, rfl, World.ownsRow_nil _ _ _ _, Below.refl _ _⟩
    · go_wp2_with (at_builtin; refine wpList_append_own _ rfl _ _ 40 rfl W.heap.size 86 i0 (.agg #[.int .i64 0, .int .i64 0, .string ⟨#[]⟩, .bool false, .string ⟨#[]⟩, .string ⟨#[]⟩, .string ⟨#[]⟩]) 7 88 Try.underlying40 hi hz0 hz1 hz2 rfl (by decide) (.slice none 0 0) 0 [] rfl (World.ownsRow_nil _ _ _ _) ⟨bk, o, none⟩ n cap xs rfl h.len ?c1 h1 ?c3 ?c4 (Nat.le_refl _) ?_)
      case c1 => intro j u hj; rw [addr_add]; exact hcell j u hj
      case c3 => unfold maxLen; omega
      case c4 => omega
      intro v' w' hown hgrow _
      go_wp2
      exact bodyPost_ret (v := v') (by simp [results, Try.results37, go_sem, *]) rfl ⟨_, rfl, hown, below_nil hgrow⟩
  · go_wp2_with (at_builtin; refine wpList_append_own _ rfl _ _ 40 rfl W.heap.size 86 i0 (.agg #[.int .i64 0, .int .i64 0, .string ⟨#[]⟩, .bool false, .string ⟨#[]⟩, .string ⟨#[]⟩, .string ⟨#[]⟩]) 7 88 Try.underlying40 hi hz0 hz1 hz2 rfl (by decide) (.slice none 0 0) 0 [] rfl (World.ownsRow_nil _ _ _ _) ad 0 cap [] rfl rfl ?c1 h1 ?c3 ?c4 (Nat.le_refl _) ?_)
    case c1 => intro j u hj; simp at hj
    case c3 => unfold maxLen; omega
    case c4 => omega
    intro v' w' hown hgrow _
    go_wp2
    exact bodyPost_ret (v := v') (by simp [results, Try.results37, go_sem, *]) rfl ⟨_, rfl, hown, below_nil hgrow⟩
set_option maxRecDepth 100000 in
theorem copyM_any (nm ds : ByteArray) (fl lo st : Int) (v : Value) (n : Nat) (xs : List Value) (W : World) (h : Rdw W v n 7 xs) (h1 : ∀ u ∈ xs, u.oneCell' = true) (hn : n ≤ 1000000) :
    Calls Try.prog 27 #[.agg #[.string nm, .string ds, .int .i64 fl, .int .i64 lo, .int .i64 st, v]] W fun e w' => ∃ v', e = .returned (.agg #[.string nm, .string ds, .int .i64 fl, .int .i64 lo, .int .i64 st, v']) ∧ w'.ownsRow W.heap.size 86 7 v' n xs ∧ Below W.heap.size W w' := by
  have HC : Hid (∀ w : World, Below W.heap.size W w → Calls Try.prog 37 #[v] w fun e w' => ∃ v', e = .returned v' ∧ w'.ownsRow w.heap.size 86 7 v' n xs ∧ Below w.heap.size w w') := fun w hb => copyI_any v n xs w (h.keep hb) h1 hn
  clear h h1 hn
  go_enter Try.func27, Try.ntmps27
  go_wp2_with (go_at_call 37; refine (HC.out _ (((Below.refl _ _).alloc (Nat.le_refl _) _).alloc (by simp) _)).mono ?_; rintro e w1 ⟨v', rfl, hown, hb⟩; obtain ⟨a', cap', rfl⟩ := ownv hown; have HO : Hid (w1.ownsRow (W.heap.size + 2) 86 7 (.slice a' n cap') n xs) := Go.Joins.ownsRow_le hown (by simp); clear hown; have h0 := (hb.block W.heap.size (by simp; omega)).trans (heap_alloc2_old W _ _); have h1 := (hb.block (W.heap.size + 1) (by simp)).trans (heap_alloc2_new W _ _); have c0 := cell_of_row w1 W.heap.size 0 _ _ _ h0; have y0 := frozen_of_row w1 W.heap.size 0 _ _ h0; have d0 := frozen_of_row w1 (W.heap.size + 1) 0 _ _ h1; have c1 := cell_of_row w1 W.heap.size 1 _ _ _ h0; have y1 := frozen_of_row w1 W.heap.size 1 _ _ h0; have d1 := frozen_of_row w1 (W.heap.size + 1) 1 _ _ h1; have c2 := cell_of_row w1 W.heap.size 2 _ _ _ h0; have y2 := frozen_of_row w1 W.heap.size 2 _ _ h0; have d2 := frozen_of_row w1 (W.heap.size + 1) 2 _ _ h1; have c3 := cell_of_row w1 W.heap.size 3 _ _ _ h0; have y3 := frozen_of_row w1 W.heap.size 3 _ _ h0; have d3 := frozen_of_row w1 (W.heap.size + 1) 3 _ _ h1; have c4 := cell_of_row w1 W.heap.size 4 _ _ _ h0; have y4 := frozen_of_row w1 W.heap.size 4 _ _ h0; have d4 := frozen_of_row w1 (W.heap.size + 1) 4 _ _ h1; have c5 := cell_of_row w1 W.heap.size 5 _ _ _ h0; have y5 := frozen_of_row w1 W.heap.size 5 _ _ h0; have d5 := frozen_of_row w1 (W.heap.size + 1) 5 _ _ h1; have x0 := cell_of_row w1 (W.heap.size + 1) 0 _ _ _ h1; have x1 := cell_of_row w1 (W.heap.size + 1) 1 _ _ _ h1; have x2 := cell_of_row w1 (W.heap.size + 1) 2 _ _ _ h1; have x3 := cell_of_row w1 (W.heap.size + 1) 3 _ _ _ h1; have x4 := cell_of_row w1 (W.heap.size + 1) 4 _ _ _ h1; have x5 := cell_of_row w1 (W.heap.size + 1) 5 _ _ _ h1; simp only [List.getElem?_toArray, List.getElem?_cons_zero, List.getElem?_cons_succ] at c0 c1 c2 c3 c4 c5 x0 x1 x2 x3 x4 x5; have H0 : Hid _ := h0; have H1 : Hid _ := h1; have HB : Hid (Below W.heap.size W w1) := bstep (((Below.refl _ _).alloc (Nat.le_refl _) _).alloc (by simp) _) hb; clear h0 h1 hb HC)
  refine bodyPost_ret (v := .agg #[.string nm, .string ds, .int .i64 fl, .int .i64 lo, .int .i64 st, .slice a' n cap']) (by simp [results, Try.results27, go_sem, *]) rfl ⟨_, rfl, ?_, ?_⟩
  · refine Go.Joins.ownsRow_le (base := W.heap.size + 2) ?_ (by omega)
    repeat (refine ownsRow_setCell_below ?_ (by simp) _)
    exact HO.out
  · repeat (refine Below.setCell ?_ (by simp) _)
    exact HB.out
end Go.Proofs.Ythnoeibapiaceaa
