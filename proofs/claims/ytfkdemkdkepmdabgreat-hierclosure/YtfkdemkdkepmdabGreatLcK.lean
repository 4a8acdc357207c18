/- Closure, once more: an empty closure is nil; a prefix of a list of numbers. -/
import Derived.Test.YtfkdemkdkepmdabGreatHrZ
namespace Go.Proofs.YtfkdemkdkepmdabGreat
open Go.RowKit

/-- an empty list is nil -/
def NilIf (n : Nat) (v : Value) : Prop := n = 0 → v = .slice none 0 0

set_option maxRecDepth 100000 in
theorem copyN2_any (v : Value) (n : Nat) (xs : List Value) (W : World) (h : Rds W v n 1 xs) (h1 : ∀ u ∈ xs, u.oneCell' = true) (hn : n ≤ 1000000) :
    Calls Tryz.prog 22 #[v] W fun e w' => ∃ v', e = .returned v' ∧ w'.ownsRow W.heap.size 3 1 v' n xs ∧ NilIf n v' ∧ Below W.heap.size W w' := by
  obtain ⟨i0, hi, hz0, hz1, hz2⟩ := info_parts Tryz.hinfo3
  go_enter Tryz.func22, Tryz.ntmps22
  rcases h.val with ⟨rfl, rfl⟩ | ⟨bk, o, cap, rfl, hc1, hc2, hlt, hcell⟩
  · have hx : xs = [] := List.length_eq_zero_iff.1 (by rw [h.len, Nat.zero_mul])
    subst hx
    go_wp2_with (at_builtin; refine wpList_append_own_none rfl _ _ 36 rfl W.heap.size 3 i0 1 Tryz.underlying36 hi (.slice none 0 0) 0 [] rfl (World.ownsRow_nil _ _ _ _) rfl ?_)
    exact bodyPost_ret (v := .slice none 0 0) (by simp [results, Tryz.results22, go_sem, *]) rfl ⟨_, rfl, World.ownsRow_nil _ _ _ _, fun _ => rfl, Below.refl _ _⟩
  · go_wp2_with (at_builtin; refine wpList_append_own _ rfl _ _ 36 rfl W.heap.size 3 i0 (.int .i64 0) 1 8 Tryz.underlying36 hi hz0 hz1 hz2 rfl (by decide) (.slice none 0 0) 0 [] rfl (World.ownsRow_nil _ _ _ _) ⟨bk, o, none⟩ n cap xs rfl h.len ?c1 h1 ?c3 ?c4 (Nat.le_refl _) ?_)
    case c1 => intro j u hj; rw [addr_add]; exact hcell j u hj
    case c3 => unfold maxLen; omega
    case c4 => omega
    intro v' w' hown hgrow hnil
    have HN : Hid (NilIf n v') := fun h0 => hnil.2 (by simpa using h0)
    go_wp2
    exact bodyPost_ret (v := v') (by simp [results, Tryz.results22, go_sem]) rfl ⟨_, rfl, (by simpa using hown), HN.out, below_nil hgrow⟩
set_option maxRecDepth 100000 in
theorem closure2_yes (N b mb : Nat) (ps : List Plc) (vp : Value) (pv : List PV) (k : Nat) (q : Plc) (W : World) (h : HW W N b mb ps vp pv) (hq : ps[k]? = some q) (hn : ps.length ≤ 300) : Calls Tryz.prog 9 #[.pointer (some ⟨b, 0, none⟩), .int .i64 (k : Int)] W fun e w' => ∃ v, e = .returned (.tuple #[v, .int .i64 0]) ∧ w'.ownsRow W.heap.size 3 1 v q.cl.length (q.cl.map numV) ∧ NilIf q.cl.length v ∧ Below W.heap.size W w' := by
  have hkl := (List.getElem?_eq_some_iff.1 hq).1
  have HX : Hid (Calls Tryz.prog 20 #[.pointer (some ⟨b, 0, none⟩), .int .i64 (k : Int)] W fun e w' => e = .returned (.bool true) ∧ w' = W) := has_yes h k hkl
  have hwf := h.wf q (List.mem_of_getElem? hq)
  have hcl := nodup_lt_len _ _ hwf.2 hwf.1
  obtain ⟨g, cap, p, rfl, hpl, hcell⟩ := h.at hq
  have b0 := cell_of_row W b 0 _ _ _ h.hb
  simp only [List.getElem?_toArray, List.getElem?_cons_zero] at b0
  have c7 : W.cell? ⟨g, k * 8 + 7, none⟩ = some p.vc := hcell 7 (by omega)
  have HC : Hid (Calls Tryz.prog 22 #[p.vc] W fun e w' => ∃ v', e = .returned v' ∧ w'.ownsRow W.heap.size 3 1 v' q.cl.length (q.cl.map numV) ∧ NilIf q.cl.length v' ∧ Below W.heap.size W w') := copyN2_any p.vc _ _ W (own_rds hpl.clo) (fun u hu => by obtain ⟨x, _, rfl⟩ := List.mem_map.1 hu; rfl) (by omega)
  have hkI : (k : Int) < (ps.length : Int) := by omega
  clear hcell hpl hq h hwf
  go_enter Tryz.func9, Tryz.ntmps9
  go_wp2_with (first
    | (go_at_call 20; refine HX.out.mono ?_; rintro e w9 ⟨rfl, hw9⟩; rw [hw9]; clear hw9 w9)
    | (go_at_call 22; refine HC.out.mono ?_; rintro e w1 ⟨v', rfl, hown, hnil, hb⟩; obtain ⟨a', c', rfl⟩ := ownv hown; have O1 : Hid _ := hown; have B1 : Hid _ := hb; have N1 : Hid (NilIf q.cl.length (.slice a' q.cl.length c')) := hnil; clear hown hb hnil HC))
  exact bodyPost_ret (results_tmp2 rfl _ _ _) rfl ⟨_, rfl, O1.out, N1.out, B1.out⟩
theorem rds_pre {w : World} {g o c n : Nat} {l m : List Nat} (h : Rds w (.slice (some ⟨g, o, none⟩) n c) n 1 (l.map numV)) (hm : m <+: l) : Rds w (.slice (some ⟨g, o, none⟩) m.length c) m.length 1 (m.map numV) := by
  have hl := h.len
  rw [List.length_map] at hl
  obtain ⟨r, rfl⟩ := hm
  rw [List.length_append] at hl
  rcases h.val with ⟨e, _⟩ | ⟨bk, o', c', e, h1, h2, h3, h4⟩
  · cases e
  · simp only [Value.slice.injEq, Option.some.injEq, Addr.mk.injEq, and_true, true_and] at e
    obtain ⟨⟨rfl, rfl⟩, rfl⟩ := e
    refine ⟨by simp, .inr ⟨g, o, c, rfl, by omega, h2, h3, fun j u hj => h4 j u ?_⟩⟩
    rw [List.map_append, List.getElem?_append_left (List.getElem?_eq_some_iff.1 hj).1]
    exact hj
end Go.Proofs.YtfkdemkdkepmdabGreat
