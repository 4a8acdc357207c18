/- Laws on rows that a call owns: what is kept while others are written or grown; an append that keeps a shorter view of the same row; the mark of a list. -/
import Derived.Test.YtijlipllahfakaaGreatDoorRefJoin
import Derived.ArgAppend
namespace Go.Proofs.YtijlipllahfakaaGreatDoor
open Go.RowKit

/-- the mark of list i -/
def sgB (i : Nat) : ByteArray := ⟨#[35, UInt8.ofNat i, 0]⟩
def sgV (i : Nat) : Value := .string (sgB i)

theorem sign_conv (i : Nat) (hi : i < 256) (w : World) :
    (convert 78 9 (.slice (some ⟨w.heap.size, 0, none⟩) 3 3)).run Tryz.prog (w.alloc (.cells #[.int .u8 35, .int .u8 (i : Int), .int .u8 0] 5)) = .ok (sgV i) (w.alloc (.cells #[.int .u8 35, .int .u8 (i : Int), .int .u8 0] 5)) := by
  have hm : (UInt8.ofNat i).toNat = i := by simp; omega
  exact run_convert_bytes_back (P := Tryz.prog) (w.alloc (.cells #[.int .u8 35, .int .u8 (i : Int), .int .u8 0] 5)) 78 9 5 ⟨w.heap.size, 0, none⟩ 3 [35, UInt8.ofNat i, 0] Tryz.underlying78 Tryz.underlying5 Tryz.underlying9 (fun j hj => by
    match j, hj with
    | 0, _ => rw [Addr.add_lit, cell_of_row _ w.heap.size 0 _ 5 (0, 0) (heap_alloc_new w _)]; rfl
    | 1, _ => rw [Addr.add_lit, cell_of_row _ w.heap.size 1 _ 5 (0, 0) (heap_alloc_new w _)]; simp [hm]
    | 2, _ => rw [Addr.add_lit, cell_of_row _ w.heap.size 2 _ 5 (0, 0) (heap_alloc_new w _)]; rfl)

theorem addr_zero (a : Addr) : a.add 0 = a := by
  obtain ⟨b, o, sp⟩ := a
  unfold Addr.add
  split <;> simp_all

theorem own_below {w w' : World} {B base : Nat} {e : TypeId} {size : Nat} {v : Value} {n : Nat} {xs : List Value} (h : w.ownsRow base e size v n xs) (hb : Below B w w') (hB : w.heap.size ≤ B) : w'.ownsRow base e size v n xs := by
  refine ⟨h.1, ?_⟩
  rcases h.2 with hn | ⟨g, cap, cur, rfl, hb1, hgg, rest⟩
  · exact .inl hn
  · refine .inr ⟨g, cap, cur, rfl, hb1, ?_, rest⟩
    rw [hb.block g (Nat.lt_of_lt_of_le (Array.getElem?_eq_some_iff.1 hgg).1 hB)]
    exact hgg

theorem grownBy_trans {w w1 w2 : World} {r r' : Option Nat} (h1 : w.grownBy w1 r) (h2 : w1.grownBy w2 r') (hr : ∀ b, r' = some b → r = some b ∨ w.heap.size ≤ b) : w.grownBy w2 r :=
  ⟨h2.os.trans h1.os, h2.tape.trans h1.tape, h2.output.trans h1.output, Nat.le_trans h1.size h2.size, fun k hk hne => by
    have a := h1.block k hk hne
    have b := h2.block k (Nat.lt_of_lt_of_le hk h1.size) (fun e => by
      rcases hr k e.symm with q | q
      · exact hne q.symm
      · omega)
    exact b.trans a⟩

theorem grownBy_below {w w1 : World} {r : Option Nat} (h : Below w.heap.size w w1) : w.grownBy w1 r :=
  ⟨h.os, h.tape, h.output, h.size, fun k hk _ => h.block k hk⟩

/-- an append of one cell to an owned row: what it leaves; a shorter view of the same row is kept -/
theorem wpList_append_keep {P : Program} (w : World) {ops : Array Oper} {rest : List Oper} {o : Oper} {a : Act} {Q : Exit → Act → World → Prop} (hgd : o.guard = none) (s x : Operand) (t : TypeId)
    (ho : o.op = Op.call { callee := Callee.builtin Builtin.append, args := #[s, x], argTypes := #[t, t] })
    (e : TypeId) (i : TypeInfo) (z : Value) (bytes : Nat) (ht : P.underlying t = some (.slice e)) (hi : P.info? e = some i) (hz : i.zero = some z) (hsize : i.size = 1) (hby : i.bytes = bytes) (hzs : z.cells.size = 1)
    (base g n cap : Nat) (xs : List Value) (hs : a.eval s = .slice (some ⟨g, 0, none⟩) n cap) (hown : w.ownsRow base e 1 (.slice (some ⟨g, 0, none⟩) n cap) n xs)
    (ad : Addr) (c : Nat) (u : Value) (hx : a.eval x = .slice (some ad) 1 c) (hu : w.cell? ad = some u) (hu1 : u.oneCell' = true)
    (b1 : n + 1 ≤ maxLen) (b2 : (n + 1) * bytes ≤ 140737488355328) (hbase : base ≤ w.heap.size)
    (h : ∀ g' cap' w', w'.ownsRow base e 1 (.slice (some ⟨g', 0, none⟩) (n + 1) cap') (n + 1) (xs ++ [u]) → w.grownBy w' (some g) → (g' = g ∨ (w.heap.size ≤ g')) →
      (∀ m c2 ys, m ≤ n → w.ownsRow base e 1 (.slice (some ⟨g, 0, none⟩) m c2) m ys → w'.ownsRow base e 1 (.slice (some ⟨g, 0, none⟩) m c2) m ys) →
      wpList P ops Q rest (a.put o.dst (.slice (some ⟨g', 0, none⟩) (n + 1) cap')) w') : wpList P ops Q (o :: rest) a w := by
  have hown' := hown
  obtain ⟨hl, hw⟩ := hown
  rcases hw with ⟨hv, _⟩ | ⟨g1, cap1, cur, hv, hb, hg, hn, hm, hcs, htk⟩
  · simp at hv
  · simp only [Value.slice.injEq, Option.some.injEq, Addr.mk.injEq, and_true, true_and] at hv
    obtain ⟨rfl, rfl⟩ := hv
    simp only [Nat.mul_one] at hl hcs htk
    refine wpList_append_arg w hgd s x t ho e i z 1 bytes ht hi hz hsize hby hzs (by decide) g 0 n cap xs hs (by omega) (fun j y hj => ?_) ad 1 c [u] hx rfl (fun j y hj => ?_) (fun y hy => ?_) (fun hr j hj => ?_) b1 b2 (fun hr => ?_) (fun _ v' w' ho' hgb => ?_)
    · have := hown'.cells (g := g) rfl j y hj
      rw [Addr.add_lit] at this
      exact this
    · match j, hj with
      | 0, hj => simp at hj; subst hj; rw [addr_zero]; exact hu
    · simp at hy; subst hy; exact hu1
    · simp at hj
      subst hj
      have hlt : n < cur.size := by omega
      constructor
      · rw [Nat.mul_one, Nat.zero_add, Nat.add_zero, cell_of_row w g n cur e (0, 0) hg]; simp [hlt]
      · have : w.frozen? ⟨g, 0 + n * 1 + 0, none⟩ = false := by simp [World.frozen?, hg]
        exact this
    · have hlt : n < cur.size := by omega
      have he : (w.setCells g (0 + n * 1) [u]) = w.setCell ⟨g, n, none⟩ u := by simp [World.setCells]
      rw [he]
      have hsame := heap_setCell_same w g n cur e u hg
      have hgb : w.grownBy (w.setCell ⟨g, n, none⟩ u) (some g) := ⟨rfl, rfl, rfl, by simp, fun k _ hk => heap_setCell_other w ⟨g, n, none⟩ k u (fun q => hk (by simp [q]))⟩
      refine h g cap _ ⟨by simp; omega, .inr ⟨g, cap, cur.setIfInBounds n u, rfl, hb, hsame, hr, hm, by simp; omega, ?_⟩⟩ hgb (.inl rfl) (fun m c2 ys hmn q => ?_)
      · rw [Nat.mul_one, Array.toList_setIfInBounds, List.take_set, List.take_succ_eq_append_getElem (by simpa using hlt), htk]
        rw [List.set_append_right _ _ (by omega), hl, Nat.sub_self]
        rfl
      · obtain ⟨q1, q2⟩ := q
        rcases q2 with ⟨qv, _⟩ | ⟨g3, cap3, cur3, qv, qb, qg, qn, qm, qcs, qtk⟩
        · simp at qv
        · simp only [Value.slice.injEq, Option.some.injEq, Addr.mk.injEq, and_true, true_and] at qv
          obtain ⟨rfl, rfl⟩ := qv
          rw [hg] at qg
          simp only [Option.some.injEq, Obj.cells.injEq, and_true] at qg
          subst qg
          refine ⟨q1, .inr ⟨g, c2, cur.setIfInBounds n u, rfl, qb, hsame, qn, qm, by simpa using qcs, ?_⟩⟩
          rw [Array.toList_setIfInBounds, List.take_set, qtk, List.set_eq_of_length_le (by omega)]
    · obtain ⟨hl2, hw2⟩ := ho'
      rcases hw2 with ⟨rfl, h0⟩ | ⟨g2, cap2, cur2, rfl, hb2, hg2, hn2, hm2, hcs2, htk2⟩
      · omega
      · refine h g2 cap2 w' ⟨hl2, .inr ⟨g2, cap2, cur2, rfl, Nat.le_trans hbase hb2, hg2, hn2, hm2, hcs2, htk2⟩⟩ ⟨hgb.os, hgb.tape, hgb.output, hgb.size, fun k hk _ => hgb.block k hk (by simp)⟩ (.inr hb2) (fun m c2 ys _ q => q.kept hgb (by simp [Value.ownBlock]))

end Go.Proofs.YtijlipllahfakaaGreatDoor
