/- A world of classes in memory; the walk of its add. -/
import Derived.Test.YthnoeibapiaceaaHrD
import Derived.Deep.AppendLies
import Derived.Deep.RegionLaw
import Derived.Maps.OwnSet
namespace Go.Proofs.Ythnoeibapiaceaa
open Go.RowKit Go.Maps

/-- a class as it lies in memory, but where its lists lie -/
structure HC where
  nm : ByteArray
  su : ByteArray
  ni : Nat
  xi : List Value
  fl : Int
  ld : Int
  ms : List HM
structure Plc where
  c : HC
  sp : Nat
  cl : List Nat

def numsF {H : Type} (D : DataW H) (k : Nat) : List Plc → DataW H
  | [] => D
  | p :: r => numsF (D.put (.string p.c.nm.data.toList) (.lit (.int .i64 (k : Int)))) (k + 1) r
theorem numsF_snoc {H : Type} (D : DataW H) (k : Nat) (l : List Plc) (p : Plc) : numsF D k (l ++ [p]) = (numsF D k l).put (.string p.c.nm.data.toList) (.lit (.int .i64 ((k + l.length : Nat) : Int))) := by
  induction l generalizing D k with
  | nil => rfl
  | cons x l ih =>
    have e : k + (x :: l).length = k + 1 + l.length := by rw [List.length_cons]; omega
    rw [e]
    exact ih _ _
/-- the numbers of the names -/
def numsD (ps : List Plc) : DataW Unit := numsF (.map []) 0 ps
theorem numsD_snoc (l : List Plc) (p : Plc) : numsD (l ++ [p]) = (numsD l).put (.string p.c.nm.data.toList) (.lit (.int .i64 (l.length : Int))) := by
  rw [numsD, numsF_snoc, Nat.zero_add]; rfl

structure PlcAt (w : World) (N : Nat) (p : PV) (q : Plc) : Prop where
  nm : p.nm = q.c.nm
  su : p.su = q.c.su
  fl : p.fl = q.c.fl
  ld : p.ld = q.c.ld
  sp : p.sp = q.sp
  own : ∃ qm, qm.map Prod.fst = q.c.ms ∧ OwnC w N p.vi q.c.ni q.c.xi p.vm qm
  clo : w.ownsRow N 3 1 p.vc q.cl.length (q.cl.map numV)

/-- the closures are of the classes that are there, each once -/
def PW (ps : List Plc) : Prop := ∀ q ∈ ps, (∀ i ∈ q.cl, i < ps.length) ∧ q.cl.Nodup

/-- block b is a world of the places ps; its map is block mb -/
structure HW (w : World) (N b mb : Nat) (ps : List Plc) (vp : Value) (pv : List PV) : Prop where
  hb : w.heap[b]? = some (.cells #[vp, .map (some mb)] 52 (0, 0))
  row : w.ownsRow N 71 8 vp pv.length (flatP pv)
  len : pv.length = ps.length
  pl : ∀ (k : Nat) (p : PV) (q : Plc), pv[k]? = some p → ps[k]? = some q → PlcAt w N p q
  map : w.ownsMap Try.prog 9 (plainElem (H := Unit) Try.prog 3) mb ps.length (numsD ps)
  lb : N ≤ b
  lm : N ≤ mb
  wf : PW ps

/-- what turns neither a block of strings, methods, instructions or numbers leaves a place as it is -/
theorem PlcAt.kept {w w' : World} {N : Nat} {p : PV} {q : Plc} {r : Option Nat} (h : PlcAt w N p q) (hg : w.grownBy w' r) (hr : ∀ (e s : Nat) (v : Value) (n : Nat) (xs : List Value), e = 9 ∨ e = 42 ∨ e = 86 ∨ e = 3 → w.ownsRow N e s v n xs → v.ownBlock = none ∨ v.ownBlock ≠ r) : PlcAt w' N p q := by
  obtain ⟨qm, h1, h2⟩ := h.own
  exact ⟨h.nm, h.su, h.fl, h.ld, h.sp, ⟨qm, h1, h2.ifs.kept hg (hr _ _ _ _ _ (by decide) h2.ifs), h2.ms.kept hg (hr _ _ _ _ _ (by decide) h2.ms), fun x hx => (h2.cod x hx).kept hg (hr _ _ _ _ _ (by decide) (h2.cod x hx))⟩, h.clo.kept hg (hr _ _ _ _ _ (by decide) h.clo)⟩
theorem PlcAt.below {w w' : World} {N : Nat} {p : PV} {q : Plc} (h : PlcAt w N p q) (hb : Below w.heap.size w w') : PlcAt w' N p q :=
  h.kept (below_grown hb none) (fun _ _ v _ _ _ _ => by cases v.ownBlock <;> simp)
theorem HW.below {w w' : World} {N b mb : Nat} {ps : List Plc} {vp : Value} {pv : List PV} (h : HW w N b mb ps vp pv) (hb : Below w.heap.size w w') : HW w' N b mb ps vp pv :=
  ⟨(hb.block b (Array.getElem?_eq_some_iff.1 h.hb).1).trans h.hb, rowBelow h.row hb, h.len, fun k p q h1 h2 => (h.pl k p q h1 h2).below hb, h.map.kept (below_grown hb none) (by simp), h.lb, h.lm, h.wf⟩

theorem nodup_lt_len : ∀ (n : Nat) (l : List Nat), l.Nodup → (∀ i ∈ l, i < n) → l.length ≤ n
  | 0, l, _, h => by
    cases l with
    | nil => exact Nat.le_refl _
    | cons x r => exact absurd (h x (by simp)) (by omega)
  | n + 1, l, hd, h => by
    have h1 := nodup_lt_len n (l.erase n) (hd.erase n) (fun i hi => by
      have h2 := h i (List.mem_of_mem_erase hi)
      have h3 : i ≠ n := fun e => by subst e; exact hd.not_mem_erase hi
      omega)
    have h2 := List.length_erase_le (a := n) (l := l)
    by_cases hm : n ∈ l
    · have := List.length_erase_of_mem hm
      omega
    · rw [List.erase_of_not_mem hm] at h1; omega
theorem takeL_nodup (cl a : List Nat) (h : cl.Nodup) : (takeL cl a).Nodup := by
  induction a generalizing cl with
  | nil => exact h
  | cons x a ih =>
    refine ih _ ?_
    split
    · exact h
    · rename_i hx
      rw [List.nodup_append]
      refine ⟨h, by simp, fun y hy z hz => ?_⟩
      simp at hz
      subst hz
      intro e
      subst e
      exact hx (List.contains_iff_mem.2 hy)
theorem takeL_mem (cl a : List Nat) (i : Nat) (h : i ∈ takeL cl a) : i ∈ cl ∨ i ∈ a := by
  induction a generalizing cl with
  | nil => exact .inl h
  | cons x a ih =>
    rcases ih _ h with h1 | h1
    · split at h1
      · exact .inl h1
      · rcases List.mem_append.1 h1 with h2 | h2
        · exact .inl h2
        · simp at h2; exact .inr (by rw [h2]; simp)
    · exact .inr (List.mem_cons_of_mem _ h1)
theorem gath_wf (cls : List (List Nat)) (n sup : Nat) (ifs : List Nat) (hc : ∀ c ∈ cls, ∀ i ∈ c, i < n) (hi : ∀ i ∈ ifs, i < n) : (∀ i ∈ gathL cls sup ifs, i < n) ∧ (gathL cls sup ifs).Nodup := by
  have hgd : ∀ k, ∀ i ∈ cls.getD k [], i < n := fun k i hk => by
    rw [List.getD_eq_getElem?_getD] at hk
    cases e : cls[k]? with
    | none => rw [e] at hk; simp at hk
    | some c => rw [e] at hk; exact hc c (List.mem_of_getElem? e) i hk
  have key : ∀ (l : List Nat) (c : List Nat), (∀ i ∈ l, i < n) → (∀ i ∈ c, i < n) → c.Nodup → (∀ i ∈ l.foldl (gathF cls) c, i < n) ∧ (l.foldl (gathF cls) c).Nodup := by
    intro l
    induction l with
    | nil => exact fun c _ h2 h3 => ⟨h2, h3⟩
    | cons x l ih =>
      intro c h1 h2 h3
      refine ih _ (fun i hi => h1 i (List.mem_cons_of_mem _ hi)) (fun i hi => ?_) (takeL_nodup _ _ (takeL_nodup _ _ h3))
      rcases takeL_mem _ _ _ hi with h4 | h4
      · rcases takeL_mem _ _ _ h4 with h5 | h5
        · exact h2 i h5
        · exact hgd _ i h5
      · simp at h4; rw [h4]; exact h1 x (by simp)
  exact key ifs _ hi (fun i hi => by
    rcases takeL_mem _ _ _ hi with h4 | h4
    · simp at h4
    · exact hgd _ i h4) (takeL_nodup _ _ (by simp))

theorem step_call1 {P : Program} {ops : Array Oper} {o : Oper} {a : Act} {w : World} {K : Act → World → Prop} {Q : Exit → Act → World → Prop} {E : Prop} (hg : o.guard = none) (f : Nat) (hf : ∀ (vs : Array Value) (w : World), (callFunc f vs).run P w = .ok (.enter f vs) w) (x : Operand) (t : TypeId)
    (hop : o.op = Op.call { callee := Callee.value (Operand.func f), args := #[x], argTypes := #[t] }) {R : Ending → World → Prop} (v : Value) (hv : a.eval x = v) (h : Calls P f #[v] w R) (hR : ∀ e w', R e w' → ∃ u, e = .returned u ∧ K (a.put o.dst u) w') :
    if Region.wanted o (yielded ops a.tmps) = true then Oper.wp P o a w K Q else E := by
  have hw : Region.wanted o (yielded ops a.tmps) = true := by simp [Region.wanted, hg]
  rw [if_pos hw]
  unfold Oper.wp
  have e : (execOp a.eval o).run P w = .ok (.enter f #[v]) w := by
    simp [execOp, hop, resolve, invoke, hv]
    simp [go_sem, hf]
  rw [e, Oper.upon_enter]
  exact h.mono (fun e w' hr => by obtain ⟨u, rfl, hk⟩ := hR e w' hr; exact hk)
theorem step_call3 {P : Program} {ops : Array Oper} {o : Oper} {a : Act} {w : World} {K : Act → World → Prop} {Q : Exit → Act → World → Prop} {E : Prop} (hg : o.guard = none) (f : Nat) (hf : ∀ (vs : Array Value) (w : World), (callFunc f vs).run P w = .ok (.enter f vs) w) (x y z : Operand) (t1 t2 t3 : TypeId)
    (hop : o.op = Op.call { callee := Callee.value (Operand.func f), args := #[x, y, z], argTypes := #[t1, t2, t3] }) {R : Ending → World → Prop} (v1 v2 v3 : Value) (hv1 : a.eval x = v1) (hv2 : a.eval y = v2) (hv3 : a.eval z = v3) (h : Calls P f #[v1, v2, v3] w R) (hR : ∀ e w', R e w' → ∃ u, e = .returned u ∧ K (a.put o.dst u) w') :
    if Region.wanted o (yielded ops a.tmps) = true then Oper.wp P o a w K Q else E := by
  have hw : Region.wanted o (yielded ops a.tmps) = true := by simp [Region.wanted, hg]
  rw [if_pos hw]
  unfold Oper.wp
  have e : (execOp a.eval o).run P w = .ok (.enter f #[v1, v2, v3]) w := by
    simp [execOp, hop, resolve, invoke, hv1, hv2, hv3]
    simp [go_sem, hf]
  rw [e, Oper.upon_enter]
  exact h.mono (fun e w' hr => by obtain ⟨u, rfl, hk⟩ := hR e w' hr; exact hk)
theorem call48 (vs : Array Value) (w : World) : (callFunc 32 vs).run Try.prog w = .ok (.enter 32 vs) w := by simp [go_sem]
theorem call86 (vs : Array Value) (w : World) : (callFunc 33 vs).run Try.prog w = .ok (.enter 33 vs) w := by simp [go_sem]
theorem step_mapUpdate {H : Type} {P : Program} {ops : Array Oper} {o : Oper} {a : Act} {w : World} {K : Act → World → Prop} {Q : Exit → Act → World → Prop} {E : Prop}
    (hg : o.guard = none) (m x v : Operand) (t : TypeId) (hop : o.op = Op.mapUpdate t m x v)
    (k e : TypeId) (Ky : Keyed P k) (ht : P.underlying t = some (.map k e)) (R : Value → Option (DataW H × List MemPlace)) (b n : Nat) (D : DataW H)
    (hm : a.eval m = .map (some b)) (hown : w.ownsMap P k R b n D) (hn : n < maxLen) (key val : Value) (kl : Lit) (hx : a.eval x = key) (hv : a.eval v = val) (hkey : keyOf P k key = some kl)
    (d : DataW H) (ps : List MemPlace) (hval : R val = some (d, ps))
    (hK : ∀ w', w'.ownsMap P k R b (n + 1) (D.put kl d) → w.grownBy w' (some b) → K (a.put o.dst undef) w') :
    if Region.wanted o (yielded ops a.tmps) = true then Oper.wp P o a w K Q else E := by
  have hw : Region.wanted o (yielded ops a.tmps) = true := by simp [Region.wanted, hg]
  rw [if_pos hw]
  obtain ⟨w', hrun, r1, r2⟩ := hown.update Ky ht hn hkey hval
  unfold Oper.wp
  simp [execOp, hop, hm, hx, hv, hrun, Result.andThen]
  exact hK w' r1 r2
end Go.Proofs.Ythnoeibapiaceaa
