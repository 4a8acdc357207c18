/- The law HierClosure: its loops, each by itself. -/
import Derived.Test.YtfkdemkdkepmdabGreatOrdB
import Derived.Test.YtfkdemkdkepmdabGreatHrW
import Derived.Test.YtfkdemkdkepmdabGreatHrZ
import Derived.Test.YtfkdemkdkepmdabGreatHrOi
import Derived.Deep.RegionHeld3
namespace Go.Proofs.YtfkdemkdkepmdabGreat
open Go.RowKit Go.Maps

def topLoops : Code → List Code
  | .loop c => [c]
  | .seq a b => topLoops a ++ topLoops b
  | .block _ c => topLoops c
  | .scope c => topLoops c
  | .cond _ a b => topLoops a ++ topLoops b
  | _ => []
noncomputable def nthLoop (c : Code) (k : Nat) : Code := ((topLoops c)[k]?).getD .skip
noncomputable def aBody : Code := (Tryz.f3.body.map fun c => nthLoop c 1).getD .skip
noncomputable def iBody : Code := nthLoop aBody 0
noncomputable def mBody : Code := nthLoop aBody 1
noncomputable def jBody : Code := nthLoop iBody 0
noncomputable def kBody : Code := nthLoop iBody 1

set_option maxRecDepth 1000000 in
set_option maxHeartbeats 4000000 in
theorem jLoop (b i x : Nat) (l : List Nat) (hl : l.length ≤ 1000000) (hi : l[i]? = some x) (al : Option Addr) (cl : Nat) (w : World) (HV : Hid (Rds w (.slice al l.length cl) l.length 1 (l.map numV)))
    (HE : Hid (∀ (j y : Nat) (w' : World), i < j → l[j]? = some y → Below w.heap.size w w' → x ≠ y ∧ Calls Tryz.prog 12 #[.pointer (some ⟨b, 0, none⟩), .int .i64 (x : Int), .int .i64 (y : Int)] w' fun e w'' => e = .returned (.bool false) ∧ Below w'.heap.size w' w''))
    (t0 t1 t2 t4 t5 t6 t7 t9 t10 t11 t12 t13 t16 t17 t18 t19 t20 t21 t22 t23 t24 t25 t26 t27 t28 t29 t30 t31 t32 t33 t34 t35 t36 t37 t38 t39 t40 t41 t42 t43 t44 t45 t46 t47 t48 t49 t50 t51 t52 t53 t54 t55 t56 t57 t58 t59 t60 t61 t62 t63 t64 t65 t66 t67 t68 t69 t70 t71 t72 t73 t74 t75 t76 t77 t78 t79 t80 t81 t82 t83 t84 t85 t86 t87 t88 t89 t90 t91 t92 t93 t94 t95 t96 t97 t98 t99 t100 t101 t102 t103 t104 t105 t106 t107 t108 t109 t110 t111 t112 t113 t114 t115 t116 t117 t118 t119 t120 t121 t122 t123 t124 t125 t126 t127 t128 t129 t130 t131 t132 t133 t134 t135 t136 t137 t138 t139 t140 t141 t142 t143 t144 t145 t146 t147 t148 t149 t150 t151 t152 t153 t154 t155 t156 t157 t158 t159 t160 t161 t162 t163 t164 t165 t166 t167 t168 t169 t170 t171 t172 t173 t174 t175 t176 t177 t178 t179 t180 : Value) (Q0 : Exit → Act → World → Prop)
    (hexit : ∀ (u2 u15 u94 u95 u96 u97 u98 u99 u100 u101 u102 u103 u104 u105 u106 u107 u108 u109 u110 u111 u112 u113 u114 u115 u116 u117 u118 u119 u120 : Value) (w' : World), Hid (Below w.heap.size w w') → Q0 (.exit 6) ⟨(List.toArray (t0 :: t1 :: u2 :: .pointer (some ⟨b, 0, none⟩) :: t4 :: t5 :: t6 :: t7 :: .slice al l.length cl :: t9 :: t10 :: t11 :: t12 :: t13 :: .int .i64 (i : Int) :: u15 :: t16 :: t17 :: t18 :: t19 :: t20 :: t21 :: t22 :: t23 :: t24 :: t25 :: t26 :: t27 :: t28 :: t29 :: t30 :: t31 :: t32 :: t33 :: t34 :: t35 :: t36 :: t37 :: t38 :: t39 :: t40 :: t41 :: t42 :: t43 :: t44 :: t45 :: t46 :: t47 :: t48 :: t49 :: t50 :: t51 :: t52 :: t53 :: t54 :: t55 :: t56 :: t57 :: t58 :: t59 :: t60 :: t61 :: t62 :: t63 :: t64 :: t65 :: t66 :: t67 :: t68 :: t69 :: t70 :: t71 :: t72 :: t73 :: t74 :: t75 :: t76 :: t77 :: t78 :: t79 :: t80 :: t81 :: t82 :: t83 :: t84 :: t85 :: t86 :: t87 :: t88 :: t89 :: t90 :: t91 :: t92 :: t93 :: u94 :: u95 :: u96 :: u97 :: u98 :: u99 :: u100 :: u101 :: u102 :: u103 :: u104 :: u105 :: u106 :: u107 :: u108 :: u109 :: u110 :: u111 :: u112 :: u113 :: u114 :: u115 :: u116 :: u117 :: u118 :: u119 :: u120 :: t121 :: t122 :: t123 :: t124 :: t125 :: t126 :: t127 :: t128 :: t129 :: t130 :: t131 :: t132 :: t133 :: t134 :: t135 :: t136 :: t137 :: t138 :: t139 :: t140 :: t141 :: t142 :: t143 :: t144 :: t145 :: t146 :: t147 :: t148 :: t149 :: t150 :: t151 :: t152 :: t153 :: t154 :: t155 :: t156 :: t157 :: t158 :: t159 :: t160 :: t161 :: t162 :: t163 :: t164 :: t165 :: t166 :: t167 :: t168 :: t169 :: t170 :: t171 :: t172 :: t173 :: t174 :: t175 :: t176 :: t177 :: t178 :: t179 :: t180 :: [])), []⟩ w') :
    Code.wp Tryz.prog (Code.loop jBody) Q0 ⟨(List.toArray (t0 :: t1 :: t2 :: .pointer (some ⟨b, 0, none⟩) :: t4 :: t5 :: t6 :: t7 :: .slice al l.length cl :: t9 :: t10 :: t11 :: t12 :: t13 :: .int .i64 (i : Int) :: .int .i64 ((i : Int) + 1) :: t16 :: t17 :: t18 :: t19 :: t20 :: t21 :: t22 :: t23 :: t24 :: t25 :: t26 :: t27 :: t28 :: t29 :: t30 :: t31 :: t32 :: t33 :: t34 :: t35 :: t36 :: t37 :: t38 :: t39 :: t40 :: t41 :: t42 :: t43 :: t44 :: t45 :: t46 :: t47 :: t48 :: t49 :: t50 :: t51 :: t52 :: t53 :: t54 :: t55 :: t56 :: t57 :: t58 :: t59 :: t60 :: t61 :: t62 :: t63 :: t64 :: t65 :: t66 :: t67 :: t68 :: t69 :: t70 :: t71 :: t72 :: t73 :: t74 :: t75 :: t76 :: t77 :: t78 :: t79 :: t80 :: t81 :: t82 :: t83 :: t84 :: t85 :: t86 :: t87 :: t88 :: t89 :: t90 :: t91 :: t92 :: t93 :: t94 :: t95 :: t96 :: t97 :: t98 :: t99 :: t100 :: t101 :: t102 :: t103 :: t104 :: t105 :: t106 :: t107 :: t108 :: t109 :: t110 :: t111 :: t112 :: t113 :: t114 :: t115 :: t116 :: t117 :: t118 :: t119 :: t120 :: t121 :: t122 :: t123 :: t124 :: t125 :: t126 :: t127 :: t128 :: t129 :: t130 :: t131 :: t132 :: t133 :: t134 :: t135 :: t136 :: t137 :: t138 :: t139 :: t140 :: t141 :: t142 :: t143 :: t144 :: t145 :: t146 :: t147 :: t148 :: t149 :: t150 :: t151 :: t152 :: t153 :: t154 :: t155 :: t156 :: t157 :: t158 :: t159 :: t160 :: t161 :: t162 :: t163 :: t164 :: t165 :: t166 :: t167 :: t168 :: t169 :: t170 :: t171 :: t172 :: t173 :: t174 :: t175 :: t176 :: t177 :: t178 :: t179 :: t180 :: [])), []⟩ w := by
  conv => arg 2; arg 1; whnf
  have HX : Hid (∀ (u2 u15 u94 u95 u96 u97 u98 u99 u100 u101 u102 u103 u104 u105 u106 u107 u108 u109 u110 u111 u112 u113 u114 u115 u116 u117 u118 u119 u120 : Value) (w' : World), Hid (Below w.heap.size w w') → Q0 (.exit 6) ⟨(List.toArray (t0 :: t1 :: u2 :: .pointer (some ⟨b, 0, none⟩) :: t4 :: t5 :: t6 :: t7 :: .slice al l.length cl :: t9 :: t10 :: t11 :: t12 :: t13 :: .int .i64 (i : Int) :: u15 :: t16 :: t17 :: t18 :: t19 :: t20 :: t21 :: t22 :: t23 :: t24 :: t25 :: t26 :: t27 :: t28 :: t29 :: t30 :: t31 :: t32 :: t33 :: t34 :: t35 :: t36 :: t37 :: t38 :: t39 :: t40 :: t41 :: t42 :: t43 :: t44 :: t45 :: t46 :: t47 :: t48 :: t49 :: t50 :: t51 :: t52 :: t53 :: t54 :: t55 :: t56 :: t57 :: t58 :: t59 :: t60 :: t61 :: t62 :: t63 :: t64 :: t65 :: t66 :: t67 :: t68 :: t69 :: t70 :: t71 :: t72 :: t73 :: t74 :: t75 :: t76 :: t77 :: t78 :: t79 :: t80 :: t81 :: t82 :: t83 :: t84 :: t85 :: t86 :: t87 :: t88 :: t89 :: t90 :: t91 :: t92 :: t93 :: u94 :: u95 :: u96 :: u97 :: u98 :: u99 :: u100 :: u101 :: u102 :: u103 :: u104 :: u105 :: u106 :: u107 :: u108 :: u109 :: u110 :: u111 :: u112 :: u113 :: u114 :: u115 :: u116 :: u117 :: u118 :: u119 :: u120 :: t121 :: t122 :: t123 :: t124 :: t125 :: t126 :: t127 :: t128 :: t129 :: t130 :: t131 :: t132 :: t133 :: t134 :: t135 :: t136 :: t137 :: t138 :: t139 :: t140 :: t141 :: t142 :: t143 :: t144 :: t145 :: t146 :: t147 :: t148 :: t149 :: t150 :: t151 :: t152 :: t153 :: t154 :: t155 :: t156 :: t157 :: t158 :: t159 :: t160 :: t161 :: t162 :: t163 :: t164 :: t165 :: t166 :: t167 :: t168 :: t169 :: t170 :: t171 :: t172 :: t173 :: t174 :: t175 :: t176 :: t177 :: t178 :: t179 :: t180 :: [])), []⟩ w') := hexit
  obtain ⟨L, hL⟩ : ∃ L, l.length = L := ⟨_, rfl⟩
  have HL : Hid (l.length = L) := hL
  have hil : i < L := by rw [← hL]; exact (List.getElem?_eq_some_iff.1 hi).1
  obtain ⟨bk, o, rfl, hbk, hcx⟩ := rds_num HV.out hi
  rw [hL] at hl HX ⊢
  clear hexit hL
  go_loopw [15] (fun jv wr => ∃ j : Nat, jv = .int .i64 (j : Int) ∧ i < j ∧ j ≤ L ∧ Hid (Below w.heap.size w wr)) (fun jv _ => L - (intOf jv).toNat)
  case atStart => exact ⟨i + 1, by go_num, by omega, by omega, Below.refl _ _⟩
  case round =>
    obtain ⟨j, rfl, hij, hj, hB⟩ := hrel
    by_cases hlt : j < L
    · obtain ⟨y, hy⟩ : ∃ y, l[j]? = some y := ⟨_, List.getElem?_eq_getElem (by rw [HL.out]; exact hlt)⟩
      obtain ⟨bk', o', e', _, hcy⟩ := rds_num HV.out hy
      simp only [Option.some.injEq, Addr.mk.injEq, and_true] at e'
      obtain ⟨rfl, rfl⟩ := e'
      have p0 := (hB.out.cell (p := ⟨bk, o + i, none⟩) hbk).trans hcx
      have p1 := (hB.out.cell (p := ⟨bk, o + j, none⟩) hbk).trans hcy
      have HE1 : Hid (∀ w' : World, Below w.heap.size w w' → Calls Tryz.prog 12 #[.pointer (some ⟨b, 0, none⟩), .int .i64 (x : Int), .int .i64 (y : Int)] w' fun e w'' => e = .returned (.bool false) ∧ Below w'.heap.size w' w'') := fun w' hb => (HE.out j y w' hij hy hb).2
      have hxy : ¬ (x : Int) = (y : Int) := by have := (HE.out j y w hij hy (Below.refl _ _)).1; omega
      have hxy2 : ((x : Int) == (y : Int)) = false := by simpa using hxy
      have hxy3 : (x == y) = false := by have : ¬ x = y := by omega
                                         simpa using this
      have hbk2 : bk < wr.heap.size := Nat.lt_of_lt_of_le hbk hB.out.size
      have hiI : (i : Int) < (L : Int) := by omega
      have hjI : (j : Int) < (L : Int) := by omega
      clear HE HX HV hy hcx hcy
      go_wp2
      go_region_held3 (fun w' => w'.cell? ⟨bk, o + i, none⟩ = some (.int .i64 (x : Int)) ∧ w'.cell? ⟨bk, o + j, none⟩ = some (.int .i64 (y : Int))) (go_keep)
        (first | (go_at_call 12; refine (HE1.out _ hB.out.drew).mono ?_; rintro e w1 ⟨rfl, hb⟩; have B1 : Hid (Below w.heap.size w w1) := bstep hB.out.drew hb; replace p0 := (hb.cell (p := ⟨bk, o + i, none⟩) hbk2).trans p0; replace p1 := (hb.cell (p := ⟨bk, o + j, none⟩) hbk2).trans p1; clear hb HE1))
      go_wp2
      go_roundw
      case rel => exact ⟨j + 1, by go_num, by omega, by omega, B1⟩
      case measure => simp [intOf]; omega
    · have e : j = L := by omega
      subst e
      clear HE
      go_wp2
      exact HX.out _ _ _ _ _ _ _ _ _ _ _ _ _ _ _ _ _ _ _ _ _ _ _ _ _ _ _ _ _ _ hB
end Go.Proofs.YtfkdemkdkepmdabGreat
