/- The law HierOrder: the loop over the chain. -/
import Derived.Test.YtfkdemkdkepmdaaGreatLoA
namespace Go.Proofs.YtfkdemkdkepmdaaGreat
open Go.RowKit Go.Maps

set_option maxRecDepth 1000000 in
set_option maxHeartbeats 4000000 in
theorem chLoop (b d : Nat) (ch : List Nat) (hd : ch.length = d + 1) (ac : Option Addr) (cc : Nat) (w : World) (hl : d ≤ 1000000) (HV : Hid (Rds w (.slice ac (d + 1) cc) (d + 1) 1 (ch.map numV)))
    (HS : Hid (∀ (i x y : Nat) (w' : World), ch[i]? = some x → ch[i + 1]? = some y → Below w.heap.size w w' → Calls Tryz.prog 16 #[.pointer (some ⟨b, 0, none⟩), .int .i64 (x : Int)] w' fun e w'' => e = .returned (.tuple #[.int .i64 (y : Int), .int .i64 0]) ∧ Below w'.heap.size w' w''))
    (t0 t1 t2 t4 t5 t6 t8 t9 t10 t12 t13 t14 t15 t16 t18 t19 t20 t21 t22 t23 t24 t25 t26 t27 t28 t29 t30 t31 t32 t33 t34 t35 t36 t37 t38 t39 t40 t41 t42 t43 t44 t45 t46 t47 t48 t49 t50 t51 t52 t53 t54 t55 t56 t57 t58 t59 t60 t61 t62 t63 t64 t65 t66 t67 t68 t69 t70 t71 t72 t73 t74 t75 t76 t77 t78 t79 t80 t81 t82 t83 t84 t85 t86 t87 t88 t89 t90 t91 t92 t93 t94 t95 t96 t97 t98 t99 t100 t101 t102 t103 t104 t105 t106 t107 t108 t109 t110 t111 t112 t113 t114 t115 t116 t117 t118 t119 t120 t121 t122 t123 t124 t125 t126 t127 t128 t129 t130 t131 t132 t133 t134 t135 t136 t137 t138 t139 t140 t141 t142 t143 t144 t145 t146 t147 t148 t149 t150 t151 t152 t153 t154 t155 t156 t157 t158 t159 t160 t161 t162 t163 t164 t165 t166 t167 t168 t169 t170 t171 t172 t173 t174 t175 t176 t177 t178 t179 t180 t181 t182 t183 t184 t185 t186 t187 t188 t189 t190 t191 t192 t193 t194 t195 t196 t197 t198 t199 t200 t201 : Value) (Q0 : Exit → Act → World → Prop)
    (hexit : ∀ (u2 u17 u18 u19 u177 u178 u179 u180 u181 u182 u183 u184 u185 u186 u187 u188 u189 u190 u191 u192 u193 u194 u195 u196 u197 u198 u199 u200 u201 : Value) (w' : World), Hid (Below w.heap.size w w') → Q0 (.exit 10) ⟨(List.toArray (t0 :: t1 :: u2 :: .pointer (some ⟨b, 0, none⟩) :: t4 :: t5 :: t6 :: .slice ac (d + 1) cc :: t8 :: t9 :: t10 :: .int .i64 (d : Int) :: t12 :: t13 :: t14 :: t15 :: t16 :: u17 :: u18 :: u19 :: t20 :: t21 :: t22 :: t23 :: t24 :: t25 :: t26 :: t27 :: t28 :: t29 :: t30 :: t31 :: t32 :: t33 :: t34 :: t35 :: t36 :: t37 :: t38 :: t39 :: t40 :: t41 :: t42 :: t43 :: t44 :: t45 :: t46 :: t47 :: t48 :: t49 :: t50 :: t51 :: t52 :: t53 :: t54 :: t55 :: t56 :: t57 :: t58 :: t59 :: t60 :: t61 :: t62 :: t63 :: t64 :: t65 :: t66 :: t67 :: t68 :: t69 :: t70 :: t71 :: t72 :: t73 :: t74 :: t75 :: t76 :: t77 :: t78 :: t79 :: t80 :: t81 :: t82 :: t83 :: t84 :: t85 :: t86 :: t87 :: t88 :: t89 :: t90 :: t91 :: t92 :: t93 :: t94 :: t95 :: t96 :: t97 :: t98 :: t99 :: t100 :: t101 :: t102 :: t103 :: t104 :: t105 :: t106 :: t107 :: t108 :: t109 :: t110 :: t111 :: t112 :: t113 :: t114 :: t115 :: t116 :: t117 :: t118 :: t119 :: t120 :: t121 :: t122 :: t123 :: t124 :: t125 :: t126 :: t127 :: t128 :: t129 :: t130 :: t131 :: t132 :: t133 :: t134 :: t135 :: t136 :: t137 :: t138 :: t139 :: t140 :: t141 :: t142 :: t143 :: t144 :: t145 :: t146 :: t147 :: t148 :: t149 :: t150 :: t151 :: t152 :: t153 :: t154 :: t155 :: t156 :: t157 :: t158 :: t159 :: t160 :: t161 :: t162 :: t163 :: t164 :: t165 :: t166 :: t167 :: t168 :: t169 :: t170 :: t171 :: t172 :: t173 :: t174 :: t175 :: t176 :: u177 :: u178 :: u179 :: u180 :: u181 :: u182 :: u183 :: u184 :: u185 :: u186 :: u187 :: u188 :: u189 :: u190 :: u191 :: u192 :: u193 :: u194 :: u195 :: u196 :: u197 :: u198 :: u199 :: u200 :: u201 :: [])), []⟩ w') :
    Code.wp Tryz.prog (Code.loop chBody) Q0 ⟨(List.toArray (t0 :: t1 :: t2 :: .pointer (some ⟨b, 0, none⟩) :: t4 :: t5 :: t6 :: .slice ac (d + 1) cc :: t8 :: t9 :: t10 :: .int .i64 (d : Int) :: t12 :: t13 :: t14 :: t15 :: t16 :: .int .i64 0 :: t18 :: t19 :: t20 :: t21 :: t22 :: t23 :: t24 :: t25 :: t26 :: t27 :: t28 :: t29 :: t30 :: t31 :: t32 :: t33 :: t34 :: t35 :: t36 :: t37 :: t38 :: t39 :: t40 :: t41 :: t42 :: t43 :: t44 :: t45 :: t46 :: t47 :: t48 :: t49 :: t50 :: t51 :: t52 :: t53 :: t54 :: t55 :: t56 :: t57 :: t58 :: t59 :: t60 :: t61 :: t62 :: t63 :: t64 :: t65 :: t66 :: t67 :: t68 :: t69 :: t70 :: t71 :: t72 :: t73 :: t74 :: t75 :: t76 :: t77 :: t78 :: t79 :: t80 :: t81 :: t82 :: t83 :: t84 :: t85 :: t86 :: t87 :: t88 :: t89 :: t90 :: t91 :: t92 :: t93 :: t94 :: t95 :: t96 :: t97 :: t98 :: t99 :: t100 :: t101 :: t102 :: t103 :: t104 :: t105 :: t106 :: t107 :: t108 :: t109 :: t110 :: t111 :: t112 :: t113 :: t114 :: t115 :: t116 :: t117 :: t118 :: t119 :: t120 :: t121 :: t122 :: t123 :: t124 :: t125 :: t126 :: t127 :: t128 :: t129 :: t130 :: t131 :: t132 :: t133 :: t134 :: t135 :: t136 :: t137 :: t138 :: t139 :: t140 :: t141 :: t142 :: t143 :: t144 :: t145 :: t146 :: t147 :: t148 :: t149 :: t150 :: t151 :: t152 :: t153 :: t154 :: t155 :: t156 :: t157 :: t158 :: t159 :: t160 :: t161 :: t162 :: t163 :: t164 :: t165 :: t166 :: t167 :: t168 :: t169 :: t170 :: t171 :: t172 :: t173 :: t174 :: t175 :: t176 :: t177 :: t178 :: t179 :: t180 :: t181 :: t182 :: t183 :: t184 :: t185 :: t186 :: t187 :: t188 :: t189 :: t190 :: t191 :: t192 :: t193 :: t194 :: t195 :: t196 :: t197 :: t198 :: t199 :: t200 :: t201 :: [])), []⟩ w := by
  conv => arg 2; arg 1; whnf
  have HX : Hid (∀ (u2 u17 u18 u19 u177 u178 u179 u180 u181 u182 u183 u184 u185 u186 u187 u188 u189 u190 u191 u192 u193 u194 u195 u196 u197 u198 u199 u200 u201 : Value) (w' : World), Hid (Below w.heap.size w w') → Q0 (.exit 10) ⟨(List.toArray (t0 :: t1 :: u2 :: .pointer (some ⟨b, 0, none⟩) :: t4 :: t5 :: t6 :: .slice ac (d + 1) cc :: t8 :: t9 :: t10 :: .int .i64 (d : Int) :: t12 :: t13 :: t14 :: t15 :: t16 :: u17 :: u18 :: u19 :: t20 :: t21 :: t22 :: t23 :: t24 :: t25 :: t26 :: t27 :: t28 :: t29 :: t30 :: t31 :: t32 :: t33 :: t34 :: t35 :: t36 :: t37 :: t38 :: t39 :: t40 :: t41 :: t42 :: t43 :: t44 :: t45 :: t46 :: t47 :: t48 :: t49 :: t50 :: t51 :: t52 :: t53 :: t54 :: t55 :: t56 :: t57 :: t58 :: t59 :: t60 :: t61 :: t62 :: t63 :: t64 :: t65 :: t66 :: t67 :: t68 :: t69 :: t70 :: t71 :: t72 :: t73 :: t74 :: t75 :: t76 :: t77 :: t78 :: t79 :: t80 :: t81 :: t82 :: t83 :: t84 :: t85 :: t86 :: t87 :: t88 :: t89 :: t90 :: t91 :: t92 :: t93 :: t94 :: t95 :: t96 :: t97 :: t98 :: t99 :: t100 :: t101 :: t102 :: t103 :: t104 :: t105 :: t106 :: t107 :: t108 :: t109 :: t110 :: t111 :: t112 :: t113 :: t114 :: t115 :: t116 :: t117 :: t118 :: t119 :: t120 :: t121 :: t122 :: t123 :: t124 :: t125 :: t126 :: t127 :: t128 :: t129 :: t130 :: t131 :: t132 :: t133 :: t134 :: t135 :: t136 :: t137 :: t138 :: t139 :: t140 :: t141 :: t142 :: t143 :: t144 :: t145 :: t146 :: t147 :: t148 :: t149 :: t150 :: t151 :: t152 :: t153 :: t154 :: t155 :: t156 :: t157 :: t158 :: t159 :: t160 :: t161 :: t162 :: t163 :: t164 :: t165 :: t166 :: t167 :: t168 :: t169 :: t170 :: t171 :: t172 :: t173 :: t174 :: t175 :: t176 :: u177 :: u178 :: u179 :: u180 :: u181 :: u182 :: u183 :: u184 :: u185 :: u186 :: u187 :: u188 :: u189 :: u190 :: u191 :: u192 :: u193 :: u194 :: u195 :: u196 :: u197 :: u198 :: u199 :: u200 :: u201 :: [])), []⟩ w') := hexit
  have HL : Hid (ch.length = d + 1) := hd
  clear hexit hd
  go_loopw [17] (fun iv wr => ∃ i : Nat, iv = .int .i64 (i : Int) ∧ i ≤ d ∧ Hid (Below w.heap.size w wr)) (fun iv _ => d - (intOf iv).toNat)
  case atStart => exact ⟨0, rfl, Nat.zero_le _, Below.refl _ _⟩
  case round =>
    obtain ⟨i, rfl, hi, hB⟩ := hrel
    by_cases hlt : i < d
    · obtain ⟨x, hx⟩ : ∃ x, ch[i]? = some x := ⟨_, List.getElem?_eq_getElem (by rw [HL.out]; omega)⟩
      obtain ⟨y, hy⟩ : ∃ y, ch[i + 1]? = some y := ⟨_, List.getElem?_eq_getElem (by rw [HL.out]; omega)⟩
      obtain ⟨bk, o, rfl, hbk, hcell, hcell2⟩ : ∃ bk o, ac = some ⟨bk, o, none⟩ ∧ bk < w.heap.size ∧ w.cell? ⟨bk, o + i, none⟩ = some (.int .i64 (x : Int)) ∧ w.cell? ⟨bk, o + (i + 1), none⟩ = some (.int .i64 (y : Int)) := by
        rcases HV.out.val with ⟨_, e2⟩ | ⟨bk, o, c, e, _, _, h3, h4⟩
        · omega
        · simp only [Value.slice.injEq] at e
          exact ⟨bk, o, e.1, h3, h4 i _ (by rw [List.getElem?_map, hx]; rfl), h4 (i + 1) _ (by rw [List.getElem?_map, hy]; rfl)⟩
      have p0 := (hB.out.cell (p := ⟨bk, o + i, none⟩) hbk).trans hcell
      have HS1 : Hid (Calls Tryz.prog 16 #[.pointer (some ⟨b, 0, none⟩), .int .i64 (x : Int)] wr fun e w'' => e = .returned (.tuple #[.int .i64 (y : Int), .int .i64 0]) ∧ Below wr.heap.size wr w'') := HS.out i x y wr hx hy hB.out
      have HC0 : Hid (w.cell? ⟨bk, o + (i + 1), none⟩ = some (.int .i64 (y : Int))) := hcell2
      have hltI : (i : Int) < (d : Int) := by omega
      have hi1 : ((i + 1 : Nat) : Int) < ((d : Int) + 1) := by omega
      have hwr1 : IntKind.i64.wrap ((i : Int) + 1) = (i : Int) + 1 := by rw [IntKind.wrap_i64]; omega
      have hi2 : (i : Int) + 1 < (d : Int) + 1 := by omega
      have hi3 : (0 : Int) ≤ (i : Int) + 1 := by omega
      have hnt : ((i : Int) + 1).toNat = i + 1 := by omega
      clear HS HX HV hx hy hcell hcell2
      go_wp2_with (go_at_call 16; refine HS1.out.mono ?_; rintro e w1 ⟨rfl, hb⟩; have B1 : Hid (Below w.heap.size w w1) := bstep hB.out hb; have p1 := (B1.out.cell (p := ⟨bk, o + (i + 1), none⟩) hbk).trans HC0.out; clear hb HS1)
      go_roundw
      case rel => exact ⟨i + 1, by go_num, by omega, B1⟩
      case measure => simp [intOf]; omega
    · have e : i = d := by omega
      subst e
      clear HS
      go_wp2
      exact HX.out _ _ _ _ _ _ _ _ _ _ _ _ _ _ _ _ _ _ _ _ _ _ _ _ _ _ _ _ _ _ hB
end Go.Proofs.YtfkdemkdkepmdaaGreat
