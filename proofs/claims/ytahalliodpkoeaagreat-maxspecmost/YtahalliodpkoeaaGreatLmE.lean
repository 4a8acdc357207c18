/- The law MaxspecMost: its loops, each by itself (the third). -/
import Derived.Test.YtahalliodpkoeaaGreatLmA
namespace Go.Proofs.YtahalliodpkoeaaGreat
open Go.RowKit Go.Maps

def topLoops : Code → List Code
  | .loop c => [c]
  | .seq a b => topLoops a ++ topLoops b
  | .block _ c => topLoops c
  | .scope c => topLoops c
  | .cond _ a b => topLoops a ++ topLoops b
  | _ => []
noncomputable def nthLoop (c : Code) (k : Nat) : Code := ((topLoops c)[k]?).getD .skip
noncomputable def moI0 : Code := (Tryz.f13.body.map fun c => nthLoop c 0).getD .skip
noncomputable def moJ0 : Code := nthLoop moI0 0
noncomputable def moA0 : Code := (Tryz.f13.body.map fun c => nthLoop c 1).getD .skip
noncomputable def moM0 : Code := nthLoop moA0 0
noncomputable def moC0 : Code := (Tryz.f13.body.map fun c => nthLoop c 2).getD .skip

set_option maxRecDepth 1000000 in
set_option maxHeartbeats 4000000 in
theorem moJ (b : Nat) (ps : List Plc) (va : Value) (am : Option Addr) (cm K : Nat) (A M : List (Int × Int)) (HK : Hid (M.length = K)) (hK : K ≤ 300) (HWI : Hid (WI ps)) (HAP : Hid (∀ (i j : Nat) (a c : Int × Int), M[i]? = some a → M[j]? = some c → i ≠ j → extI ps a.1 c.1 = false)) (i : Nat) (hi : i < K) (w : World) (HMo : Hid (MoW b ps va (.slice am M.length cm) A M w))
    (t0 t1 t2 t3 t4 t5 t6 t7 t8 t10 t11 t13 t16 t17 t18 t19 t20 t21 t22 t23 t24 t25 t26 t27 t28 t29 t30 t31 t32 t33 t34 t35 t36 t37 t38 t39 t40 t41 t42 t43 t44 t45 t46 t47 t48 t49 t50 t51 t52 t53 t54 t55 t56 t57 t58 t59 t60 t61 t62 t63 t64 t65 t66 t67 t68 t69 t70 t71 t72 t73 t74 t75 t76 t77 t78 t79 t80 t81 t82 t83 t84 t85 t86 t87 t88 t89 t90 t91 t92 t93 t94 t95 t96 t97 t98 t99 t100 t101 t102 t103 t104 t105 t106 t107 t108 t109 t110 t111 t112 t113 t114 t115 t116 t117 t118 t119 t120 t121 t122 t123 t124 t125 t126 t127 t128 t129 t130 t131 t132 t133 t134 t135 t136 t137 t138 t139 t140 t141 t142 t143 t144 t145 t146 t147 t148 t149 t150 t151 t152 t153 t154 t155 t156 t157 t158 t159 t160 t161 t162 t163 t164 t165 t166 t167 t168 t169 t170 t171 t172 t173 t174 t175 t176 t177 t178 t179 t180 t181 t182 t183 t184 t185 t186 t187 t188 t189 t190 t191 t192 t193 t194 t195 t196 t197 t198 t199 t200 t201 t202 t203 t204 t205 t206 t207 t208 t209 t210 t211 t212 t213 t214 t215 t216 t217 t218 t219 t220 t221 t222 t223 t224 t225 t226 t227 t228 t229 t230 t231 t232 t233 : Value) (Q0 : Exit → Act → World → Prop)
    (hexit : ∀ (u8 u15 u73 u74 u75 u76 u77 u78 u79 u80 u81 u82 u83 u84 u85 u86 u87 u88 u89 u90 u91 u92 u93 u94 u95 : Value) (w' : World), Hid (Below w.heap.size w w') → Q0 (.exit 2) ⟨(List.toArray (t0 :: t1 :: t2 :: t3 :: t4 :: t5 :: t6 :: t7 :: u8 :: .pointer (some ⟨b, 0, none⟩) :: t10 :: t11 :: .slice am K cm :: t13 :: .int .i64 (i : Int) :: u15 :: t16 :: t17 :: t18 :: t19 :: t20 :: t21 :: t22 :: t23 :: t24 :: t25 :: t26 :: t27 :: t28 :: t29 :: t30 :: t31 :: t32 :: t33 :: t34 :: t35 :: t36 :: t37 :: t38 :: t39 :: t40 :: t41 :: t42 :: t43 :: t44 :: t45 :: t46 :: t47 :: t48 :: t49 :: t50 :: t51 :: t52 :: t53 :: t54 :: t55 :: t56 :: t57 :: t58 :: t59 :: t60 :: t61 :: t62 :: t63 :: t64 :: t65 :: t66 :: t67 :: t68 :: t69 :: t70 :: t71 :: t72 :: u73 :: u74 :: u75 :: u76 :: u77 :: u78 :: u79 :: u80 :: u81 :: u82 :: u83 :: u84 :: u85 :: u86 :: u87 :: u88 :: u89 :: u90 :: u91 :: u92 :: u93 :: u94 :: u95 :: t96 :: t97 :: t98 :: t99 :: t100 :: t101 :: t102 :: t103 :: t104 :: t105 :: t106 :: t107 :: t108 :: t109 :: t110 :: t111 :: t112 :: t113 :: t114 :: t115 :: t116 :: t117 :: t118 :: t119 :: t120 :: t121 :: t122 :: t123 :: t124 :: t125 :: t126 :: t127 :: t128 :: t129 :: t130 :: t131 :: t132 :: t133 :: t134 :: t135 :: t136 :: t137 :: t138 :: t139 :: t140 :: t141 :: t142 :: t143 :: t144 :: t145 :: t146 :: t147 :: t148 :: t149 :: t150 :: t151 :: t152 :: t153 :: t154 :: t155 :: t156 :: t157 :: t158 :: t159 :: t160 :: t161 :: t162 :: t163 :: t164 :: t165 :: t166 :: t167 :: t168 :: t169 :: t170 :: t171 :: t172 :: t173 :: t174 :: t175 :: t176 :: t177 :: t178 :: t179 :: t180 :: t181 :: t182 :: t183 :: t184 :: t185 :: t186 :: t187 :: t188 :: t189 :: t190 :: t191 :: t192 :: t193 :: t194 :: t195 :: t196 :: t197 :: t198 :: t199 :: t200 :: t201 :: t202 :: t203 :: t204 :: t205 :: t206 :: t207 :: t208 :: t209 :: t210 :: t211 :: t212 :: t213 :: t214 :: t215 :: t216 :: t217 :: t218 :: t219 :: t220 :: t221 :: t222 :: t223 :: t224 :: t225 :: t226 :: t227 :: t228 :: t229 :: t230 :: t231 :: t232 :: t233 :: [])), []⟩ w') :
    Code.wp Tryz.prog (Code.loop moJ0) Q0 ⟨(List.toArray (t0 :: t1 :: t2 :: t3 :: t4 :: t5 :: t6 :: t7 :: t8 :: .pointer (some ⟨b, 0, none⟩) :: t10 :: t11 :: .slice am K cm :: t13 :: .int .i64 (i : Int) :: .int .i64 0 :: t16 :: t17 :: t18 :: t19 :: t20 :: t21 :: t22 :: t23 :: t24 :: t25 :: t26 :: t27 :: t28 :: t29 :: t30 :: t31 :: t32 :: t33 :: t34 :: t35 :: t36 :: t37 :: t38 :: t39 :: t40 :: t41 :: t42 :: t43 :: t44 :: t45 :: t46 :: t47 :: t48 :: t49 :: t50 :: t51 :: t52 :: t53 :: t54 :: t55 :: t56 :: t57 :: t58 :: t59 :: t60 :: t61 :: t62 :: t63 :: t64 :: t65 :: t66 :: t67 :: t68 :: t69 :: t70 :: t71 :: t72 :: t73 :: t74 :: t75 :: t76 :: t77 :: t78 :: t79 :: t80 :: t81 :: t82 :: t83 :: t84 :: t85 :: t86 :: t87 :: t88 :: t89 :: t90 :: t91 :: t92 :: t93 :: t94 :: t95 :: t96 :: t97 :: t98 :: t99 :: t100 :: t101 :: t102 :: t103 :: t104 :: t105 :: t106 :: t107 :: t108 :: t109 :: t110 :: t111 :: t112 :: t113 :: t114 :: t115 :: t116 :: t117 :: t118 :: t119 :: t120 :: t121 :: t122 :: t123 :: t124 :: t125 :: t126 :: t127 :: t128 :: t129 :: t130 :: t131 :: t132 :: t133 :: t134 :: t135 :: t136 :: t137 :: t138 :: t139 :: t140 :: t141 :: t142 :: t143 :: t144 :: t145 :: t146 :: t147 :: t148 :: t149 :: t150 :: t151 :: t152 :: t153 :: t154 :: t155 :: t156 :: t157 :: t158 :: t159 :: t160 :: t161 :: t162 :: t163 :: t164 :: t165 :: t166 :: t167 :: t168 :: t169 :: t170 :: t171 :: t172 :: t173 :: t174 :: t175 :: t176 :: t177 :: t178 :: t179 :: t180 :: t181 :: t182 :: t183 :: t184 :: t185 :: t186 :: t187 :: t188 :: t189 :: t190 :: t191 :: t192 :: t193 :: t194 :: t195 :: t196 :: t197 :: t198 :: t199 :: t200 :: t201 :: t202 :: t203 :: t204 :: t205 :: t206 :: t207 :: t208 :: t209 :: t210 :: t211 :: t212 :: t213 :: t214 :: t215 :: t216 :: t217 :: t218 :: t219 :: t220 :: t221 :: t222 :: t223 :: t224 :: t225 :: t226 :: t227 :: t228 :: t229 :: t230 :: t231 :: t232 :: t233 :: [])), []⟩ w := by
  conv => arg 2; arg 1; whnf
  have HX : Hid (∀ (u8 u15 u73 u74 u75 u76 u77 u78 u79 u80 u81 u82 u83 u84 u85 u86 u87 u88 u89 u90 u91 u92 u93 u94 u95 : Value) (w' : World), Hid (Below w.heap.size w w') → Q0 (.exit 2) ⟨(List.toArray (t0 :: t1 :: t2 :: t3 :: t4 :: t5 :: t6 :: t7 :: u8 :: .pointer (some ⟨b, 0, none⟩) :: t10 :: t11 :: .slice am K cm :: t13 :: .int .i64 (i : Int) :: u15 :: t16 :: t17 :: t18 :: t19 :: t20 :: t21 :: t22 :: t23 :: t24 :: t25 :: t26 :: t27 :: t28 :: t29 :: t30 :: t31 :: t32 :: t33 :: t34 :: t35 :: t36 :: t37 :: t38 :: t39 :: t40 :: t41 :: t42 :: t43 :: t44 :: t45 :: t46 :: t47 :: t48 :: t49 :: t50 :: t51 :: t52 :: t53 :: t54 :: t55 :: t56 :: t57 :: t58 :: t59 :: t60 :: t61 :: t62 :: t63 :: t64 :: t65 :: t66 :: t67 :: t68 :: t69 :: t70 :: t71 :: t72 :: u73 :: u74 :: u75 :: u76 :: u77 :: u78 :: u79 :: u80 :: u81 :: u82 :: u83 :: u84 :: u85 :: u86 :: u87 :: u88 :: u89 :: u90 :: u91 :: u92 :: u93 :: u94 :: u95 :: t96 :: t97 :: t98 :: t99 :: t100 :: t101 :: t102 :: t103 :: t104 :: t105 :: t106 :: t107 :: t108 :: t109 :: t110 :: t111 :: t112 :: t113 :: t114 :: t115 :: t116 :: t117 :: t118 :: t119 :: t120 :: t121 :: t122 :: t123 :: t124 :: t125 :: t126 :: t127 :: t128 :: t129 :: t130 :: t131 :: t132 :: t133 :: t134 :: t135 :: t136 :: t137 :: t138 :: t139 :: t140 :: t141 :: t142 :: t143 :: t144 :: t145 :: t146 :: t147 :: t148 :: t149 :: t150 :: t151 :: t152 :: t153 :: t154 :: t155 :: t156 :: t157 :: t158 :: t159 :: t160 :: t161 :: t162 :: t163 :: t164 :: t165 :: t166 :: t167 :: t168 :: t169 :: t170 :: t171 :: t172 :: t173 :: t174 :: t175 :: t176 :: t177 :: t178 :: t179 :: t180 :: t181 :: t182 :: t183 :: t184 :: t185 :: t186 :: t187 :: t188 :: t189 :: t190 :: t191 :: t192 :: t193 :: t194 :: t195 :: t196 :: t197 :: t198 :: t199 :: t200 :: t201 :: t202 :: t203 :: t204 :: t205 :: t206 :: t207 :: t208 :: t209 :: t210 :: t211 :: t212 :: t213 :: t214 :: t215 :: t216 :: t217 :: t218 :: t219 :: t220 :: t221 :: t222 :: t223 :: t224 :: t225 :: t226 :: t227 :: t228 :: t229 :: t230 :: t231 :: t232 :: t233 :: [])), []⟩ w') := hexit
  clear hexit
  obtain ⟨x, hx⟩ : ∃ x, M[i]? = some x := ⟨_, List.getElem?_eq_getElem (by rw [HK.out]; exact hi)⟩
  obtain ⟨g, rfl, c0, c1⟩ := HMo.out.mostC hx
  have hgl : g < w.heap.size := World.block_lt_of_cell? w _ c0
  have HX1 : Hid (M[i]? = some x) := hx
  obtain ⟨σ, V, hne, V1, V2⟩ := class_of' (fun w' => Below w.heap.size w w') ⟨_, Below.refl _ _⟩
  have kp : ∀ (s : σ) (bb j : Nat) (v : Value), bb < w.heap.size → w.cell? ⟨bb, j, none⟩ = some v → (V s).cell? ⟨bb, j, none⟩ = some v := fun s bb j v hl h => ((V1.out s).cell (p := ⟨bb, j, none⟩) hl).trans h
  have KP : Hid _ := kp
  replace c0 := fun s => kp s _ _ _ hgl c0
  clear kp hx c1
  have hiI : (i : Int) < (K : Int) := by omega
  go_loopw [15] (fun jv wr => ∃ j : Nat, jv = .int .i64 (j : Int) ∧ j ≤ K ∧ Hid (Below w.heap.size w wr)) (fun jv _ => K - (intOf jv).toNat)
  case atStart => exact ⟨0, rfl, Nat.zero_le _, Below.refl _ _⟩
  case round =>
    obtain ⟨j, rfl, hj, hB⟩ := hrel
    by_cases hlt : j < K
    · have hjI : (j : Int) < (K : Int) := by omega
      obtain ⟨y, hy⟩ : ∃ y, M[j]? = some y := ⟨_, List.getElem?_eq_getElem (by rw [HK.out]; exact hlt)⟩
      obtain ⟨g', hg', d0, _⟩ := HMo.out.mostC hy
      injection hg' with hg'
      injection hg' with hg'
      subst hg'
      replace d0 := fun s => KP.out s _ _ _ hgl d0
      by_cases hij : i = j
      · subst hij
        clear HX HMo HAP HK hy
        go_wp2
        refine wp_region_class (C := fun w' => ∃ s, w' = V s) (by kernel_rfl) (by kernel_rfl) (V2.out _ (hB.out.drew)) ?_
        repeat (go_big_quiet_step ((go_at_call 0; skip)))
        refine wpQuiet_nil ?_
        intro w9 hw9
        obtain ⟨s9, rfl⟩ := hw9
        have B9 : Hid (Below w.heap.size w (V s9)) := V1.out s9
        go_wp2
        go_roundw
        case rel => exact ⟨i + 1, by go_num, by omega, B9⟩
        case measure => simp [intOf]; omega
      · have hijI : ¬ (i : Int) = (j : Int) := by omega
        have hijB : ((i : Int) != (j : Int)) = true := by simpa using hijI
        have HE : Hid (∀ p q s, p = x.1 → q = y.1 → Calls Tryz.prog 31 #[.pointer (some ⟨b, 0, none⟩), .int .i64 p, .int .i64 q] (V s) fun e w'' => e = .returned (.bool false) ∧ ∃ s', w'' = V s') := fun p q s hp hq => by
          rw [hp, hq, ← HAP.out i j x y HX1.out hy hij]
          exact (extends_c (HMo.out.wat.below (V1.out s)) HWI.out x.1 y.1).mono fun e w'' zz => ⟨zz.1, V2.out _ (bstep (V1.out s) zz.2)⟩
        obtain ⟨y1, y2⟩ := y
        obtain ⟨x1, x2⟩ := x
        simp only at c0 d0 HE
        clear HX HMo HAP HK hy HX1
        go_wp2
        refine wp_region_class (C := fun w' => ∃ s, w' = V s) (by kernel_rfl) (by kernel_rfl) (V2.out _ (hB.out.drew)) ?_
        repeat (go_big_quiet_step ((go_at_call 31; exact HE.out _ _ _ rfl rfl)))
        refine wpQuiet_nil ?_
        intro w9 hw9
        obtain ⟨s9, rfl⟩ := hw9
        have B9 : Hid (Below w.heap.size w (V s9)) := V1.out s9
        go_wp2
        go_roundw
        case rel => exact ⟨j + 1, by go_num, by omega, B9⟩
        case measure => simp [intOf]; omega
    · have e : j = K := by omega
      subst e
      clear HMo HAP HK
      go_wp2
      exact HX.out _ _ _ _ _ _ _ _ _ _ _ _ _ _ _ _ _ _ _ _ _ _ _ _ _ _ hB


set_option maxRecDepth 1000000 in
set_option maxHeartbeats 4000000 in
theorem mostI (b : Nat) (ps : List Plc) (aa am : Option Addr) (ca cm KA K : Nat) (A M : List (Int × Int)) (HKA : Hid (A.length = KA)) (HK : Hid (M.length = K)) (hKA : KA ≤ 300) (hK : K ≤ 300) (HWI : Hid (WI ps)) (HAP : Hid (∀ (i j : Nat) (a c : Int × Int), M[i]? = some a → M[j]? = some c → i ≠ j → extI ps a.1 c.1 = false)) (HSU : Hid (∀ m ∈ M, m ∈ A)) (w : World) (HMo : Hid (MoW b ps (.slice aa A.length ca) (.slice am M.length cm) A M w))
    (t0 t1 t2 t3 t4 t5 t6 t7 t8 t11 t13 t15 t16 t17 t18 t19 t20 t21 t22 t23 t24 t25 t26 t27 t28 t29 t30 t31 t32 t33 t34 t35 t36 t37 t38 t39 t40 t41 t42 t43 t44 t45 t46 t47 t48 t49 t50 t51 t52 t53 t54 t55 t56 t57 t58 t59 t60 t61 t62 t63 t64 t65 t66 t67 t68 t69 t70 t71 t72 t73 t74 t75 t76 t77 t78 t79 t80 t81 t82 t83 t84 t85 t86 t87 t88 t89 t90 t91 t92 t93 t94 t95 t96 t97 t98 t99 t100 t101 t102 t103 t104 t105 t106 t107 t108 t109 t110 t111 t112 t113 t114 t115 t116 t117 t118 t119 t120 t121 t122 t123 t124 t125 t126 t127 t128 t129 t130 t131 t132 t133 t134 t135 t136 t137 t138 t139 t140 t141 t142 t143 t144 t145 t146 t147 t148 t149 t150 t151 t152 t153 t154 t155 t156 t157 t158 t159 t160 t161 t162 t163 t164 t165 t166 t167 t168 t169 t170 t171 t172 t173 t174 t175 t176 t177 t178 t179 t180 t181 t182 t183 t184 t185 t186 t187 t188 t189 t190 t191 t192 t193 t194 t195 t196 t197 t198 t199 t200 t201 t202 t203 t204 t205 t206 t207 t208 t209 t210 t211 t212 t213 t214 t215 t216 t217 t218 t219 t220 t221 t222 t223 t224 t225 t226 t227 t228 t229 t230 t231 t232 t233 : Value) (Q0 : Exit → Act → World → Prop)
    (hexit : ∀ (u8 u14 u15 u60 u61 u62 u63 u64 u65 u66 u67 u68 u69 u70 u71 u72 u73 u74 u75 u76 u77 u78 u79 u80 u81 u82 u83 u84 u85 u86 u87 u88 u89 u90 u91 u92 u93 u94 u95 : Value) (w' : World), Hid (Below w.heap.size w w') → Q0 (.exit 0) ⟨(List.toArray (t0 :: t1 :: t2 :: t3 :: t4 :: t5 :: t6 :: t7 :: u8 :: .pointer (some ⟨b, 0, none⟩) :: .slice aa KA ca :: t11 :: .slice am K cm :: t13 :: u14 :: u15 :: t16 :: t17 :: t18 :: t19 :: t20 :: t21 :: t22 :: t23 :: t24 :: t25 :: t26 :: t27 :: t28 :: t29 :: t30 :: t31 :: t32 :: t33 :: t34 :: t35 :: t36 :: t37 :: t38 :: t39 :: t40 :: t41 :: t42 :: t43 :: t44 :: t45 :: t46 :: t47 :: t48 :: t49 :: t50 :: t51 :: t52 :: t53 :: t54 :: t55 :: t56 :: t57 :: t58 :: t59 :: u60 :: u61 :: u62 :: u63 :: u64 :: u65 :: u66 :: u67 :: u68 :: u69 :: u70 :: u71 :: u72 :: u73 :: u74 :: u75 :: u76 :: u77 :: u78 :: u79 :: u80 :: u81 :: u82 :: u83 :: u84 :: u85 :: u86 :: u87 :: u88 :: u89 :: u90 :: u91 :: u92 :: u93 :: u94 :: u95 :: t96 :: t97 :: t98 :: t99 :: t100 :: t101 :: t102 :: t103 :: t104 :: t105 :: t106 :: t107 :: t108 :: t109 :: t110 :: t111 :: t112 :: t113 :: t114 :: t115 :: t116 :: t117 :: t118 :: t119 :: t120 :: t121 :: t122 :: t123 :: t124 :: t125 :: t126 :: t127 :: t128 :: t129 :: t130 :: t131 :: t132 :: t133 :: t134 :: t135 :: t136 :: t137 :: t138 :: t139 :: t140 :: t141 :: t142 :: t143 :: t144 :: t145 :: t146 :: t147 :: t148 :: t149 :: t150 :: t151 :: t152 :: t153 :: t154 :: t155 :: t156 :: t157 :: t158 :: t159 :: t160 :: t161 :: t162 :: t163 :: t164 :: t165 :: t166 :: t167 :: t168 :: t169 :: t170 :: t171 :: t172 :: t173 :: t174 :: t175 :: t176 :: t177 :: t178 :: t179 :: t180 :: t181 :: t182 :: t183 :: t184 :: t185 :: t186 :: t187 :: t188 :: t189 :: t190 :: t191 :: t192 :: t193 :: t194 :: t195 :: t196 :: t197 :: t198 :: t199 :: t200 :: t201 :: t202 :: t203 :: t204 :: t205 :: t206 :: t207 :: t208 :: t209 :: t210 :: t211 :: t212 :: t213 :: t214 :: t215 :: t216 :: t217 :: t218 :: t219 :: t220 :: t221 :: t222 :: t223 :: t224 :: t225 :: t226 :: t227 :: t228 :: t229 :: t230 :: t231 :: t232 :: t233 :: [])), []⟩ w') :
    Code.wp Tryz.prog (Code.loop moI0) Q0 ⟨(List.toArray (t0 :: t1 :: t2 :: t3 :: t4 :: t5 :: t6 :: t7 :: t8 :: .pointer (some ⟨b, 0, none⟩) :: .slice aa KA ca :: t11 :: .slice am K cm :: t13 :: .int .i64 0 :: t15 :: t16 :: t17 :: t18 :: t19 :: t20 :: t21 :: t22 :: t23 :: t24 :: t25 :: t26 :: t27 :: t28 :: t29 :: t30 :: t31 :: t32 :: t33 :: t34 :: t35 :: t36 :: t37 :: t38 :: t39 :: t40 :: t41 :: t42 :: t43 :: t44 :: t45 :: t46 :: t47 :: t48 :: t49 :: t50 :: t51 :: t52 :: t53 :: t54 :: t55 :: t56 :: t57 :: t58 :: t59 :: t60 :: t61 :: t62 :: t63 :: t64 :: t65 :: t66 :: t67 :: t68 :: t69 :: t70 :: t71 :: t72 :: t73 :: t74 :: t75 :: t76 :: t77 :: t78 :: t79 :: t80 :: t81 :: t82 :: t83 :: t84 :: t85 :: t86 :: t87 :: t88 :: t89 :: t90 :: t91 :: t92 :: t93 :: t94 :: t95 :: t96 :: t97 :: t98 :: t99 :: t100 :: t101 :: t102 :: t103 :: t104 :: t105 :: t106 :: t107 :: t108 :: t109 :: t110 :: t111 :: t112 :: t113 :: t114 :: t115 :: t116 :: t117 :: t118 :: t119 :: t120 :: t121 :: t122 :: t123 :: t124 :: t125 :: t126 :: t127 :: t128 :: t129 :: t130 :: t131 :: t132 :: t133 :: t134 :: t135 :: t136 :: t137 :: t138 :: t139 :: t140 :: t141 :: t142 :: t143 :: t144 :: t145 :: t146 :: t147 :: t148 :: t149 :: t150 :: t151 :: t152 :: t153 :: t154 :: t155 :: t156 :: t157 :: t158 :: t159 :: t160 :: t161 :: t162 :: t163 :: t164 :: t165 :: t166 :: t167 :: t168 :: t169 :: t170 :: t171 :: t172 :: t173 :: t174 :: t175 :: t176 :: t177 :: t178 :: t179 :: t180 :: t181 :: t182 :: t183 :: t184 :: t185 :: t186 :: t187 :: t188 :: t189 :: t190 :: t191 :: t192 :: t193 :: t194 :: t195 :: t196 :: t197 :: t198 :: t199 :: t200 :: t201 :: t202 :: t203 :: t204 :: t205 :: t206 :: t207 :: t208 :: t209 :: t210 :: t211 :: t212 :: t213 :: t214 :: t215 :: t216 :: t217 :: t218 :: t219 :: t220 :: t221 :: t222 :: t223 :: t224 :: t225 :: t226 :: t227 :: t228 :: t229 :: t230 :: t231 :: t232 :: t233 :: [])), []⟩ w := by
  conv => arg 2; arg 1; whnf
  have HX : Hid (∀ (u8 u14 u15 u60 u61 u62 u63 u64 u65 u66 u67 u68 u69 u70 u71 u72 u73 u74 u75 u76 u77 u78 u79 u80 u81 u82 u83 u84 u85 u86 u87 u88 u89 u90 u91 u92 u93 u94 u95 : Value) (w' : World), Hid (Below w.heap.size w w') → Q0 (.exit 0) ⟨(List.toArray (t0 :: t1 :: t2 :: t3 :: t4 :: t5 :: t6 :: t7 :: u8 :: .pointer (some ⟨b, 0, none⟩) :: .slice aa KA ca :: t11 :: .slice am K cm :: t13 :: u14 :: u15 :: t16 :: t17 :: t18 :: t19 :: t20 :: t21 :: t22 :: t23 :: t24 :: t25 :: t26 :: t27 :: t28 :: t29 :: t30 :: t31 :: t32 :: t33 :: t34 :: t35 :: t36 :: t37 :: t38 :: t39 :: t40 :: t41 :: t42 :: t43 :: t44 :: t45 :: t46 :: t47 :: t48 :: t49 :: t50 :: t51 :: t52 :: t53 :: t54 :: t55 :: t56 :: t57 :: t58 :: t59 :: u60 :: u61 :: u62 :: u63 :: u64 :: u65 :: u66 :: u67 :: u68 :: u69 :: u70 :: u71 :: u72 :: u73 :: u74 :: u75 :: u76 :: u77 :: u78 :: u79 :: u80 :: u81 :: u82 :: u83 :: u84 :: u85 :: u86 :: u87 :: u88 :: u89 :: u90 :: u91 :: u92 :: u93 :: u94 :: u95 :: t96 :: t97 :: t98 :: t99 :: t100 :: t101 :: t102 :: t103 :: t104 :: t105 :: t106 :: t107 :: t108 :: t109 :: t110 :: t111 :: t112 :: t113 :: t114 :: t115 :: t116 :: t117 :: t118 :: t119 :: t120 :: t121 :: t122 :: t123 :: t124 :: t125 :: t126 :: t127 :: t128 :: t129 :: t130 :: t131 :: t132 :: t133 :: t134 :: t135 :: t136 :: t137 :: t138 :: t139 :: t140 :: t141 :: t142 :: t143 :: t144 :: t145 :: t146 :: t147 :: t148 :: t149 :: t150 :: t151 :: t152 :: t153 :: t154 :: t155 :: t156 :: t157 :: t158 :: t159 :: t160 :: t161 :: t162 :: t163 :: t164 :: t165 :: t166 :: t167 :: t168 :: t169 :: t170 :: t171 :: t172 :: t173 :: t174 :: t175 :: t176 :: t177 :: t178 :: t179 :: t180 :: t181 :: t182 :: t183 :: t184 :: t185 :: t186 :: t187 :: t188 :: t189 :: t190 :: t191 :: t192 :: t193 :: t194 :: t195 :: t196 :: t197 :: t198 :: t199 :: t200 :: t201 :: t202 :: t203 :: t204 :: t205 :: t206 :: t207 :: t208 :: t209 :: t210 :: t211 :: t212 :: t213 :: t214 :: t215 :: t216 :: t217 :: t218 :: t219 :: t220 :: t221 :: t222 :: t223 :: t224 :: t225 :: t226 :: t227 :: t228 :: t229 :: t230 :: t231 :: t232 :: t233 :: [])), []⟩ w') := hexit
  clear hexit
  have HIN : Hid (∀ (w' : World) (x : Int × Int), Below w.heap.size w w' → x ∈ A → Calls Tryz.prog 86 #[.slice aa KA ca, .agg #[.int .i64 x.1, .int .i64 x.2]] w' fun e w'' => e = .returned (.bool true) ∧ Below w'.heap.size w' w'') := fun w' x hb hx => by
    obtain ⟨N, h1⟩ := (HMo.out.below hb).all
    rw [← HKA.out]
    exact in_c N A _ x w' h1 (by rw [HKA.out]; omega) hx
  go_loopw [14] (fun iv wr => ∃ i : Nat, iv = .int .i64 (i : Int) ∧ i ≤ K ∧ Hid (Below w.heap.size w wr)) (fun iv _ => K - (intOf iv).toNat)
  case atStart => exact ⟨0, rfl, Nat.zero_le _, Below.refl _ _⟩
  case round =>
    obtain ⟨i, rfl, hi, hB⟩ := hrel
    by_cases hlt : i < K
    · have hiI : (i : Int) < (K : Int) := by omega
      obtain ⟨x, hx⟩ : ∃ x, M[i]? = some x := ⟨_, List.getElem?_eq_getElem (by rw [HK.out]; exact hlt)⟩
      obtain ⟨g, rfl, c0, c1⟩ := (HMo.out.below hB.out).mostC hx
      have HXA : Hid (x ∈ A) := HSU.out x (List.mem_of_getElem? hx)
      have HI2 : Hid (Calls Tryz.prog 86 #[.slice aa KA ca, .agg #[.int .i64 x.1, .int .i64 x.2]] wr fun e w'' => e = .returned (.bool true) ∧ Below wr.heap.size wr w'') := HIN.out wr x hB.out HXA.out
      obtain ⟨x1, x2⟩ := x
      simp only at c0 c1 HI2
      clear HX hx HIN HSU HXA
      go_wp2_with (go_at_call 86; refine HI2.out.mono ?_; rintro e w1 ⟨rfl, hb⟩; have B1 : Hid (Below w.heap.size w w1) := bstep hB.out hb; clear hb HI2)
      refine moJ b ps (.slice aa A.length ca) (some ⟨g, 0, none⟩) cm K A M HK hK HWI HAP i hlt w1 (HMo.out.below B1.out) _ _ _ _ _ _ _ _ _ _ _ _ _ _ _ _ _ _ _ _ _ _ _ _ _ _ _ _ _ _ _ _ _ _ _ _ _ _ _ _ _ _ _ _ _ _ _ _ _ _ _ _ _ _ _ _ _ _ _ _ _ _ _ _ _ _ _ _ _ _ _ _ _ _ _ _ _ _ _ _ _ _ _ _ _ _ _ _ _ _ _ _ _ _ _ _ _ _ _ _ _ _ _ _ _ _ _ _ _ _ _ _ _ _ _ _ _ _ _ _ _ _ _ _ _ _ _ _ _ _ _ _ _ _ _ _ _ _ _ _ _ _ _ _ _ _ _ _ _ _ _ _ _ _ _ _ _ _ _ _ _ _ _ _ _ _ _ _ _ _ _ _ _ _ _ _ _ _ _ _ _ _ _ _ _ _ _ _ _ _ _ _ _ _ _ _ _ _ _ _ _ _ _ _ _ _ _ _ _ _ _ _ _ _ _ _ _ _ _ _ _ _ _ _ _ _ _ _ _ _ _ ?_
      intro u8 u15 u73 u74 u75 u76 u77 u78 u79 u80 u81 u82 u83 u84 u85 u86 u87 u88 u89 u90 u91 u92 u93 u94 u95 w2 hB2
      have B2 : Hid (Below w.heap.size w w2) := bstep B1.out hB2.out
      clear hB2
      go_wp2
      go_roundw
      case rel => exact ⟨i + 1, by go_num, by omega, B2⟩
      case measure => simp [intOf]; omega
    · have e : i = K := by omega
      subst e
      clear HMo HAP HK HIN HSU
      go_wp2
      exact HX.out _ _ _ _ _ _ _ _ _ _ _ _ _ _ _ _ _ _ _ _ _ _ _ _ _ _ _ _ _ _ _ _ _ _ _ _ _ _ _ _ hB


theorem any_take (p : Int × Int → Bool) {M : List (Int × Int)} {j : Nat} {y : Int × Int} (hy : M[j]? = some y) : (M.take (j + 1)).any p = ((M.take j).any p || p y) := by
  rw [List.take_add_one, hy, List.any_append]; simp
set_option linter.unusedVariables false in
set_option maxRecDepth 1000000 in
set_option maxHeartbeats 4000000 in
theorem mostM (b : Nat) (ps : List Plc) (aa am : Option Addr) (ca cm KA K : Nat) (A M : List (Int × Int)) (HKA : Hid (A.length = KA)) (HK : Hid (M.length = K)) (hKA : KA ≤ 300) (hK : K ≤ 300) (HWI : Hid (WI ps)) (i : Nat) (hi : i < KA) (x : Int × Int) (hx : A[i]? = some x) (w : World) (HMo : Hid (MoW b ps (.slice aa A.length ca) (.slice am M.length cm) A M w))
    (t0 t1 t2 t3 t4 t5 t6 t7 t8 t11 t13 t14 t15 t17 t18 t21 t22 t23 t24 t25 t26 t27 t28 t29 t30 t31 t32 t33 t34 t35 t36 t37 t38 t39 t40 t41 t42 t43 t44 t45 t46 t47 t48 t49 t50 t51 t52 t53 t54 t55 t56 t57 t58 t59 t60 t61 t62 t63 t64 t65 t66 t67 t68 t69 t70 t71 t72 t73 t74 t75 t76 t77 t78 t79 t80 t81 t82 t83 t84 t85 t86 t87 t88 t89 t90 t91 t92 t93 t94 t95 t96 t97 t98 t99 t100 t101 t102 t103 t104 t105 t106 t107 t108 t109 t110 t111 t112 t113 t114 t115 t116 t117 t118 t119 t120 t121 t122 t123 t124 t125 t126 t127 t128 t129 t130 t131 t132 t133 t134 t135 t136 t137 t138 t139 t140 t141 t142 t143 t144 t145 t146 t147 t148 t149 t150 t151 t152 t153 t154 t155 t156 t157 t158 t159 t160 t161 t162 t163 t164 t165 t166 t167 t168 t169 t170 t171 t172 t173 t174 t175 t176 t177 t178 t179 t180 t181 t182 t183 t184 t185 t186 t187 t188 t189 t190 t191 t192 t193 t194 t195 t196 t197 t198 t199 t200 t201 t202 t203 t204 t205 t206 t207 t208 t209 t210 t211 t212 t213 t214 t215 t216 t217 t218 t219 t220 t221 t222 t223 t224 t225 t226 t227 t228 t229 t230 t231 t232 t233 : Value) (Q0 : Exit → Act → World → Prop)
    (hexit : ∀ (u20 u152 u153 u154 u155 u156 u157 u158 u159 u160 u161 u162 u163 u164 u165 u166 u167 u168 u169 u170 u171 u172 : Value) (w' : World), Hid (Below w.heap.size w w') → Q0 (.exit 6) ⟨(List.toArray (t0 :: t1 :: t2 :: t3 :: t4 :: t5 :: t6 :: t7 :: t8 :: .pointer (some ⟨b, 0, none⟩) :: .slice aa KA ca :: t11 :: .slice am K cm :: t13 :: t14 :: t15 :: .int .i64 (i : Int) :: t17 :: t18 :: .bool (M.any fun o => extI ps o.1 x.1) :: u20 :: t21 :: t22 :: t23 :: t24 :: t25 :: t26 :: t27 :: t28 :: t29 :: t30 :: t31 :: t32 :: t33 :: t34 :: t35 :: t36 :: t37 :: t38 :: t39 :: t40 :: t41 :: t42 :: t43 :: t44 :: t45 :: t46 :: t47 :: t48 :: t49 :: t50 :: t51 :: t52 :: t53 :: t54 :: t55 :: t56 :: t57 :: t58 :: t59 :: t60 :: t61 :: t62 :: t63 :: t64 :: t65 :: t66 :: t67 :: t68 :: t69 :: t70 :: t71 :: t72 :: t73 :: t74 :: t75 :: t76 :: t77 :: t78 :: t79 :: t80 :: t81 :: t82 :: t83 :: t84 :: t85 :: t86 :: t87 :: t88 :: t89 :: t90 :: t91 :: t92 :: t93 :: t94 :: t95 :: t96 :: t97 :: t98 :: t99 :: t100 :: t101 :: t102 :: t103 :: t104 :: t105 :: t106 :: t107 :: t108 :: t109 :: t110 :: t111 :: t112 :: t113 :: t114 :: t115 :: t116 :: t117 :: t118 :: t119 :: t120 :: t121 :: t122 :: t123 :: t124 :: t125 :: t126 :: t127 :: t128 :: t129 :: t130 :: t131 :: t132 :: t133 :: t134 :: t135 :: t136 :: t137 :: t138 :: t139 :: t140 :: t141 :: t142 :: t143 :: t144 :: t145 :: t146 :: t147 :: t148 :: t149 :: t150 :: t151 :: u152 :: u153 :: u154 :: u155 :: u156 :: u157 :: u158 :: u159 :: u160 :: u161 :: u162 :: u163 :: u164 :: u165 :: u166 :: u167 :: u168 :: u169 :: u170 :: u171 :: u172 :: t173 :: t174 :: t175 :: t176 :: t177 :: t178 :: t179 :: t180 :: t181 :: t182 :: t183 :: t184 :: t185 :: t186 :: t187 :: t188 :: t189 :: t190 :: t191 :: t192 :: t193 :: t194 :: t195 :: t196 :: t197 :: t198 :: t199 :: t200 :: t201 :: t202 :: t203 :: t204 :: t205 :: t206 :: t207 :: t208 :: t209 :: t210 :: t211 :: t212 :: t213 :: t214 :: t215 :: t216 :: t217 :: t218 :: t219 :: t220 :: t221 :: t222 :: t223 :: t224 :: t225 :: t226 :: t227 :: t228 :: t229 :: t230 :: t231 :: t232 :: t233 :: [])), []⟩ w') :
    Code.wp Tryz.prog (Code.loop moM0) Q0 ⟨(List.toArray (t0 :: t1 :: t2 :: t3 :: t4 :: t5 :: t6 :: t7 :: t8 :: .pointer (some ⟨b, 0, none⟩) :: .slice aa KA ca :: t11 :: .slice am K cm :: t13 :: t14 :: t15 :: .int .i64 (i : Int) :: t17 :: t18 :: .bool false :: .int .i64 0 :: t21 :: t22 :: t23 :: t24 :: t25 :: t26 :: t27 :: t28 :: t29 :: t30 :: t31 :: t32 :: t33 :: t34 :: t35 :: t36 :: t37 :: t38 :: t39 :: t40 :: t41 :: t42 :: t43 :: t44 :: t45 :: t46 :: t47 :: t48 :: t49 :: t50 :: t51 :: t52 :: t53 :: t54 :: t55 :: t56 :: t57 :: t58 :: t59 :: t60 :: t61 :: t62 :: t63 :: t64 :: t65 :: t66 :: t67 :: t68 :: t69 :: t70 :: t71 :: t72 :: t73 :: t74 :: t75 :: t76 :: t77 :: t78 :: t79 :: t80 :: t81 :: t82 :: t83 :: t84 :: t85 :: t86 :: t87 :: t88 :: t89 :: t90 :: t91 :: t92 :: t93 :: t94 :: t95 :: t96 :: t97 :: t98 :: t99 :: t100 :: t101 :: t102 :: t103 :: t104 :: t105 :: t106 :: t107 :: t108 :: t109 :: t110 :: t111 :: t112 :: t113 :: t114 :: t115 :: t116 :: t117 :: t118 :: t119 :: t120 :: t121 :: t122 :: t123 :: t124 :: t125 :: t126 :: t127 :: t128 :: t129 :: t130 :: t131 :: t132 :: t133 :: t134 :: t135 :: t136 :: t137 :: t138 :: t139 :: t140 :: t141 :: t142 :: t143 :: t144 :: t145 :: t146 :: t147 :: t148 :: t149 :: t150 :: t151 :: t152 :: t153 :: t154 :: t155 :: t156 :: t157 :: t158 :: t159 :: t160 :: t161 :: t162 :: t163 :: t164 :: t165 :: t166 :: t167 :: t168 :: t169 :: t170 :: t171 :: t172 :: t173 :: t174 :: t175 :: t176 :: t177 :: t178 :: t179 :: t180 :: t181 :: t182 :: t183 :: t184 :: t185 :: t186 :: t187 :: t188 :: t189 :: t190 :: t191 :: t192 :: t193 :: t194 :: t195 :: t196 :: t197 :: t198 :: t199 :: t200 :: t201 :: t202 :: t203 :: t204 :: t205 :: t206 :: t207 :: t208 :: t209 :: t210 :: t211 :: t212 :: t213 :: t214 :: t215 :: t216 :: t217 :: t218 :: t219 :: t220 :: t221 :: t222 :: t223 :: t224 :: t225 :: t226 :: t227 :: t228 :: t229 :: t230 :: t231 :: t232 :: t233 :: [])), []⟩ w := by
  conv => arg 2; arg 1; whnf
  have HX : Hid (∀ (u20 u152 u153 u154 u155 u156 u157 u158 u159 u160 u161 u162 u163 u164 u165 u166 u167 u168 u169 u170 u171 u172 : Value) (w' : World), Hid (Below w.heap.size w w') → Q0 (.exit 6) ⟨(List.toArray (t0 :: t1 :: t2 :: t3 :: t4 :: t5 :: t6 :: t7 :: t8 :: .pointer (some ⟨b, 0, none⟩) :: .slice aa KA ca :: t11 :: .slice am K cm :: t13 :: t14 :: t15 :: .int .i64 (i : Int) :: t17 :: t18 :: .bool (M.any fun o => extI ps o.1 x.1) :: u20 :: t21 :: t22 :: t23 :: t24 :: t25 :: t26 :: t27 :: t28 :: t29 :: t30 :: t31 :: t32 :: t33 :: t34 :: t35 :: t36 :: t37 :: t38 :: t39 :: t40 :: t41 :: t42 :: t43 :: t44 :: t45 :: t46 :: t47 :: t48 :: t49 :: t50 :: t51 :: t52 :: t53 :: t54 :: t55 :: t56 :: t57 :: t58 :: t59 :: t60 :: t61 :: t62 :: t63 :: t64 :: t65 :: t66 :: t67 :: t68 :: t69 :: t70 :: t71 :: t72 :: t73 :: t74 :: t75 :: t76 :: t77 :: t78 :: t79 :: t80 :: t81 :: t82 :: t83 :: t84 :: t85 :: t86 :: t87 :: t88 :: t89 :: t90 :: t91 :: t92 :: t93 :: t94 :: t95 :: t96 :: t97 :: t98 :: t99 :: t100 :: t101 :: t102 :: t103 :: t104 :: t105 :: t106 :: t107 :: t108 :: t109 :: t110 :: t111 :: t112 :: t113 :: t114 :: t115 :: t116 :: t117 :: t118 :: t119 :: t120 :: t121 :: t122 :: t123 :: t124 :: t125 :: t126 :: t127 :: t128 :: t129 :: t130 :: t131 :: t132 :: t133 :: t134 :: t135 :: t136 :: t137 :: t138 :: t139 :: t140 :: t141 :: t142 :: t143 :: t144 :: t145 :: t146 :: t147 :: t148 :: t149 :: t150 :: t151 :: u152 :: u153 :: u154 :: u155 :: u156 :: u157 :: u158 :: u159 :: u160 :: u161 :: u162 :: u163 :: u164 :: u165 :: u166 :: u167 :: u168 :: u169 :: u170 :: u171 :: u172 :: t173 :: t174 :: t175 :: t176 :: t177 :: t178 :: t179 :: t180 :: t181 :: t182 :: t183 :: t184 :: t185 :: t186 :: t187 :: t188 :: t189 :: t190 :: t191 :: t192 :: t193 :: t194 :: t195 :: t196 :: t197 :: t198 :: t199 :: t200 :: t201 :: t202 :: t203 :: t204 :: t205 :: t206 :: t207 :: t208 :: t209 :: t210 :: t211 :: t212 :: t213 :: t214 :: t215 :: t216 :: t217 :: t218 :: t219 :: t220 :: t221 :: t222 :: t223 :: t224 :: t225 :: t226 :: t227 :: t228 :: t229 :: t230 :: t231 :: t232 :: t233 :: [])), []⟩ w') := hexit
  clear hexit
  obtain ⟨g, rfl, c0, c1⟩ := HMo.out.allC hx
  have hgl : g < w.heap.size := World.block_lt_of_cell? w _ c0
  obtain ⟨σ, V, hne, V1, V2⟩ := class_of' (fun w' => Below w.heap.size w w') ⟨_, Below.refl _ _⟩
  have kp : ∀ (s : σ) (bb j : Nat) (v : Value), bb < w.heap.size → w.cell? ⟨bb, j, none⟩ = some v → (V s).cell? ⟨bb, j, none⟩ = some v := fun s bb j v hl h => ((V1.out s).cell (p := ⟨bb, j, none⟩) hl).trans h
  have KP : Hid _ := kp
  replace c0 := fun s => kp s _ _ _ hgl c0
  clear kp hx c1
  have hiI : (i : Int) < (KA : Int) := by omega
  go_loopw [19, 20] (fun mv jv wr => ∃ j : Nat, jv = .int .i64 (j : Int) ∧ j ≤ K ∧ mv = .bool ((M.take j).any fun o => extI ps o.1 x.1) ∧ Hid (Below w.heap.size w wr)) (fun _ jv _ => K - (intOf jv).toNat)
  case atStart => exact ⟨0, rfl, Nat.zero_le _, rfl, Below.refl _ _⟩
  case round =>
    obtain ⟨j, rfl, hj, rfl, hB⟩ := hrel
    by_cases hlt : j < K
    · have hjI : (j : Int) < (K : Int) := by omega
      obtain ⟨y, hy⟩ : ∃ y, M[j]? = some y := ⟨_, List.getElem?_eq_getElem (by rw [HK.out]; exact hlt)⟩
      obtain ⟨g', rfl, d0, _⟩ := HMo.out.mostC hy
      have hgl2 : g' < w.heap.size := World.block_lt_of_cell? w _ d0
      replace d0 := fun s => KP.out s _ _ _ hgl2 d0
      have hst := any_take (fun o => extI ps o.1 x.1) hy
      have HE : Hid (∀ p q s, p = y.1 → q = x.1 → Calls Tryz.prog 31 #[.pointer (some ⟨b, 0, none⟩), .int .i64 p, .int .i64 q] (V s) fun e w'' => e = .returned (.bool (extI ps y.1 x.1)) ∧ ∃ s', w'' = V s') := fun p q s hp hq => by
        rw [hp, hq]
        exact (extends_c (HMo.out.wat.below (V1.out s)) HWI.out y.1 x.1).mono fun e w'' zz => ⟨zz.1, V2.out _ (bstep (V1.out s) zz.2)⟩

      have HST : Hid _ := hst
      clear hst
      generalize (M.take j).any (fun o => extI ps o.1 x.1) = met at *
      generalize hex : extI ps y.1 x.1 = ex at *
      clear hex
      obtain ⟨y1, y2⟩ := y
      obtain ⟨x1, x2⟩ := x
      simp only at c0 d0 HE HST
      clear HX HMo HK HKA hy
      cases met with
      | true =>
        go_wp2
        refine wp_region_class (C := fun w' => ∃ s, w' = V s) (by kernel_rfl) (by kernel_rfl) (V2.out _ (hB.out.drew)) ?_
        repeat (go_big_quiet_step ((go_at_call 31; exact HE.out _ _ _ rfl rfl)))
        refine wpQuiet_nil ?_
        intro w9 hw9
        obtain ⟨s9, rfl⟩ := hw9
        have B9 : Hid (Below w.heap.size w (V s9)) := V1.out s9
        go_wp2
        go_roundw
        case rel => exact ⟨j + 1, by go_num, by omega, by rw [HST.out]; rfl, B9⟩
        case measure => simp [intOf]; omega
      | false =>
        go_wp2
        refine wp_region_class (C := fun w' => ∃ s, w' = V s) (by kernel_rfl) (by kernel_rfl) (V2.out _ (hB.out.drew)) ?_
        repeat (go_big_quiet_step ((go_at_call 31; exact HE.out _ _ _ rfl rfl)))
        refine wpQuiet_nil ?_
        intro w9 hw9
        obtain ⟨s9, rfl⟩ := hw9
        have B9 : Hid (Below w.heap.size w (V s9)) := V1.out s9
        go_wp2
        go_roundw
        case rel => exact ⟨j + 1, by go_num, by omega, by rw [HST.out]; rfl, B9⟩
        case measure => simp [intOf]; omega
    · have e : j = K := by omega
      have HT : Hid ((M.take j).any (fun o => extI ps o.1 x.1) = M.any (fun o => extI ps o.1 x.1)) := by rw [Hid, e, ← HK.out, List.take_of_length_le (Nat.le_refl _)]
      rw [HT.out]
      subst e
      generalize M.any (fun o => extI ps o.1 x.1) = met at *
      clear HMo HK HKA HT
      go_wp2
      exact HX.out _ _ _ _ _ _ _ _ _ _ _ _ _ _ _ _ _ _ _ _ _ _ _ hB


set_option maxRecDepth 1000000 in
set_option maxHeartbeats 4000000 in
theorem mostA (b : Nat) (ps : List Plc) (aa am : Option Addr) (ca cm KA K : Nat) (A M : List (Int × Int)) (HKA : Hid (A.length = KA)) (HK : Hid (M.length = K)) (hKA : KA ≤ 300) (hK : K ≤ 300) (HWI : Hid (WI ps)) (k : Nat) (nm ds : ByteArray) (HF : Hid (∀ x ∈ A, ifcI ps x.1 = true ∧ extI ps (k : Int) x.1 = true ∧ (M.any fun o => extI ps o.1 x.1) = true ∧ ∃ m, methI ps x.1 x.2 = some m ∧ m.nm = nm ∧ m.ds = ds ∧ bits .and .i64 m.fl 10 = 0)) (w : World) (HMo : Hid (MoW b ps (.slice aa A.length ca) (.slice am M.length cm) A M w))
    (t0 t4 t5 t6 t7 t8 t11 t13 t14 t15 t17 t18 t19 t20 t21 t22 t23 t24 t25 t26 t27 t28 t29 t30 t31 t32 t33 t34 t35 t36 t37 t38 t39 t40 t41 t42 t43 t44 t45 t46 t47 t48 t49 t50 t51 t52 t53 t54 t55 t56 t57 t58 t59 t60 t61 t62 t63 t64 t65 t66 t67 t68 t69 t70 t71 t72 t73 t74 t75 t76 t77 t78 t79 t80 t81 t82 t83 t84 t85 t86 t87 t88 t89 t90 t91 t92 t93 t94 t95 t96 t97 t98 t99 t100 t101 t102 t103 t104 t105 t106 t107 t108 t109 t110 t111 t112 t113 t114 t115 t116 t117 t118 t119 t120 t121 t122 t123 t124 t125 t126 t127 t128 t129 t130 t131 t132 t133 t134 t135 t136 t137 t138 t139 t140 t141 t142 t143 t144 t145 t146 t147 t148 t149 t150 t151 t152 t153 t154 t155 t156 t157 t158 t159 t160 t161 t162 t163 t164 t165 t166 t167 t168 t169 t170 t171 t172 t173 t174 t175 t176 t177 t178 t179 t180 t181 t182 t183 t184 t185 t186 t187 t188 t189 t190 t191 t192 t193 t194 t195 t196 t197 t198 t199 t200 t201 t202 t203 t204 t205 t206 t207 t208 t209 t210 t211 t212 t213 t214 t215 t216 t217 t218 t219 t220 t221 t222 t223 t224 t225 t226 t227 t228 t229 t230 t231 t232 t233 : Value) (Q0 : Exit → Act → World → Prop)
    (hexit : ∀ (u8 u16 u17 u18 u19 u20 u96 u97 u98 u99 u100 u101 u102 u103 u104 u105 u106 u107 u108 u109 u110 u111 u112 u113 u114 u115 u116 u117 u118 u119 u120 u121 u122 u123 u124 u125 u126 u127 u128 u129 u130 u131 u132 u133 u134 u135 u136 u137 u138 u139 u140 u141 u142 u143 u144 u145 u146 u147 u148 u149 u150 u151 u152 u153 u154 u155 u156 u157 u158 u159 u160 u161 u162 u163 u164 u165 u166 u167 u168 u169 u170 u171 u172 u173 u174 : Value) (w' : World), Hid (Below w.heap.size w w') → Q0 (.exit 4) ⟨(List.toArray (t0 :: .int .i64 (k : Int) :: .string nm :: .string ds :: t4 :: t5 :: t6 :: t7 :: u8 :: .pointer (some ⟨b, 0, none⟩) :: .slice aa KA ca :: t11 :: .slice am K cm :: t13 :: t14 :: t15 :: u16 :: u17 :: u18 :: u19 :: u20 :: t21 :: t22 :: t23 :: t24 :: t25 :: t26 :: t27 :: t28 :: t29 :: t30 :: t31 :: t32 :: t33 :: t34 :: t35 :: t36 :: t37 :: t38 :: t39 :: t40 :: t41 :: t42 :: t43 :: t44 :: t45 :: t46 :: t47 :: t48 :: t49 :: t50 :: t51 :: t52 :: t53 :: t54 :: t55 :: t56 :: t57 :: t58 :: t59 :: t60 :: t61 :: t62 :: t63 :: t64 :: t65 :: t66 :: t67 :: t68 :: t69 :: t70 :: t71 :: t72 :: t73 :: t74 :: t75 :: t76 :: t77 :: t78 :: t79 :: t80 :: t81 :: t82 :: t83 :: t84 :: t85 :: t86 :: t87 :: t88 :: t89 :: t90 :: t91 :: t92 :: t93 :: t94 :: t95 :: u96 :: u97 :: u98 :: u99 :: u100 :: u101 :: u102 :: u103 :: u104 :: u105 :: u106 :: u107 :: u108 :: u109 :: u110 :: u111 :: u112 :: u113 :: u114 :: u115 :: u116 :: u117 :: u118 :: u119 :: u120 :: u121 :: u122 :: u123 :: u124 :: u125 :: u126 :: u127 :: u128 :: u129 :: u130 :: u131 :: u132 :: u133 :: u134 :: u135 :: u136 :: u137 :: u138 :: u139 :: u140 :: u141 :: u142 :: u143 :: u144 :: u145 :: u146 :: u147 :: u148 :: u149 :: u150 :: u151 :: u152 :: u153 :: u154 :: u155 :: u156 :: u157 :: u158 :: u159 :: u160 :: u161 :: u162 :: u163 :: u164 :: u165 :: u166 :: u167 :: u168 :: u169 :: u170 :: u171 :: u172 :: u173 :: u174 :: t175 :: t176 :: t177 :: t178 :: t179 :: t180 :: t181 :: t182 :: t183 :: t184 :: t185 :: t186 :: t187 :: t188 :: t189 :: t190 :: t191 :: t192 :: t193 :: t194 :: t195 :: t196 :: t197 :: t198 :: t199 :: t200 :: t201 :: t202 :: t203 :: t204 :: t205 :: t206 :: t207 :: t208 :: t209 :: t210 :: t211 :: t212 :: t213 :: t214 :: t215 :: t216 :: t217 :: t218 :: t219 :: t220 :: t221 :: t222 :: t223 :: t224 :: t225 :: t226 :: t227 :: t228 :: t229 :: t230 :: t231 :: t232 :: t233 :: [])), []⟩ w') :
    Code.wp Tryz.prog (Code.loop moA0) Q0 ⟨(List.toArray (t0 :: .int .i64 (k : Int) :: .string nm :: .string ds :: t4 :: t5 :: t6 :: t7 :: t8 :: .pointer (some ⟨b, 0, none⟩) :: .slice aa KA ca :: t11 :: .slice am K cm :: t13 :: t14 :: t15 :: .int .i64 0 :: t17 :: t18 :: t19 :: t20 :: t21 :: t22 :: t23 :: t24 :: t25 :: t26 :: t27 :: t28 :: t29 :: t30 :: t31 :: t32 :: t33 :: t34 :: t35 :: t36 :: t37 :: t38 :: t39 :: t40 :: t41 :: t42 :: t43 :: t44 :: t45 :: t46 :: t47 :: t48 :: t49 :: t50 :: t51 :: t52 :: t53 :: t54 :: t55 :: t56 :: t57 :: t58 :: t59 :: t60 :: t61 :: t62 :: t63 :: t64 :: t65 :: t66 :: t67 :: t68 :: t69 :: t70 :: t71 :: t72 :: t73 :: t74 :: t75 :: t76 :: t77 :: t78 :: t79 :: t80 :: t81 :: t82 :: t83 :: t84 :: t85 :: t86 :: t87 :: t88 :: t89 :: t90 :: t91 :: t92 :: t93 :: t94 :: t95 :: t96 :: t97 :: t98 :: t99 :: t100 :: t101 :: t102 :: t103 :: t104 :: t105 :: t106 :: t107 :: t108 :: t109 :: t110 :: t111 :: t112 :: t113 :: t114 :: t115 :: t116 :: t117 :: t118 :: t119 :: t120 :: t121 :: t122 :: t123 :: t124 :: t125 :: t126 :: t127 :: t128 :: t129 :: t130 :: t131 :: t132 :: t133 :: t134 :: t135 :: t136 :: t137 :: t138 :: t139 :: t140 :: t141 :: t142 :: t143 :: t144 :: t145 :: t146 :: t147 :: t148 :: t149 :: t150 :: t151 :: t152 :: t153 :: t154 :: t155 :: t156 :: t157 :: t158 :: t159 :: t160 :: t161 :: t162 :: t163 :: t164 :: t165 :: t166 :: t167 :: t168 :: t169 :: t170 :: t171 :: t172 :: t173 :: t174 :: t175 :: t176 :: t177 :: t178 :: t179 :: t180 :: t181 :: t182 :: t183 :: t184 :: t185 :: t186 :: t187 :: t188 :: t189 :: t190 :: t191 :: t192 :: t193 :: t194 :: t195 :: t196 :: t197 :: t198 :: t199 :: t200 :: t201 :: t202 :: t203 :: t204 :: t205 :: t206 :: t207 :: t208 :: t209 :: t210 :: t211 :: t212 :: t213 :: t214 :: t215 :: t216 :: t217 :: t218 :: t219 :: t220 :: t221 :: t222 :: t223 :: t224 :: t225 :: t226 :: t227 :: t228 :: t229 :: t230 :: t231 :: t232 :: t233 :: [])), []⟩ w := by
  conv => arg 2; arg 1; whnf
  have HX : Hid (∀ (u8 u16 u17 u18 u19 u20 u96 u97 u98 u99 u100 u101 u102 u103 u104 u105 u106 u107 u108 u109 u110 u111 u112 u113 u114 u115 u116 u117 u118 u119 u120 u121 u122 u123 u124 u125 u126 u127 u128 u129 u130 u131 u132 u133 u134 u135 u136 u137 u138 u139 u140 u141 u142 u143 u144 u145 u146 u147 u148 u149 u150 u151 u152 u153 u154 u155 u156 u157 u158 u159 u160 u161 u162 u163 u164 u165 u166 u167 u168 u169 u170 u171 u172 u173 u174 : Value) (w' : World), Hid (Below w.heap.size w w') → Q0 (.exit 4) ⟨(List.toArray (t0 :: .int .i64 (k : Int) :: .string nm :: .string ds :: t4 :: t5 :: t6 :: t7 :: u8 :: .pointer (some ⟨b, 0, none⟩) :: .slice aa KA ca :: t11 :: .slice am K cm :: t13 :: t14 :: t15 :: u16 :: u17 :: u18 :: u19 :: u20 :: t21 :: t22 :: t23 :: t24 :: t25 :: t26 :: t27 :: t28 :: t29 :: t30 :: t31 :: t32 :: t33 :: t34 :: t35 :: t36 :: t37 :: t38 :: t39 :: t40 :: t41 :: t42 :: t43 :: t44 :: t45 :: t46 :: t47 :: t48 :: t49 :: t50 :: t51 :: t52 :: t53 :: t54 :: t55 :: t56 :: t57 :: t58 :: t59 :: t60 :: t61 :: t62 :: t63 :: t64 :: t65 :: t66 :: t67 :: t68 :: t69 :: t70 :: t71 :: t72 :: t73 :: t74 :: t75 :: t76 :: t77 :: t78 :: t79 :: t80 :: t81 :: t82 :: t83 :: t84 :: t85 :: t86 :: t87 :: t88 :: t89 :: t90 :: t91 :: t92 :: t93 :: t94 :: t95 :: u96 :: u97 :: u98 :: u99 :: u100 :: u101 :: u102 :: u103 :: u104 :: u105 :: u106 :: u107 :: u108 :: u109 :: u110 :: u111 :: u112 :: u113 :: u114 :: u115 :: u116 :: u117 :: u118 :: u119 :: u120 :: u121 :: u122 :: u123 :: u124 :: u125 :: u126 :: u127 :: u128 :: u129 :: u130 :: u131 :: u132 :: u133 :: u134 :: u135 :: u136 :: u137 :: u138 :: u139 :: u140 :: u141 :: u142 :: u143 :: u144 :: u145 :: u146 :: u147 :: u148 :: u149 :: u150 :: u151 :: u152 :: u153 :: u154 :: u155 :: u156 :: u157 :: u158 :: u159 :: u160 :: u161 :: u162 :: u163 :: u164 :: u165 :: u166 :: u167 :: u168 :: u169 :: u170 :: u171 :: u172 :: u173 :: u174 :: t175 :: t176 :: t177 :: t178 :: t179 :: t180 :: t181 :: t182 :: t183 :: t184 :: t185 :: t186 :: t187 :: t188 :: t189 :: t190 :: t191 :: t192 :: t193 :: t194 :: t195 :: t196 :: t197 :: t198 :: t199 :: t200 :: t201 :: t202 :: t203 :: t204 :: t205 :: t206 :: t207 :: t208 :: t209 :: t210 :: t211 :: t212 :: t213 :: t214 :: t215 :: t216 :: t217 :: t218 :: t219 :: t220 :: t221 :: t222 :: t223 :: t224 :: t225 :: t226 :: t227 :: t228 :: t229 :: t230 :: t231 :: t232 :: t233 :: [])), []⟩ w') := hexit
  clear hexit
  go_loopw [16] (fun iv wr => ∃ i : Nat, iv = .int .i64 (i : Int) ∧ i ≤ KA ∧ Hid (Below w.heap.size w wr)) (fun iv _ => KA - (intOf iv).toNat)
  case atStart => exact ⟨0, rfl, Nat.zero_le _, Below.refl _ _⟩
  case round =>
    obtain ⟨i, rfl, hi, hB⟩ := hrel
    by_cases hlt : i < KA
    · have hiI : (i : Int) < (KA : Int) := by omega
      obtain ⟨x, hx⟩ : ∃ x, A[i]? = some x := ⟨_, List.getElem?_eq_getElem (by rw [HKA.out]; exact hlt)⟩
      obtain ⟨g, rfl, c0, c1⟩ := (HMo.out.below hB.out).allC hx
      obtain ⟨f1, f2, f3, m, f4, f5, f6, f7⟩ := HF.out x (List.mem_of_getElem? hx)
      have hgl : g < wr.heap.size := World.block_lt_of_cell? wr _ c0
      have HXX : Hid (A[i]? = some x) := hx
      have HME : Hid (Calls Tryz.prog 39 #[.pointer (some ⟨b, 0, none⟩), .agg #[.int .i64 x.1, .int .i64 x.2]] wr fun e w' => (∃ v, e = .returned (.tuple #[.agg #[.string nm, .string ds, .int .i64 m.fl, .int .i64 m.lo, .int .i64 m.st, v], .int .i64 0]) ∧ w'.ownsRow wr.heap.size 190 7 v m.n m.xs) ∧ Below wr.heap.size wr w') := by
        have := method_c (HMo.out.wat.below hB.out) HWI.out.pb x.1 x.2
        rw [f4] at this
        rw [← f5, ← f6]
        exact this
      have HIF : Hid (∀ w', Below w.heap.size w w' → Calls Tryz.prog 33 #[.pointer (some ⟨b, 0, none⟩), .int .i64 x.1] w' fun e w'' => e = .returned (.bool true) ∧ Below w'.heap.size w' w'') := fun w' hb => by
        have := isIface_c (HMo.out.wat.below hb) x.1
        rw [f1] at this
        exact this
      have HEX : Hid (∀ w', Below w.heap.size w w' → Calls Tryz.prog 31 #[.pointer (some ⟨b, 0, none⟩), .int .i64 (k : Int), .int .i64 x.1] w' fun e w'' => e = .returned (.bool true) ∧ Below w'.heap.size w' w'') := fun w' hb => by
        have := extends_c (HMo.out.wat.below hb) HWI.out (k : Int) x.1
        rw [f2] at this
        exact this
      have HMET : Hid ((M.any fun o => extI ps o.1 x.1) = true) := f3
      have HX0 : Hid (wr.cell? ⟨g, i * 2, none⟩ = some (.int .i64 x.1)) := c0
      clear hx f1 f2 f3 f4 f5 f6 HF HX
      have hbl : Hid (∀ w2 o, Below wr.heap.size wr w2 → (w2.alloc o).cell? ⟨g, i * 2, none⟩ = some (.int .i64 x.1)) := fun w2 o hb => Lib.cell?_alloc_some _ ((hb.cell (p := ⟨g, i * 2, none⟩) hgl).trans HX0.out)
      obtain ⟨xx, hxx⟩ : ∃ xx, xx = x := ⟨_, rfl⟩
      rw [← hxx] at HMET HXX
      have HXE : Hid (xx = x) := hxx
      clear hxx
      obtain ⟨x1, x2⟩ := x
      simp only at c0 c1 HME HIF HEX hbl
      generalize m.fl = fl at *
      go_wp2_with (first
        | (go_at_call 39; refine HME.out.mono ?_; rintro e w1 ⟨⟨v9, rfl, ho⟩, hb⟩; obtain ⟨a9, c9, rfl⟩ := ownv ho; have c2 := hbl.out w1 (.cells #[.string nm, .string ds, .int .i64 fl, .int .i64 m.lo, .int .i64 m.st, .slice a9 m.n c9] 58) hb; have BB : Hid (Below w.heap.size w (w1.alloc (.cells #[.string nm, .string ds, .int .i64 fl, .int .i64 m.lo, .int .i64 m.st, .slice a9 m.n c9] 58))) := (bstep hB.out hb).alloc (bstep hB.out hb).size _; have B1 : Hid (Below wr.heap.size wr w1) := hb; clear hb HME ho)
        | (go_at_call 33; refine (HIF.out _ BB.out).mono ?_; rintro e w2 ⟨rfl, hb⟩; have c3 : w2.cell? ⟨g, i * 2, none⟩ = some (.int .i64 x1) := (hb.cell (p := ⟨g, i * 2, none⟩) (World.block_lt_of_cell? _ _ c2)).trans c2; have BB2 : Below w.heap.size w w2 := bstep BB.out hb; clear BB; have BB : Hid (Below w.heap.size w w2) := BB2; clear hb HIF BB2)
        | (go_at_call 31; refine (HEX.out _ BB.out).mono ?_; rintro e w3 ⟨rfl, hb⟩; have BB2 : Below w.heap.size w w3 := bstep BB.out hb; clear BB; have BB : Hid (Below w.heap.size w w3) := BB2; clear hb HEX BB2))
      refine mostM b ps (some ⟨g, 0, none⟩) am ca cm KA K A M HKA HK hKA hK HWI i hlt xx HXX.out w3 (HMo.out.below BB.out) _ _ _ _ _ _ _ _ _ _ _ _ _ _ _ _ _ _ _ _ _ _ _ _ _ _ _ _ _ _ _ _ _ _ _ _ _ _ _ _ _ _ _ _ _ _ _ _ _ _ _ _ _ _ _ _ _ _ _ _ _ _ _ _ _ _ _ _ _ _ _ _ _ _ _ _ _ _ _ _ _ _ _ _ _ _ _ _ _ _ _ _ _ _ _ _ _ _ _ _ _ _ _ _ _ _ _ _ _ _ _ _ _ _ _ _ _ _ _ _ _ _ _ _ _ _ _ _ _ _ _ _ _ _ _ _ _ _ _ _ _ _ _ _ _ _ _ _ _ _ _ _ _ _ _ _ _ _ _ _ _ _ _ _ _ _ _ _ _ _ _ _ _ _ _ _ _ _ _ _ _ _ _ _ _ _ _ _ _ _ _ _ _ _ _ _ _ _ _ _ _ _ _ _ _ _ _ _ _ _ _ _ _ _ _ _ _ _ _ _ _ _ _ _ _ _ _ _ _ ?_
      intro u20 u152 u153 u154 u155 u156 u157 u158 u159 u160 u161 u162 u163 u164 u165 u166 u167 u168 u169 u170 u171 u172 w4 hB4
      rw [HMET.out]
      have B4 : Hid (Below w.heap.size w w4) := bstep BB.out hB4.out
      clear hB4
      go_wp2
      go_roundw
      case rel => exact ⟨i + 1, by go_num, by omega, B4⟩
      case measure => simp [intOf]; omega
    · have e : i = KA := by omega
      subst e
      clear HMo HF HK HKA
      go_wp2
      exact HX.out _ _ _ _ _ _ _ _ _ _ _ _ _ _ _ _ _ _ _ _ _ _ _ _ _ _ _ _ _ _ _ _ _ _ _ _ _ _ _ _ _ _ _ _ _ _ _ _ _ _ _ _ _ _ _ _ _ _ _ _ _ _ _ _ _ _ _ _ _ _ _ _ _ _ _ _ _ _ _ _ _ _ _ _ _ _ hB
end Go.Proofs.YtahalliodpkoeaaGreat
