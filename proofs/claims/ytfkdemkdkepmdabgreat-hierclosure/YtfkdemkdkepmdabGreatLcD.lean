/- The law HierClosure: the loop over the own interfaces. -/
import Derived.Test.YtfkdemkdkepmdabGreatLcB
namespace Go.Proofs.YtfkdemkdkepmdabGreat
open Go.RowKit Go.Maps

set_option maxRecDepth 1000000 in
set_option maxHeartbeats 4000000 in
theorem mLoop (b bc L : Nat) (ks : List Nat) (names : List (List UInt8)) (hks : ks.length = names.length) (hnl : names.length ≤ 1000000) (al ai : Option Addr) (cl ci : Nat) (w : World)
    (hbc : bc < w.heap.size) (hbox : w.cell? ⟨bc, 2, none⟩ = some (.slice ai names.length ci)) (HN : Hid (Rds w (.slice ai names.length ci) names.length 1 (strsV names)))
    (HBy : Hid (∀ (i k : Nat) (p : List UInt8) (w' : World), names[i]? = some p → ks[i]? = some k → Below w.heap.size w w' → Calls Tryz.prog 14 #[.pointer (some ⟨b, 0, none⟩), .string ⟨p.toArray⟩] w' fun e w'' => e = .returned (.tuple #[.int .i64 (k : Int), .int .i64 0]) ∧ Below w'.heap.size w' w''))
    (HH : Hid (∀ (k : Nat) (w' : World), k ∈ ks → Below w.heap.size w w' → Calls Tryz.prog 13 #[.slice al L cl, .int .i64 (k : Int)] w' fun e w'' => e = .returned (.bool true) ∧ Below w'.heap.size w' w''))
    (t0 t1 t2 t4 t5 t7 t9 t10 t11 t12 t13 t14 t15 t16 t17 t18 t19 t21 t22 t23 t24 t25 t26 t27 t28 t29 t30 t31 t32 t33 t34 t35 t36 t37 t38 t39 t40 t41 t42 t43 t44 t45 t46 t47 t48 t49 t50 t51 t52 t53 t54 t55 t56 t57 t58 t59 t60 t61 t62 t63 t64 t65 t66 t67 t68 t69 t70 t71 t72 t73 t74 t75 t76 t77 t78 t79 t80 t81 t82 t83 t84 t85 t86 t87 t88 t89 t90 t91 t92 t93 t94 t95 t96 t97 t98 t99 t100 t101 t102 t103 t104 t105 t106 t107 t108 t109 t110 t111 t112 t113 t114 t115 t116 t117 t118 t119 t120 t121 t122 t123 t124 t125 t126 t127 t128 t129 t130 t131 t132 t133 t134 t135 t136 t137 t138 t139 t140 t141 t142 t143 t144 t145 t146 t147 t148 t149 t150 t151 t152 t153 t154 t155 t156 t157 t158 t159 t160 t161 t162 t163 t164 t165 t166 t167 t168 t169 t170 t171 t172 t173 t174 t175 t176 t177 t178 t179 t180 : Value) (Q0 : Exit → Act → World → Prop)
    (hexit : ∀ (u2 u20 u21 u22 u160 u161 u162 u163 u164 u165 u166 u167 u168 u169 u170 u171 u172 u173 u174 u175 u176 u177 u178 u179 u180 : Value) (w' : World), Hid (Below w.heap.size w w') → Q0 (.exit 10) ⟨(List.toArray (t0 :: t1 :: u2 :: .pointer (some ⟨b, 0, none⟩) :: t4 :: t5 :: .pointer (some ⟨bc, 0, none⟩) :: t7 :: .slice al L cl :: t9 :: t10 :: t11 :: t12 :: t13 :: t14 :: t15 :: t16 :: t17 :: t18 :: t19 :: u20 :: u21 :: u22 :: t23 :: t24 :: t25 :: t26 :: t27 :: t28 :: t29 :: t30 :: t31 :: t32 :: t33 :: t34 :: t35 :: t36 :: t37 :: t38 :: t39 :: t40 :: t41 :: t42 :: t43 :: t44 :: t45 :: t46 :: t47 :: t48 :: t49 :: t50 :: t51 :: t52 :: t53 :: t54 :: t55 :: t56 :: t57 :: t58 :: t59 :: t60 :: t61 :: t62 :: t63 :: t64 :: t65 :: t66 :: t67 :: t68 :: t69 :: t70 :: t71 :: t72 :: t73 :: t74 :: t75 :: t76 :: t77 :: t78 :: t79 :: t80 :: t81 :: t82 :: t83 :: t84 :: t85 :: t86 :: t87 :: t88 :: t89 :: t90 :: t91 :: t92 :: t93 :: t94 :: t95 :: t96 :: t97 :: t98 :: t99 :: t100 :: t101 :: t102 :: t103 :: t104 :: t105 :: t106 :: t107 :: t108 :: t109 :: t110 :: t111 :: t112 :: t113 :: t114 :: t115 :: t116 :: t117 :: t118 :: t119 :: t120 :: t121 :: t122 :: t123 :: t124 :: t125 :: t126 :: t127 :: t128 :: t129 :: t130 :: t131 :: t132 :: t133 :: t134 :: t135 :: t136 :: t137 :: t138 :: t139 :: t140 :: t141 :: t142 :: t143 :: t144 :: t145 :: t146 :: t147 :: t148 :: t149 :: t150 :: t151 :: t152 :: t153 :: t154 :: t155 :: t156 :: t157 :: t158 :: t159 :: u160 :: u161 :: u162 :: u163 :: u164 :: u165 :: u166 :: u167 :: u168 :: u169 :: u170 :: u171 :: u172 :: u173 :: u174 :: u175 :: u176 :: u177 :: u178 :: u179 :: u180 :: [])), []⟩ w') :
    Code.wp Tryz.prog (Code.loop mBody) Q0 ⟨(List.toArray (t0 :: t1 :: t2 :: .pointer (some ⟨b, 0, none⟩) :: t4 :: t5 :: .pointer (some ⟨bc, 0, none⟩) :: t7 :: .slice al L cl :: t9 :: t10 :: t11 :: t12 :: t13 :: t14 :: t15 :: t16 :: t17 :: t18 :: t19 :: .int .i64 0 :: t21 :: t22 :: t23 :: t24 :: t25 :: t26 :: t27 :: t28 :: t29 :: t30 :: t31 :: t32 :: t33 :: t34 :: t35 :: t36 :: t37 :: t38 :: t39 :: t40 :: t41 :: t42 :: t43 :: t44 :: t45 :: t46 :: t47 :: t48 :: t49 :: t50 :: t51 :: t52 :: t53 :: t54 :: t55 :: t56 :: t57 :: t58 :: t59 :: t60 :: t61 :: t62 :: t63 :: t64 :: t65 :: t66 :: t67 :: t68 :: t69 :: t70 :: t71 :: t72 :: t73 :: t74 :: t75 :: t76 :: t77 :: t78 :: t79 :: t80 :: t81 :: t82 :: t83 :: t84 :: t85 :: t86 :: t87 :: t88 :: t89 :: t90 :: t91 :: t92 :: t93 :: t94 :: t95 :: t96 :: t97 :: t98 :: t99 :: t100 :: t101 :: t102 :: t103 :: t104 :: t105 :: t106 :: t107 :: t108 :: t109 :: t110 :: t111 :: t112 :: t113 :: t114 :: t115 :: t116 :: t117 :: t118 :: t119 :: t120 :: t121 :: t122 :: t123 :: t124 :: t125 :: t126 :: t127 :: t128 :: t129 :: t130 :: t131 :: t132 :: t133 :: t134 :: t135 :: t136 :: t137 :: t138 :: t139 :: t140 :: t141 :: t142 :: t143 :: t144 :: t145 :: t146 :: t147 :: t148 :: t149 :: t150 :: t151 :: t152 :: t153 :: t154 :: t155 :: t156 :: t157 :: t158 :: t159 :: t160 :: t161 :: t162 :: t163 :: t164 :: t165 :: t166 :: t167 :: t168 :: t169 :: t170 :: t171 :: t172 :: t173 :: t174 :: t175 :: t176 :: t177 :: t178 :: t179 :: t180 :: [])), []⟩ w := by
  conv => arg 2; arg 1; whnf
  have HX : Hid (∀ (u2 u20 u21 u22 u160 u161 u162 u163 u164 u165 u166 u167 u168 u169 u170 u171 u172 u173 u174 u175 u176 u177 u178 u179 u180 : Value) (w' : World), Hid (Below w.heap.size w w') → Q0 (.exit 10) ⟨(List.toArray (t0 :: t1 :: u2 :: .pointer (some ⟨b, 0, none⟩) :: t4 :: t5 :: .pointer (some ⟨bc, 0, none⟩) :: t7 :: .slice al L cl :: t9 :: t10 :: t11 :: t12 :: t13 :: t14 :: t15 :: t16 :: t17 :: t18 :: t19 :: u20 :: u21 :: u22 :: t23 :: t24 :: t25 :: t26 :: t27 :: t28 :: t29 :: t30 :: t31 :: t32 :: t33 :: t34 :: t35 :: t36 :: t37 :: t38 :: t39 :: t40 :: t41 :: t42 :: t43 :: t44 :: t45 :: t46 :: t47 :: t48 :: t49 :: t50 :: t51 :: t52 :: t53 :: t54 :: t55 :: t56 :: t57 :: t58 :: t59 :: t60 :: t61 :: t62 :: t63 :: t64 :: t65 :: t66 :: t67 :: t68 :: t69 :: t70 :: t71 :: t72 :: t73 :: t74 :: t75 :: t76 :: t77 :: t78 :: t79 :: t80 :: t81 :: t82 :: t83 :: t84 :: t85 :: t86 :: t87 :: t88 :: t89 :: t90 :: t91 :: t92 :: t93 :: t94 :: t95 :: t96 :: t97 :: t98 :: t99 :: t100 :: t101 :: t102 :: t103 :: t104 :: t105 :: t106 :: t107 :: t108 :: t109 :: t110 :: t111 :: t112 :: t113 :: t114 :: t115 :: t116 :: t117 :: t118 :: t119 :: t120 :: t121 :: t122 :: t123 :: t124 :: t125 :: t126 :: t127 :: t128 :: t129 :: t130 :: t131 :: t132 :: t133 :: t134 :: t135 :: t136 :: t137 :: t138 :: t139 :: t140 :: t141 :: t142 :: t143 :: t144 :: t145 :: t146 :: t147 :: t148 :: t149 :: t150 :: t151 :: t152 :: t153 :: t154 :: t155 :: t156 :: t157 :: t158 :: t159 :: u160 :: u161 :: u162 :: u163 :: u164 :: u165 :: u166 :: u167 :: u168 :: u169 :: u170 :: u171 :: u172 :: u173 :: u174 :: u175 :: u176 :: u177 :: u178 :: u179 :: u180 :: [])), []⟩ w') := hexit
  obtain ⟨M, hM⟩ : ∃ M, names.length = M := ⟨_, rfl⟩
  have HM : Hid (names.length = M) := hM
  rw [hM] at hbox hks hnl
  clear hexit
  go_loopw [20] (fun kv wr => ∃ k : Nat, kv = .int .i64 (k : Int) ∧ k ≤ M ∧ Hid (Below w.heap.size w wr)) (fun kv _ => M - (intOf kv).toNat)
  case atStart => exact ⟨0, rfl, Nat.zero_le _, Below.refl _ _⟩
  case round =>
    obtain ⟨k, rfl, hk, hB⟩ := hrel
    have pb := (hB.out.cell (p := ⟨bc, 2, none⟩) hbc).trans hbox
    by_cases hlt : k < M
    · obtain ⟨p, hp⟩ : ∃ p, names[k]? = some p := ⟨_, List.getElem?_eq_getElem (by rw [HM.out]; exact hlt)⟩
      obtain ⟨q, hq⟩ : ∃ q, ks[k]? = some q := ⟨_, List.getElem?_eq_getElem (by rw [hks]; exact hlt)⟩
      obtain ⟨nk, no, rfl, hnk, hcn⟩ := rds_str HN.out hp
      have pn := (hB.out.cell (p := ⟨nk, no + k, none⟩) hnk).trans hcn
      have HBy1 : Hid (Calls Tryz.prog 14 #[.pointer (some ⟨b, 0, none⟩), .string ⟨p.toArray⟩] wr fun e w'' => e = .returned (.tuple #[.int .i64 (q : Int), .int .i64 0]) ∧ Below wr.heap.size wr w'') := HBy.out k q p wr hp hq hB.out
      have HH1 : Hid (∀ w' : World, Below w.heap.size w w' → Calls Tryz.prog 13 #[.slice al L cl, .int .i64 (q : Int)] w' fun e w'' => e = .returned (.bool true) ∧ Below w'.heap.size w' w'') := fun w' hb => HH.out q w' (List.mem_of_getElem? hq) hb
      have hkI : (k : Int) < (M : Int) := by omega
      clear HBy HH HX HN hp hq hcn
      go_wp2_with (first
        | (go_at_call 14; refine HBy1.out.mono ?_; rintro e w1 ⟨rfl, hb⟩; have B1 : Hid (Below w.heap.size w w1) := bstep hB.out hb; clear hb HBy1)
        | (go_at_call 13; refine (HH1.out _ B1.out).mono ?_; rintro e w2 ⟨rfl, hb⟩; have B2 : Hid (Below w.heap.size w w2) := bstep B1.out hb; clear hb HH1))
      go_roundw
      case rel => exact ⟨k + 1, by go_num, by omega, B2⟩
      case measure => simp [intOf]; omega
    · have e : k = M := by omega
      subst e
      clear HBy HH
      go_wp2
      exact HX.out _ _ _ _ _ _ _ _ _ _ _ _ _ _ _ _ _ _ _ _ _ _ _ _ _ _ hB
end Go.Proofs.YtfkdemkdkepmdabGreat
