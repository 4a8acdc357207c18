/- The law HierClosure: the loop over the closure. -/
import Derived.Test.YtfkdemkdkepmdabGreatLcB
namespace Go.Proofs.YtfkdemkdkepmdabGreat
open Go.RowKit Go.Maps

set_option maxRecDepth 1000000 in
set_option maxHeartbeats 4000000 in
theorem iLoop (b bc : Nat) (ev : Int) (gx : Nat → Nat → Bool) (l ks ab : List Nat) (names : List (List UInt8)) (hl : l.length ≤ 1000000) (hks : ks.length = names.length) (hnl : names.length ≤ 1000000) (al ai aa : Option Addr) (cl ci ca : Nat) (w : World) (HV : Hid (Rds w (.slice al l.length cl) l.length 1 (l.map numV)))
    (hbc : bc < w.heap.size) (hbox : w.cell? ⟨bc, 2, none⟩ = some (.slice ai names.length ci)) (HN : Hid (Rds w (.slice ai names.length ci) names.length 1 (strsV names)))
    (hwhy : ∀ x ∈ l, ((decide (ev = 0) && ab.contains x) || ks.any (gx x)) = true)
    (HBy : Hid (∀ (i k : Nat) (p : List UInt8) (w' : World), names[i]? = some p → ks[i]? = some k → Below w.heap.size w w' → Calls Tryz.prog 14 #[.pointer (some ⟨b, 0, none⟩), .string ⟨p.toArray⟩] w' fun e w'' => e = .returned (.tuple #[.int .i64 (k : Int), .int .i64 0]) ∧ Below w'.heap.size w' w''))
    (HEk : Hid (∀ (x k : Nat) (w' : World), x ∈ l → k ∈ ks → Below w.heap.size w w' → Calls Tryz.prog 12 #[.pointer (some ⟨b, 0, none⟩), .int .i64 (k : Int), .int .i64 (x : Int)] w' fun e w'' => e = .returned (.bool (gx x k)) ∧ Below w'.heap.size w' w''))
    (HEj : Hid (∀ (i j x y : Nat) (w' : World), i < j → l[i]? = some x → l[j]? = some y → Below w.heap.size w w' → x ≠ y ∧ Calls Tryz.prog 12 #[.pointer (some ⟨b, 0, none⟩), .int .i64 (x : Int), .int .i64 (y : Int)] w' fun e w'' => e = .returned (.bool false) ∧ Below w'.heap.size w' w''))
    (HH : Hid (∀ (x : Nat) (w' : World), Below w.heap.size w w' → Calls Tryz.prog 13 #[.slice aa ab.length ca, .int .i64 (x : Int)] w' fun e w'' => e = .returned (.bool (ab.contains x)) ∧ Below w'.heap.size w' w''))
    (t0 t1 t2 t4 t5 t7 t9 t10 t13 t15 t16 t17 t18 t19 t20 t21 t22 t23 t24 t25 t26 t27 t28 t29 t30 t31 t32 t33 t34 t35 t36 t37 t38 t39 t40 t41 t42 t43 t44 t45 t46 t47 t48 t49 t50 t51 t52 t53 t54 t55 t56 t57 t58 t59 t60 t61 t62 t63 t64 t65 t66 t67 t68 t69 t70 t71 t72 t73 t74 t75 t76 t77 t78 t79 t80 t81 t82 t83 t84 t85 t86 t87 t88 t89 t90 t91 t92 t93 t94 t95 t96 t97 t98 t99 t100 t101 t102 t103 t104 t105 t106 t107 t108 t109 t110 t111 t112 t113 t114 t115 t116 t117 t118 t119 t120 t121 t122 t123 t124 t125 t126 t127 t128 t129 t130 t131 t132 t133 t134 t135 t136 t137 t138 t139 t140 t141 t142 t143 t144 t145 t146 t147 t148 t149 t150 t151 t152 t153 t154 t155 t156 t157 t158 t159 t160 t161 t162 t163 t164 t165 t166 t167 t168 t169 t170 t171 t172 t173 t174 t175 t176 t177 t178 t179 t180 : Value) (Q0 : Exit → Act → World → Prop)
    (hexit : ∀ (u2 u14 u15 u16 u17 u18 u19 u86 u87 u88 u89 u90 u91 u92 u93 u94 u95 u96 u97 u98 u99 u100 u101 u102 u103 u104 u105 u106 u107 u108 u109 u110 u111 u112 u113 u114 u115 u116 u117 u118 u119 u120 u121 u122 u123 u124 u125 u126 u127 u128 u129 u130 u131 u132 u133 u134 u135 u136 u137 u138 u139 u140 u141 u142 u143 u144 u145 u146 u147 u148 u149 u150 u151 u152 u153 u154 u155 u156 u157 u158 u159 : Value) (w' : World), Hid (Below w.heap.size w w') → Q0 (.exit 4) ⟨(List.toArray (t0 :: t1 :: u2 :: .pointer (some ⟨b, 0, none⟩) :: t4 :: t5 :: .pointer (some ⟨bc, 0, none⟩) :: t7 :: .slice al l.length cl :: t9 :: t10 :: .int .i64 ev :: .slice aa ab.length ca :: t13 :: u14 :: u15 :: u16 :: u17 :: u18 :: u19 :: t20 :: t21 :: t22 :: t23 :: t24 :: t25 :: t26 :: t27 :: t28 :: t29 :: t30 :: t31 :: t32 :: t33 :: t34 :: t35 :: t36 :: t37 :: t38 :: t39 :: t40 :: t41 :: t42 :: t43 :: t44 :: t45 :: t46 :: t47 :: t48 :: t49 :: t50 :: t51 :: t52 :: t53 :: t54 :: t55 :: t56 :: t57 :: t58 :: t59 :: t60 :: t61 :: t62 :: t63 :: t64 :: t65 :: t66 :: t67 :: t68 :: t69 :: t70 :: t71 :: t72 :: t73 :: t74 :: t75 :: t76 :: t77 :: t78 :: t79 :: t80 :: t81 :: t82 :: t83 :: t84 :: t85 :: u86 :: u87 :: u88 :: u89 :: u90 :: u91 :: u92 :: u93 :: u94 :: u95 :: u96 :: u97 :: u98 :: u99 :: u100 :: u101 :: u102 :: u103 :: u104 :: u105 :: u106 :: u107 :: u108 :: u109 :: u110 :: u111 :: u112 :: u113 :: u114 :: u115 :: u116 :: u117 :: u118 :: u119 :: u120 :: u121 :: u122 :: u123 :: u124 :: u125 :: u126 :: u127 :: u128 :: u129 :: u130 :: u131 :: u132 :: u133 :: u134 :: u135 :: u136 :: u137 :: u138 :: u139 :: u140 :: u141 :: u142 :: u143 :: u144 :: u145 :: u146 :: u147 :: u148 :: u149 :: u150 :: u151 :: u152 :: u153 :: u154 :: u155 :: u156 :: u157 :: u158 :: u159 :: t160 :: t161 :: t162 :: t163 :: t164 :: t165 :: t166 :: t167 :: t168 :: t169 :: t170 :: t171 :: t172 :: t173 :: t174 :: t175 :: t176 :: t177 :: t178 :: t179 :: t180 :: [])), []⟩ w') :
    Code.wp Tryz.prog (Code.loop iBody) Q0 ⟨(List.toArray (t0 :: t1 :: t2 :: .pointer (some ⟨b, 0, none⟩) :: t4 :: t5 :: .pointer (some ⟨bc, 0, none⟩) :: t7 :: .slice al l.length cl :: t9 :: t10 :: .int .i64 ev :: .slice aa ab.length ca :: t13 :: .int .i64 0 :: t15 :: t16 :: t17 :: t18 :: t19 :: t20 :: t21 :: t22 :: t23 :: t24 :: t25 :: t26 :: t27 :: t28 :: t29 :: t30 :: t31 :: t32 :: t33 :: t34 :: t35 :: t36 :: t37 :: t38 :: t39 :: t40 :: t41 :: t42 :: t43 :: t44 :: t45 :: t46 :: t47 :: t48 :: t49 :: t50 :: t51 :: t52 :: t53 :: t54 :: t55 :: t56 :: t57 :: t58 :: t59 :: t60 :: t61 :: t62 :: t63 :: t64 :: t65 :: t66 :: t67 :: t68 :: t69 :: t70 :: t71 :: t72 :: t73 :: t74 :: t75 :: t76 :: t77 :: t78 :: t79 :: t80 :: t81 :: t82 :: t83 :: t84 :: t85 :: t86 :: t87 :: t88 :: t89 :: t90 :: t91 :: t92 :: t93 :: t94 :: t95 :: t96 :: t97 :: t98 :: t99 :: t100 :: t101 :: t102 :: t103 :: t104 :: t105 :: t106 :: t107 :: t108 :: t109 :: t110 :: t111 :: t112 :: t113 :: t114 :: t115 :: t116 :: t117 :: t118 :: t119 :: t120 :: t121 :: t122 :: t123 :: t124 :: t125 :: t126 :: t127 :: t128 :: t129 :: t130 :: t131 :: t132 :: t133 :: t134 :: t135 :: t136 :: t137 :: t138 :: t139 :: t140 :: t141 :: t142 :: t143 :: t144 :: t145 :: t146 :: t147 :: t148 :: t149 :: t150 :: t151 :: t152 :: t153 :: t154 :: t155 :: t156 :: t157 :: t158 :: t159 :: t160 :: t161 :: t162 :: t163 :: t164 :: t165 :: t166 :: t167 :: t168 :: t169 :: t170 :: t171 :: t172 :: t173 :: t174 :: t175 :: t176 :: t177 :: t178 :: t179 :: t180 :: [])), []⟩ w := by
  conv => arg 2; arg 1; whnf
  have HX : Hid (∀ (u2 u14 u15 u16 u17 u18 u19 u86 u87 u88 u89 u90 u91 u92 u93 u94 u95 u96 u97 u98 u99 u100 u101 u102 u103 u104 u105 u106 u107 u108 u109 u110 u111 u112 u113 u114 u115 u116 u117 u118 u119 u120 u121 u122 u123 u124 u125 u126 u127 u128 u129 u130 u131 u132 u133 u134 u135 u136 u137 u138 u139 u140 u141 u142 u143 u144 u145 u146 u147 u148 u149 u150 u151 u152 u153 u154 u155 u156 u157 u158 u159 : Value) (w' : World), Hid (Below w.heap.size w w') → Q0 (.exit 4) ⟨(List.toArray (t0 :: t1 :: u2 :: .pointer (some ⟨b, 0, none⟩) :: t4 :: t5 :: .pointer (some ⟨bc, 0, none⟩) :: t7 :: .slice al l.length cl :: t9 :: t10 :: .int .i64 ev :: .slice aa ab.length ca :: t13 :: u14 :: u15 :: u16 :: u17 :: u18 :: u19 :: t20 :: t21 :: t22 :: t23 :: t24 :: t25 :: t26 :: t27 :: t28 :: t29 :: t30 :: t31 :: t32 :: t33 :: t34 :: t35 :: t36 :: t37 :: t38 :: t39 :: t40 :: t41 :: t42 :: t43 :: t44 :: t45 :: t46 :: t47 :: t48 :: t49 :: t50 :: t51 :: t52 :: t53 :: t54 :: t55 :: t56 :: t57 :: t58 :: t59 :: t60 :: t61 :: t62 :: t63 :: t64 :: t65 :: t66 :: t67 :: t68 :: t69 :: t70 :: t71 :: t72 :: t73 :: t74 :: t75 :: t76 :: t77 :: t78 :: t79 :: t80 :: t81 :: t82 :: t83 :: t84 :: t85 :: u86 :: u87 :: u88 :: u89 :: u90 :: u91 :: u92 :: u93 :: u94 :: u95 :: u96 :: u97 :: u98 :: u99 :: u100 :: u101 :: u102 :: u103 :: u104 :: u105 :: u106 :: u107 :: u108 :: u109 :: u110 :: u111 :: u112 :: u113 :: u114 :: u115 :: u116 :: u117 :: u118 :: u119 :: u120 :: u121 :: u122 :: u123 :: u124 :: u125 :: u126 :: u127 :: u128 :: u129 :: u130 :: u131 :: u132 :: u133 :: u134 :: u135 :: u136 :: u137 :: u138 :: u139 :: u140 :: u141 :: u142 :: u143 :: u144 :: u145 :: u146 :: u147 :: u148 :: u149 :: u150 :: u151 :: u152 :: u153 :: u154 :: u155 :: u156 :: u157 :: u158 :: u159 :: t160 :: t161 :: t162 :: t163 :: t164 :: t165 :: t166 :: t167 :: t168 :: t169 :: t170 :: t171 :: t172 :: t173 :: t174 :: t175 :: t176 :: t177 :: t178 :: t179 :: t180 :: [])), []⟩ w') := hexit
  clear hexit
  go_loopw [14] (fun iv wr => ∃ i : Nat, iv = .int .i64 (i : Int) ∧ i ≤ l.length ∧ Hid (Below w.heap.size w wr)) (fun iv _ => l.length - (intOf iv).toNat)
  case atStart => exact ⟨0, rfl, Nat.zero_le _, Below.refl _ _⟩
  case round =>
    obtain ⟨i, rfl, hi, hB⟩ := hrel
    by_cases hlt : i < l.length
    · obtain ⟨x, hx⟩ : ∃ x, l[i]? = some x := ⟨_, List.getElem?_eq_getElem hlt⟩
      have hxm := List.mem_of_getElem? hx
      have hw := hwhy x hxm
      have hiI : (i : Int) < (l.length : Int) := by omega
      have hwr : IntKind.i64.wrap ((i : Int) + 1) = (i : Int) + 1 := by rw [IntKind.wrap_i64]; omega
      go_wp2
      refine jLoop b i x l hl hx al cl wr (HV.out.keep hB.out) (fun j y w' h1 h2 h3 => HEj.out i j x y w' h1 hx h2 (bstep hB.out h3)) _ _ _ _ _ _ _ _ _ _ _ _ _ _ _ _ _ _ _ _ _ _ _ _ _ _ _ _ _ _ _ _ _ _ _ _ _ _ _ _ _ _ _ _ _ _ _ _ _ _ _ _ _ _ _ _ _ _ _ _ _ _ _ _ _ _ _ _ _ _ _ _ _ _ _ _ _ _ _ _ _ _ _ _ _ _ _ _ _ _ _ _ _ _ _ _ _ _ _ _ _ _ _ _ _ _ _ _ _ _ _ _ _ _ _ _ _ _ _ _ _ _ _ _ _ _ _ _ _ _ _ _ _ _ _ _ _ _ _ _ _ _ _ _ _ _ _ _ _ _ _ _ _ _ _ _ _ _ _ _ _ _ _ _ _ _ _ _ _ _ _ _ _ _ _ _ _ _ ?_
      intro j2 j15 j94 j95 j96 j97 j98 j99 j100 j101 j102 j103 j104 j105 j106 j107 j108 j109 j110 j111 j112 j113 j114 j115 j116 j117 j118 j119 j120 w1 hb1
      have B1 : Hid (Below w.heap.size w w1) := bstep hB.out hb1.out
      obtain ⟨bk, o, hal, hbk, hcx⟩ := rds_num HV.out hx
      have p1 := (B1.out.cell (p := ⟨bk, o + i, none⟩) hbk).trans hcx
      subst hal
      clear hb1 hcx
      by_cases hev : ev = 0
      · subst hev
        simp only [decide_true, Bool.true_and] at hw
        have HH1 : Hid (Calls Tryz.prog 13 #[.slice aa ab.length ca, .int .i64 (x : Int)] w1 fun e w'' => e = .returned (.bool (ab.contains x)) ∧ Below w1.heap.size w1 w'') := HH.out x w1 B1.out
        obtain ⟨zz, hzz⟩ : ∃ z, z = ab.contains x := ⟨_, rfl⟩
        rw [← hzz] at HH1 hw
        clear hzz
        go_wp2_with (go_at_call 13; refine HH1.out.mono ?_; rintro e w2 ⟨rfl, hb⟩; have B2 : Hid (Below w.heap.size w w2) := bstep B1.out hb; clear hb HH1)
        refine kLoop b bc i x zz (gx x) l ks names hks hnl hx (some ⟨bk, o, none⟩) ai cl ci w2 (HV.out.keep B2.out) (Nat.lt_of_lt_of_le hbc B2.out.size) ((B2.out.cell (p := ⟨bc, 2, none⟩) hbc).trans hbox) (HN.out.keep B2.out) (fun i k p w' h1 h2 h3 => HBy.out i k p w' h1 h2 (bstep B2.out h3)) (fun k w' h1 h2 => HEk.out x k w' hxm h1 (bstep B2.out h2)) _ _ _ _ _ _ _ _ _ _ _ _ _ _ _ _ _ _ _ _ _ _ _ _ _ _ _ _ _ _ _ _ _ _ _ _ _ _ _ _ _ _ _ _ _ _ _ _ _ _ _ _ _ _ _ _ _ _ _ _ _ _ _ _ _ _ _ _ _ _ _ _ _ _ _ _ _ _ _ _ _ _ _ _ _ _ _ _ _ _ _ _ _ _ _ _ _ _ _ _ _ _ _ _ _ _ _ _ _ _ _ _ _ _ _ _ _ _ _ _ _ _ _ _ _ _ _ _ _ _ _ _ _ _ _ _ _ _ _ _ _ _ _ _ _ _ _ _ _ _ _ _ _ _ _ _ _ _ _ _ _ _ _ _ _ _ _ _ _ _ _ _ _ _ _ _ ?_
        intro k17 k18 k19 k131 k132 k133 k134 k135 k136 k137 k138 k139 k140 k141 k142 k143 k144 k145 k146 k147 k148 k149 k150 k151 k152 k153 k154 k155 k156 k157 w3 hb3
        have B3 : Hid (Below w.heap.size w w3) := bstep B2.out hb3.out
        rw [hw]
        clear hb3 HV HN HBy HEk HEj HH HX hwhy
        go_wp2
        go_roundw
        case rel => exact ⟨i + 1, by go_num, by omega, B3⟩
        case measure => simp [intOf]; omega
      · rw [decide_eq_false hev, Bool.false_and] at hw
        go_wp2
        refine kLoop b bc i x false (gx x) l ks names hks hnl hx (some ⟨bk, o, none⟩) ai cl ci w1 (HV.out.keep B1.out) (Nat.lt_of_lt_of_le hbc B1.out.size) ((B1.out.cell (p := ⟨bc, 2, none⟩) hbc).trans hbox) (HN.out.keep B1.out) (fun i k p w' h1 h2 h3 => HBy.out i k p w' h1 h2 (bstep B1.out h3)) (fun k w' h1 h2 => HEk.out x k w' hxm h1 (bstep B1.out h2)) _ _ _ _ _ _ _ _ _ _ _ _ _ _ _ _ _ _ _ _ _ _ _ _ _ _ _ _ _ _ _ _ _ _ _ _ _ _ _ _ _ _ _ _ _ _ _ _ _ _ _ _ _ _ _ _ _ _ _ _ _ _ _ _ _ _ _ _ _ _ _ _ _ _ _ _ _ _ _ _ _ _ _ _ _ _ _ _ _ _ _ _ _ _ _ _ _ _ _ _ _ _ _ _ _ _ _ _ _ _ _ _ _ _ _ _ _ _ _ _ _ _ _ _ _ _ _ _ _ _ _ _ _ _ _ _ _ _ _ _ _ _ _ _ _ _ _ _ _ _ _ _ _ _ _ _ _ _ _ _ _ _ _ _ _ _ _ _ _ _ _ _ _ _ _ _ ?_
        intro k17 k18 k19 k131 k132 k133 k134 k135 k136 k137 k138 k139 k140 k141 k142 k143 k144 k145 k146 k147 k148 k149 k150 k151 k152 k153 k154 k155 k156 k157 w3 hb3
        have B3 : Hid (Below w.heap.size w w3) := bstep B1.out hb3.out
        rw [hw]
        clear hb3 HV HN HBy HEk HEj HH HX hwhy
        go_wp2
        go_roundw
        case rel => exact ⟨i + 1, by go_num, by omega, B3⟩
        case measure => simp [intOf]; omega
    · have e : i = l.length := by omega
      subst e
      clear HEj HEk HBy HH
      go_wp2
      exact HX.out _ _ _ _ _ _ _ _ _ _ _ _ _ _ _ _ _ _ _ _ _ _ _ _ _ _ _ _ _ _ _ _ _ _ _ _ _ _ _ _ _ _ _ _ _ _ _ _ _ _ _ _ _ _ _ _ _ _ _ _ _ _ _ _ _ _ _ _ _ _ _ _ _ _ _ _ _ _ _ _ _ _ hB
end Go.Proofs.YtfkdemkdkepmdabGreat
