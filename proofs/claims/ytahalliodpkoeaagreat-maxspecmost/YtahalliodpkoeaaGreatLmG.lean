/- The law MaxspecMost: the walk. -/
import Derived.Test.YtahalliodpkoeaaGreatLmE
import Derived.Test.YtahalliodpkoeaaGreatLmA
import Derived.Test.YtahalliodpkoeaaGreatFOwnA
import Derived.Deep.RegionHeld3
namespace Go.Proofs.YtahalliodpkoeaaGreat
open Go.RowKit Go.Maps

theorem fil_take (p : Int × Int → Bool) {M : List (Int × Int)} {j : Nat} {y : Int × Int} (hy : M[j]? = some y) : ((M.take (j + 1)).filter p).length = ((M.take j).filter p).length + (if p y then 1 else 0) := by
  rw [List.take_add_one, hy, List.filter_append, List.length_append]
  cases h : p y <;> simp [h]
theorem fil_le (p : Int × Int → Bool) (M : List (Int × Int)) (j : Nat) : ((M.take j).filter p).length ≤ j := by
  have h1 := List.length_filter_le p (M.take j)
  have h2 := List.length_take_le j M
  omega
set_option linter.unusedVariables false in
set_option maxRecDepth 1000000 in
set_option maxHeartbeats 4000000 in
theorem mostC (b : Nat) (ps : List Plc) (aa am : Option Addr) (ca cm KA K : Nat) (A M : List (Int × Int)) (HKA : Hid (A.length = KA)) (HK : Hid (M.length = K)) (hKA : KA ≤ 300) (hK : K ≤ 300) (HWI : Hid (WI ps)) (bo : Nat) (g : Int) (one : Int × Int) (HON : Hid (g = 0 → ∀ y ∈ M, hasS ps y.1 y.2 1024 = false → y = one)) (HMM : Hid (∀ y ∈ M, ∃ m, methI ps y.1 y.2 = some m)) (w : World) (HO0 : Hid (w.cell? ⟨bo, 0, none⟩ = some (.int .i64 one.1))) (HO1 : Hid (w.cell? ⟨bo, 1, none⟩ = some (.int .i64 one.2))) (HMo : Hid (MoW b ps (.slice aa A.length ca) (.slice am M.length cm) A M w))
    (t0 t1 t2 t3 t4 t5 t6 t7 t8 t10 t11 t13 t14 t15 t16 t17 t18 t19 t20 t25 t26 t27 t28 t29 t30 t31 t32 t33 t34 t35 t36 t37 t38 t39 t40 t41 t42 t43 t44 t45 t46 t47 t48 t49 t50 t51 t52 t53 t54 t55 t56 t57 t58 t59 t60 t61 t62 t63 t64 t65 t66 t67 t68 t69 t70 t71 t72 t73 t74 t75 t76 t77 t78 t79 t80 t81 t82 t83 t84 t85 t86 t87 t88 t89 t90 t91 t92 t93 t94 t95 t96 t97 t98 t99 t100 t101 t102 t103 t104 t105 t106 t107 t108 t109 t110 t111 t112 t113 t114 t115 t116 t117 t118 t119 t120 t121 t122 t123 t124 t125 t126 t127 t128 t129 t130 t131 t132 t133 t134 t135 t136 t137 t138 t139 t140 t141 t142 t143 t144 t145 t146 t147 t148 t149 t150 t151 t152 t153 t154 t155 t156 t157 t158 t159 t160 t161 t162 t163 t164 t165 t166 t167 t168 t169 t170 t171 t172 t173 t174 t175 t176 t177 t178 t179 t180 t181 t182 t183 t184 t185 t186 t187 t188 t189 t190 t191 t192 t193 t194 t195 t196 t197 t198 t199 t200 t201 t202 t203 t204 t205 t206 t207 t208 t209 t210 t211 t212 t213 t214 t215 t216 t217 t218 t219 t220 t221 t222 t223 t224 t225 t226 t227 t228 t229 t230 t231 t232 t233 : Value) (Q0 : Exit → Act → World → Prop)
    (hexit : ∀ (u8 u24 u25 u26 u183 u184 u185 u186 u187 u188 u189 u190 u191 u192 u193 u194 u195 u196 u197 u198 u199 u200 u201 u202 u203 u204 u205 u206 u207 u208 u209 u210 u211 u212 u213 u214 : Value) (w' : World), Hid (Below w.heap.size w w') → Q0 (.exit 8) ⟨(List.toArray (t0 :: t1 :: t2 :: t3 :: t4 :: t5 :: t6 :: t7 :: u8 :: .pointer (some ⟨b, 0, none⟩) :: t10 :: t11 :: .slice am K cm :: t13 :: t14 :: t15 :: t16 :: t17 :: t18 :: t19 :: t20 :: .pointer (some ⟨bo, 0, none⟩) :: .int .i64 g :: .int .i64 (((M.filter fun m => !hasS ps m.1 m.2 1024).length : Nat) : Int) :: u24 :: u25 :: u26 :: t27 :: t28 :: t29 :: t30 :: t31 :: t32 :: t33 :: t34 :: t35 :: t36 :: t37 :: t38 :: t39 :: t40 :: t41 :: t42 :: t43 :: t44 :: t45 :: t46 :: t47 :: t48 :: t49 :: t50 :: t51 :: t52 :: t53 :: t54 :: t55 :: t56 :: t57 :: t58 :: t59 :: t60 :: t61 :: t62 :: t63 :: t64 :: t65 :: t66 :: t67 :: t68 :: t69 :: t70 :: t71 :: t72 :: t73 :: t74 :: t75 :: t76 :: t77 :: t78 :: t79 :: t80 :: t81 :: t82 :: t83 :: t84 :: t85 :: t86 :: t87 :: t88 :: t89 :: t90 :: t91 :: t92 :: t93 :: t94 :: t95 :: t96 :: t97 :: t98 :: t99 :: t100 :: t101 :: t102 :: t103 :: t104 :: t105 :: t106 :: t107 :: t108 :: t109 :: t110 :: t111 :: t112 :: t113 :: t114 :: t115 :: t116 :: t117 :: t118 :: t119 :: t120 :: t121 :: t122 :: t123 :: t124 :: t125 :: t126 :: t127 :: t128 :: t129 :: t130 :: t131 :: t132 :: t133 :: t134 :: t135 :: t136 :: t137 :: t138 :: t139 :: t140 :: t141 :: t142 :: t143 :: t144 :: t145 :: t146 :: t147 :: t148 :: t149 :: t150 :: t151 :: t152 :: t153 :: t154 :: t155 :: t156 :: t157 :: t158 :: t159 :: t160 :: t161 :: t162 :: t163 :: t164 :: t165 :: t166 :: t167 :: t168 :: t169 :: t170 :: t171 :: t172 :: t173 :: t174 :: t175 :: t176 :: t177 :: t178 :: t179 :: t180 :: t181 :: t182 :: u183 :: u184 :: u185 :: u186 :: u187 :: u188 :: u189 :: u190 :: u191 :: u192 :: u193 :: u194 :: u195 :: u196 :: u197 :: u198 :: u199 :: u200 :: u201 :: u202 :: u203 :: u204 :: u205 :: u206 :: u207 :: u208 :: u209 :: u210 :: u211 :: u212 :: u213 :: u214 :: t215 :: t216 :: t217 :: t218 :: t219 :: t220 :: t221 :: t222 :: t223 :: t224 :: t225 :: t226 :: t227 :: t228 :: t229 :: t230 :: t231 :: t232 :: t233 :: [])), []⟩ w') :
    Code.wp Tryz.prog (Code.loop moC0) Q0 ⟨(List.toArray (t0 :: t1 :: t2 :: t3 :: t4 :: t5 :: t6 :: t7 :: t8 :: .pointer (some ⟨b, 0, none⟩) :: t10 :: t11 :: .slice am K cm :: t13 :: t14 :: t15 :: t16 :: t17 :: t18 :: t19 :: t20 :: .pointer (some ⟨bo, 0, none⟩) :: .int .i64 g :: .int .i64 0 :: .int .i64 0 :: t25 :: t26 :: t27 :: t28 :: t29 :: t30 :: t31 :: t32 :: t33 :: t34 :: t35 :: t36 :: t37 :: t38 :: t39 :: t40 :: t41 :: t42 :: t43 :: t44 :: t45 :: t46 :: t47 :: t48 :: t49 :: t50 :: t51 :: t52 :: t53 :: t54 :: t55 :: t56 :: t57 :: t58 :: t59 :: t60 :: t61 :: t62 :: t63 :: t64 :: t65 :: t66 :: t67 :: t68 :: t69 :: t70 :: t71 :: t72 :: t73 :: t74 :: t75 :: t76 :: t77 :: t78 :: t79 :: t80 :: t81 :: t82 :: t83 :: t84 :: t85 :: t86 :: t87 :: t88 :: t89 :: t90 :: t91 :: t92 :: t93 :: t94 :: t95 :: t96 :: t97 :: t98 :: t99 :: t100 :: t101 :: t102 :: t103 :: t104 :: t105 :: t106 :: t107 :: t108 :: t109 :: t110 :: t111 :: t112 :: t113 :: t114 :: t115 :: t116 :: t117 :: t118 :: t119 :: t120 :: t121 :: t122 :: t123 :: t124 :: t125 :: t126 :: t127 :: t128 :: t129 :: t130 :: t131 :: t132 :: t133 :: t134 :: t135 :: t136 :: t137 :: t138 :: t139 :: t140 :: t141 :: t142 :: t143 :: t144 :: t145 :: t146 :: t147 :: t148 :: t149 :: t150 :: t151 :: t152 :: t153 :: t154 :: t155 :: t156 :: t157 :: t158 :: t159 :: t160 :: t161 :: t162 :: t163 :: t164 :: t165 :: t166 :: t167 :: t168 :: t169 :: t170 :: t171 :: t172 :: t173 :: t174 :: t175 :: t176 :: t177 :: t178 :: t179 :: t180 :: t181 :: t182 :: t183 :: t184 :: t185 :: t186 :: t187 :: t188 :: t189 :: t190 :: t191 :: t192 :: t193 :: t194 :: t195 :: t196 :: t197 :: t198 :: t199 :: t200 :: t201 :: t202 :: t203 :: t204 :: t205 :: t206 :: t207 :: t208 :: t209 :: t210 :: t211 :: t212 :: t213 :: t214 :: t215 :: t216 :: t217 :: t218 :: t219 :: t220 :: t221 :: t222 :: t223 :: t224 :: t225 :: t226 :: t227 :: t228 :: t229 :: t230 :: t231 :: t232 :: t233 :: [])), []⟩ w := by
  conv => arg 2; arg 1; whnf
  have HX : Hid (∀ (u8 u24 u25 u26 u183 u184 u185 u186 u187 u188 u189 u190 u191 u192 u193 u194 u195 u196 u197 u198 u199 u200 u201 u202 u203 u204 u205 u206 u207 u208 u209 u210 u211 u212 u213 u214 : Value) (w' : World), Hid (Below w.heap.size w w') → Q0 (.exit 8) ⟨(List.toArray (t0 :: t1 :: t2 :: t3 :: t4 :: t5 :: t6 :: t7 :: u8 :: .pointer (some ⟨b, 0, none⟩) :: t10 :: t11 :: .slice am K cm :: t13 :: t14 :: t15 :: t16 :: t17 :: t18 :: t19 :: t20 :: .pointer (some ⟨bo, 0, none⟩) :: .int .i64 g :: .int .i64 (((M.filter fun m => !hasS ps m.1 m.2 1024).length : Nat) : Int) :: u24 :: u25 :: u26 :: t27 :: t28 :: t29 :: t30 :: t31 :: t32 :: t33 :: t34 :: t35 :: t36 :: t37 :: t38 :: t39 :: t40 :: t41 :: t42 :: t43 :: t44 :: t45 :: t46 :: t47 :: t48 :: t49 :: t50 :: t51 :: t52 :: t53 :: t54 :: t55 :: t56 :: t57 :: t58 :: t59 :: t60 :: t61 :: t62 :: t63 :: t64 :: t65 :: t66 :: t67 :: t68 :: t69 :: t70 :: t71 :: t72 :: t73 :: t74 :: t75 :: t76 :: t77 :: t78 :: t79 :: t80 :: t81 :: t82 :: t83 :: t84 :: t85 :: t86 :: t87 :: t88 :: t89 :: t90 :: t91 :: t92 :: t93 :: t94 :: t95 :: t96 :: t97 :: t98 :: t99 :: t100 :: t101 :: t102 :: t103 :: t104 :: t105 :: t106 :: t107 :: t108 :: t109 :: t110 :: t111 :: t112 :: t113 :: t114 :: t115 :: t116 :: t117 :: t118 :: t119 :: t120 :: t121 :: t122 :: t123 :: t124 :: t125 :: t126 :: t127 :: t128 :: t129 :: t130 :: t131 :: t132 :: t133 :: t134 :: t135 :: t136 :: t137 :: t138 :: t139 :: t140 :: t141 :: t142 :: t143 :: t144 :: t145 :: t146 :: t147 :: t148 :: t149 :: t150 :: t151 :: t152 :: t153 :: t154 :: t155 :: t156 :: t157 :: t158 :: t159 :: t160 :: t161 :: t162 :: t163 :: t164 :: t165 :: t166 :: t167 :: t168 :: t169 :: t170 :: t171 :: t172 :: t173 :: t174 :: t175 :: t176 :: t177 :: t178 :: t179 :: t180 :: t181 :: t182 :: u183 :: u184 :: u185 :: u186 :: u187 :: u188 :: u189 :: u190 :: u191 :: u192 :: u193 :: u194 :: u195 :: u196 :: u197 :: u198 :: u199 :: u200 :: u201 :: u202 :: u203 :: u204 :: u205 :: u206 :: u207 :: u208 :: u209 :: u210 :: u211 :: u212 :: u213 :: u214 :: t215 :: t216 :: t217 :: t218 :: t219 :: t220 :: t221 :: t222 :: t223 :: t224 :: t225 :: t226 :: t227 :: t228 :: t229 :: t230 :: t231 :: t232 :: t233 :: [])), []⟩ w') := hexit
  clear hexit
  go_loopw [23, 24] (fun nv jv wr => ∃ j : Nat, jv = .int .i64 (j : Int) ∧ j ≤ K ∧ nv = .int .i64 ((((M.take j).filter fun m => !hasS ps m.1 m.2 1024).length : Nat) : Int) ∧ Hid (Below w.heap.size w wr)) (fun _ jv _ => K - (intOf jv).toNat)
  case atStart => exact ⟨0, rfl, Nat.zero_le _, rfl, Below.refl _ _⟩
  case round =>
    obtain ⟨j, rfl, hj, rfl, hB⟩ := hrel
    by_cases hlt : j < K
    · have hjI : (j : Int) < (K : Int) := by omega
      obtain ⟨y, hy⟩ : ∃ y, M[j]? = some y := ⟨_, List.getElem?_eq_getElem (by rw [HK.out]; exact hlt)⟩
      obtain ⟨gm, rfl, c0, c1⟩ := (HMo.out.below hB.out).mostC hy
      have hgl : gm < wr.heap.size := World.block_lt_of_cell? wr _ c0
      obtain ⟨m, hm⟩ := HMM.out y (List.mem_of_getElem? hy)
      have hst := fil_take (fun m => !hasS ps m.1 m.2 1024) hy
      have hle := fil_le (fun m => !hasS ps m.1 m.2 1024) M j
      have hS : hasS ps y.1 y.2 1024 = (bits .and .i64 m.fl 1024 != 0) := by rw [hasS, hm]; rfl
      have HME : Hid (Calls Tryz.prog 39 #[.pointer (some ⟨b, 0, none⟩), .agg #[.int .i64 y.1, .int .i64 y.2]] wr fun e w' => (∃ v, e = .returned (.tuple #[.agg #[.string m.nm, .string m.ds, .int .i64 m.fl, .int .i64 m.lo, .int .i64 m.st, v], .int .i64 0]) ∧ w'.ownsRow wr.heap.size 190 7 v m.n m.xs) ∧ Below wr.heap.size wr w') := by
        have := method_c (HMo.out.wat.below hB.out) HWI.out.pb y.1 y.2
        rw [hm] at this
        exact this
      have HO2 := HON.out
      have HOY : Hid (g = 0 → bits .and .i64 m.fl 1024 = 0 → y = one) := fun hg hf => HO2 hg y (List.mem_of_getElem? hy) (by rw [hS, hf]; rfl)
      simp only [hS] at hst
      have HST : Hid _ := hst
      have HLE : Hid _ := hle
      have Y0 : Hid (wr.cell? ⟨gm, j * 2, none⟩ = some (.int .i64 y.1)) := c0
      have Y1 : Hid (wr.cell? ⟨gm, j * 2 + 1, none⟩ = some (.int .i64 y.2)) := c1
      have p0 := (hB.out.cell (p := ⟨bo, 0, none⟩) (World.block_lt_of_cell? w _ HO0.out)).trans HO0.out
      have p1 := (hB.out.cell (p := ⟨bo, 1, none⟩) (World.block_lt_of_cell? w _ HO1.out)).trans HO1.out
      have P0 : Hid (wr.cell? ⟨bo, 0, none⟩ = some (.int .i64 one.1)) := p0
      have P1 : Hid (wr.cell? ⟨bo, 1, none⟩ = some (.int .i64 one.2)) := p1
      clear hst hle hS hm HO2 hy p0 p1 HX HON HMM HO0 HO1
      generalize ((M.take j).filter fun m => !hasS ps m.1 m.2 1024).length = cnt at *
      obtain ⟨cnt', hcn⟩ : ∃ c', ((M.take (j + 1)).filter fun m => !hasS ps m.1 m.2 1024).length = c' := ⟨_, rfl⟩
      have HCN : Hid (((M.take (j + 1)).filter fun m => !hasS ps m.1 m.2 1024).length = cnt') := hcn
      rw [hcn] at HST
      clear hcn
      obtain ⟨y1, y2⟩ := y
      obtain ⟨o1, o2⟩ := one
      obtain ⟨mn, md, fl, ml, mt, mc, mx⟩ := m
      simp only at c0 c1 HME Y0 Y1 P0 P1 HST HOY
      by_cases hfl : bits .and .i64 fl 1024 = 0
      · have ec : Hid (cnt' = cnt + 1) := by rw [Hid, HST.out, hfl]; rfl
        have hcI : (cnt : Int) ≤ 300 := by have := HLE.out; omega
        by_cases hg : g = 0
        · subst hg
          obtain ⟨e1, e2⟩ : y1 = o1 ∧ y2 = o2 := by
            have := HOY.out rfl hfl
            exact ⟨congrArg Prod.fst this, congrArg Prod.snd this⟩
          subst e1 e2
          clear HST HLE HOY
          go_wp2_with (first
            | (go_at_call 39; refine HME.out.mono ?_; rintro e w1 ⟨⟨v9, rfl, ho⟩, hb⟩; obtain ⟨a9, c9, rfl⟩ := ownv ho; have k0 := Lib.cell?_alloc_some (.cells #[.string mn, .string md, .int .i64 fl, .int .i64 ml, .int .i64 mt, .slice a9 mc c9] 58) ((hb.cell (p := ⟨gm, j * 2, none⟩) hgl).trans Y0.out); have k1 := Lib.cell?_alloc_some (.cells #[.string mn, .string md, .int .i64 fl, .int .i64 ml, .int .i64 mt, .slice a9 mc c9] 58) ((hb.cell (p := ⟨gm, j * 2 + 1, none⟩) hgl).trans Y1.out); have k2 := Lib.cell?_alloc_some (.cells #[.string mn, .string md, .int .i64 fl, .int .i64 ml, .int .i64 mt, .slice a9 mc c9] 58) ((hb.cell (p := ⟨bo, 0, none⟩) (World.block_lt_of_cell? wr _ P0.out)).trans P0.out); have k3 := Lib.cell?_alloc_some (.cells #[.string mn, .string md, .int .i64 fl, .int .i64 ml, .int .i64 mt, .slice a9 mc c9] 58) ((hb.cell (p := ⟨bo, 1, none⟩) (World.block_lt_of_cell? wr _ P1.out)).trans P1.out); have BB : Hid (Below w.heap.size w (w1.alloc (.cells #[.string mn, .string md, .int .i64 fl, .int .i64 ml, .int .i64 mt, .slice a9 mc c9] 58))) := (bstep hB.out hb).alloc (bstep hB.out hb).size _; clear hb HME ho))
          obtain ⟨U, hU⟩ : ∃ U, w1.alloc (.cells #[.string mn, .string md, .int .i64 fl, .int .i64 ml, .int .i64 mt, .slice a9 mc c9] 58) = U := ⟨_, rfl⟩
          rw [hU] at k0 k1 k2 k3 BB ⊢
          clear hU
          obtain ⟨σ, V, hne, V1, V2⟩ := class_of' (fun w' => Below U.heap.size U w') ⟨_, Below.refl _ _⟩
          have hlg : gm < U.heap.size := World.block_lt_of_cell? U _ k0
          have hlo : bo < U.heap.size := World.block_lt_of_cell? U _ k2
          replace k0 := fun s => ((V1.out s).cell (p := ⟨gm, j * 2, none⟩) hlg).trans k0
          replace k1 := fun s => ((V1.out s).cell (p := ⟨gm, j * 2 + 1, none⟩) hlg).trans k1
          replace k2 := fun s => ((V1.out s).cell (p := ⟨bo, 0, none⟩) hlo).trans k2
          replace k3 := fun s => ((V1.out s).cell (p := ⟨bo, 1, none⟩) hlo).trans k3
          have HSI : Hid (∀ s, Calls Tryz.prog 78 #[.agg #[.int .i64 y1, .int .i64 y2], .agg #[.int .i64 y1, .int .i64 y2]] (V s) fun e w' => e = .returned (.bool true) ∧ ∃ s', w' = V s') := fun s => (sameID_c (y1, y2) (y1, y2) (V s)).mono fun e w' zz => ⟨by rw [zz.1]; simp, V2.out _ (bstep (V1.out s) zz.2)⟩
          refine wp_region_class (C := fun w' => ∃ s, w' = V s) (by kernel_rfl) (by kernel_rfl) (V2.out _ ((Below.refl _ _).drew)) ?_
          repeat (go_big_quiet_step ((go_at_call 78; exact HSI.out _)))
          refine wpQuiet_nil ?_
          intro w9 hw9
          obtain ⟨s9, rfl⟩ := hw9
          have B9 : Hid (Below w.heap.size w (V s9)) := bstep BB.out (V1.out s9)
          go_wp2
          go_roundw
          case rel => exact ⟨j + 1, by go_num, by omega, by rw [HCN.out, ec.out]; go_num, B9⟩
          case measure => simp [intOf]; omega
        · have hgB : (g == 0) = false := by simpa using hg
          clear HST HLE HOY
          go_wp2_with (first
            | (go_at_call 39; refine HME.out.mono ?_; rintro e w1 ⟨⟨v9, rfl, ho⟩, hb⟩; obtain ⟨a9, c9, rfl⟩ := ownv ho; have BB : Hid (Below w.heap.size w (w1.alloc (.cells #[.string mn, .string md, .int .i64 fl, .int .i64 ml, .int .i64 mt, .slice a9 mc c9] 58))) := (bstep hB.out hb).alloc (bstep hB.out hb).size _; clear hb HME ho))
          obtain ⟨U, hU⟩ : ∃ U, w1.alloc (.cells #[.string mn, .string md, .int .i64 fl, .int .i64 ml, .int .i64 mt, .slice a9 mc c9] 58) = U := ⟨_, rfl⟩
          rw [hU] at BB ⊢
          clear hU
          obtain ⟨σ, V, hne, V1, V2⟩ := class_of' (fun w' => Below U.heap.size U w') ⟨_, Below.refl _ _⟩
          refine wp_region_class (C := fun w' => ∃ s, w' = V s) (by kernel_rfl) (by kernel_rfl) (V2.out _ ((Below.refl _ _).drew)) ?_
          repeat (go_big_quiet_step ((go_at_call 0; skip)))
          refine wpQuiet_nil ?_
          intro w9 hw9
          obtain ⟨s9, rfl⟩ := hw9
          have B9 : Hid (Below w.heap.size w (V s9)) := bstep BB.out (V1.out s9)
          go_wp2
          go_roundw
          case rel => exact ⟨j + 1, by go_num, by omega, by rw [HCN.out, ec.out]; go_num, B9⟩
          case measure => simp [intOf]; omega
      · have hflB : (bits .and .i64 fl 1024 != 0) = true := by simpa using hfl
        have hflC : (bits .and .i64 fl 1024 == 0) = false := by simpa using hfl
        have ec : Hid (cnt' = cnt) := by rw [Hid, HST.out, hflB]; rfl
        clear HST HLE HOY Y0 Y1 P0 P1
        go_wp2_with (first
          | (go_at_call 39; refine HME.out.mono ?_; rintro e w1 ⟨⟨v9, rfl, ho⟩, hb⟩; obtain ⟨a9, c9, rfl⟩ := ownv ho; have B1 : Hid (Below w.heap.size w w1) := bstep hB.out hb; clear hb HME ho))
        go_roundw
        case rel => exact ⟨j + 1, by go_num, by omega, by rw [HCN.out, ec.out], B1.out.alloc B1.out.size _⟩
        case measure => simp [intOf]; omega
    · have e : j = K := by omega
      have HT : Hid (((M.take j).filter fun m => !hasS ps m.1 m.2 1024) = M.filter fun m => !hasS ps m.1 m.2 1024) := by rw [Hid, e, ← HK.out, List.take_of_length_le (Nat.le_refl _)]
      rw [HT.out]
      subst e
      generalize (M.filter fun m => !hasS ps m.1 m.2 1024).length = cnt at *
      clear HMo HK HKA HT HON HMM
      go_wp2
      exact HX.out _ _ _ _ _ _ _ _ _ _ _ _ _ _ _ _ _ _ _ _ _ _ _ _ _ _ _ _ _ _ _ _ _ _ _ _ _ hB






theorem retB {a b : Bool} (h : a = b) : Ending.returned (.bool a) = Ending.returned (.bool b) := by rw [h]


theorem clss_keep {w w' : World} {v : Value} {l : List Cls} (h : IsClss w v l) (hb : Below w.heap.size w w') : IsClss w' v l := by
  obtain ⟨ao, cap, rfl, h1, h2, h3⟩ := h
  refine ⟨ao, cap, rfl, h1, h2, fun hne => ?_⟩
  obtain ⟨bk, o, e, hlt, hc⟩ := h3 hne
  refine ⟨bk, o, e, Nat.lt_of_lt_of_le hlt hb.size, fun k c hk => ?_⟩
  obtain ⟨vi, vm, h4, h5⟩ := hc k c hk
  exact ⟨vi, vm, fun j u hj => (hb.cell hlt).trans (h4 j u hj), h5.keep hb⟩


theorem bytes_same {a b : ByteArray} (h : a.toList = b.toList) : a = b := bytes_ext (by rw [← Lib.toList_data, ← Lib.toList_data]; exact h)
/-- what One answers, and how many are not abstract -/
theorem one_facts (ps : List Plc) (A : List (Int × Int)) : ∃ (one : Int × Int) (g : Int) (cnt : Nat), oneV ps A = (one, g) ∧ ((maxL ps A).filter fun m => !hasS ps m.1 m.2 1024).length = cnt ∧ ((g = 24 ∧ cnt = 0) ∨ (g = 0 ∧ cnt = 1) ∨ (g = 23 ∧ 2 ≤ cnt)) ∧ (g = 0 → ∀ y ∈ maxL ps A, hasS ps y.1 y.2 1024 = false → y = one) := by
  have hol : ((maxL ps A).filter fun m => !hasS ps m.1 m.2 1024) = oneL ps A := rfl
  have hin : ∀ y ∈ maxL ps A, hasS ps y.1 y.2 1024 = false → y ∈ oneL ps A := fun y hy hf => by
    rw [← hol, List.mem_filter]; exact ⟨hy, by rw [hf]; rfl⟩
  rw [hol]
  unfold oneV
  match h : oneL ps A with
  | [] => exact ⟨(0, 0), 24, 0, rfl, rfl, .inl ⟨rfl, rfl⟩, fun h0 => absurd h0 (by decide)⟩
  | [m] =>
    refine ⟨m, 0, 1, rfl, rfl, .inr (.inl ⟨rfl, rfl⟩), fun _ y hy hf => ?_⟩
    have := hin y hy hf
    rw [h] at this
    simpa using this
  | m :: m' :: r => exact ⟨(0, 0), 23, r.length + 2, rfl, rfl, .inr (.inr ⟨rfl, by omega⟩), fun h0 => absurd h0 (by decide)⟩
/-- what holds of each candidate -/
theorem most_facts {ps : List Plc} (hW : WI ps) {k : Nat} {q : Plc} (hq : ps[k]? = some q) (nm ds : ByteArray) : ∀ x ∈ candL ps nm ds q.cl, ifcI ps x.1 = true ∧ extI ps (k : Int) x.1 = true ∧ ((maxL ps (candL ps nm ds q.cl)).any fun o => extI ps o.1 x.1) = true ∧ ∃ m, methI ps x.1 x.2 = some m ∧ m.nm = nm ∧ m.ds = ds ∧ bits .and .i64 m.fl 10 = 0 := by
  intro x hx
  obtain ⟨h1, h2, h3, m, h4, h5, h6, h7⟩ := cand_facts hW hq hx
  refine ⟨h2, h3, ?_, m, h4, bytes_same h5, bytes_same h6, ?_⟩
  · rw [List.any_eq_true]
    exact max_met hW (fun m hm => (cand_facts hW hq hm).1) _ x hx (Nat.le_refl _)
  · have h8 : (bits .and .i64 m.fl 10 != 0) = false := h7
    simpa using h8
set_option maxRecDepth 1000000 in
set_option maxHeartbeats 1000000 in
theorem most_none (v : Value) (l : List Cls) (ps : List Plc) (hps : ps = wld l) (c : Int) (nm ds : ByteArray) (W : World) (h : IsClss W v l) (hm : plcI ps c = none) : Calls Tryz.prog 13 #[v, .int .i64 c, .string nm, .string ds] W fun e w' => e = .returned (.bool true) ∧ Below W.heap.size W w' := by
  have HA : Hid (∀ w : World, Calls Tryz.prog 82 #[] w fun e w' => e = .returned (.bool true) ∧ Below w.heap.size w w') := awake10_c
  have HB : Hid (∀ w : World, Below W.heap.size W w → Calls Tryz.prog 83 #[v] w fun e w' => (∃ b, e = .returned (.pointer (some ⟨b, 0, none⟩)) ∧ WAt b ps w') ∧ Below w.heap.size w w') := fun w hb => by rw [hps]; exact built10_c v l w (clss_keep h hb)
  have HC : Hid (∀ b w, WAt b ps w → Calls Tryz.prog 84 #[.pointer (some ⟨b, 0, none⟩), .int .i64 c, .string nm, .string ds] w fun e w' => e = .returned (.tuple #[.slice none 0 0, .int .i64 3]) ∧ Below w.heap.size w w') := fun b w hw => cand_no hw c hm nm ds
  have HM : Hid (∀ b w, WAt b ps w → Calls Tryz.prog 85 #[.pointer (some ⟨b, 0, none⟩), .int .i64 c, .string nm, .string ds] w fun e w' => e = .returned (.tuple #[.slice none 0 0, .int .i64 3]) ∧ Below w.heap.size w w') := fun b w hw => max_no hw c hm nm ds
  clear h hps hm
  go_enter Tryz.func13, Tryz.ntmps13
  go_wp2_with (first
    | (go_at_call 82; refine (HA.out _).mono ?_; rintro e w1 ⟨rfl, hb⟩; have BB : Hid (Below W.heap.size W w1) := hb; clear hb HA)
    | (go_at_call 83; refine (HB.out _ BB.out).mono ?_; rintro e w2 ⟨⟨b, rfl, hw⟩, hb⟩; have HH : Hid (WAt b ps w2) := hw; have BB2 : Below W.heap.size W w2 := bstep BB.out hb; clear BB; have BB : Hid (Below W.heap.size W w2) := BB2; clear hb HB hw BB2)
    | (go_at_call 84; refine (HC.out _ _ HH.out).mono ?_; rintro e w3 ⟨rfl, hb⟩; have HH2 := HH.out.below hb; clear HH; have HH : Hid (WAt b ps w3) := HH2; have BB2 : Below W.heap.size W w3 := bstep BB.out hb; clear BB; have BB : Hid (Below W.heap.size W w3) := BB2; clear hb HH2 BB2 HC)
    | (go_at_call 85; refine (HM.out _ _ HH.out).mono ?_; rintro e w4 ⟨rfl, hb⟩; have BB2 : Below W.heap.size W w4 := bstep BB.out hb; clear BB; have BB : Hid (Below W.heap.size W w4) := BB2; clear hb BB2 HM))
  exact bodyPost_ret (results_tmp rfl _ _ _) rfl ⟨rfl, BB.out⟩
set_option maxRecDepth 1000000 in
set_option maxHeartbeats 4000000 in
theorem most_some (v : Value) (l : List Cls) (ps : List Plc) (hps : ps = wld l) (k : Nat) (q : Plc) (nm ds : ByteArray) (W : World) (h : IsClss W v l) (hq : ps[k]? = some q) : Calls Tryz.prog 13 #[v, .int .i64 (k : Int), .string nm, .string ds] W fun e w' => e = .returned (.bool true) ∧ Below W.heap.size W w' := by
  have hCW := clss_w h
  have hWI : WI ps := by rw [hps]; exact wld_wi l hCW
  have HWI : Hid (WI ps) := hWI
  have HA : Hid (∀ w : World, Calls Tryz.prog 82 #[] w fun e w' => e = .returned (.bool true) ∧ Below w.heap.size w w') := awake10_c
  have HB : Hid (∀ w : World, Below W.heap.size W w → Calls Tryz.prog 83 #[v] w fun e w' => (∃ b, e = .returned (.pointer (some ⟨b, 0, none⟩)) ∧ WAt b ps w') ∧ Below w.heap.size w w') := fun w hb => by rw [hps]; exact built10_c v l w (clss_keep h hb)
  have HC : Hid (∀ b w, WAt b ps w → Calls Tryz.prog 84 #[.pointer (some ⟨b, 0, none⟩), .int .i64 (k : Int), .string nm, .string ds] w fun e w' => (∃ v, e = .returned (.tuple #[v, .int .i64 0]) ∧ w'.ownsRow w.heap.size 62 2 v (candL ps nm ds q.cl).length (flatD (candL ps nm ds q.cl))) ∧ Below w.heap.size w w') := fun b w hw => cand_yes hw hWI.pb hWI.hi k q hq nm ds
  have HM : Hid (∀ b w, WAt b ps w → Calls Tryz.prog 85 #[.pointer (some ⟨b, 0, none⟩), .int .i64 (k : Int), .string nm, .string ds] w fun e w' => (∃ v, e = .returned (.tuple #[v, .int .i64 0]) ∧ w'.ownsRow w.heap.size 62 2 v (maxL ps (candL ps nm ds q.cl)).length (flatD (maxL ps (candL ps nm ds q.cl)))) ∧ Below w.heap.size w w') := fun b w hw => max_yes hw hWI k q hq nm ds
  obtain ⟨one, g, cnt, ho1, ho2, ho3, ho4⟩ := one_facts ps (candL ps nm ds q.cl)
  have HO : Hid (∀ b w, WAt b ps w → Calls Tryz.prog 87 #[.pointer (some ⟨b, 0, none⟩), .int .i64 (k : Int), .string nm, .string ds] w fun e w' => e = .returned (.tuple #[.agg #[.int .i64 one.1, .int .i64 one.2], .int .i64 g]) ∧ Below w.heap.size w w') := fun b w hw => by
    have := one_yes hw hWI k q hq nm ds
    rw [ho1] at this
    exact this
  have HF : Hid (∀ x ∈ candL ps nm ds q.cl, ifcI ps x.1 = true ∧ extI ps (k : Int) x.1 = true ∧ ((maxL ps (candL ps nm ds q.cl)).any fun o => extI ps o.1 x.1) = true ∧ ∃ m, methI ps x.1 x.2 = some m ∧ m.nm = nm ∧ m.ds = ds ∧ bits .and .i64 m.fl 10 = 0) := most_facts hWI hq nm ds
  have hnd : ((candL ps nm ds q.cl).map Prod.fst).Nodup := cand_fst ps nm ds q.cl (by
    have e : clO (ps.map nd) k = q.cl := by rw [clO, nd_at' hq]; rfl
    rw [← e]; exact cl_nodup hWI.wo k)
  have HAP : Hid (∀ (i j : Nat) (a c : Int × Int), (maxL ps (candL ps nm ds q.cl))[i]? = some a → (maxL ps (candL ps nm ds q.cl))[j]? = some c → i ≠ j → extI ps a.1 c.1 = false) := fun i j a c ha hc hij => max_apart hnd ha hc hij
  have HSU : Hid (∀ m ∈ maxL ps (candL ps nm ds q.cl), m ∈ candL ps nm ds q.cl) := fun m hm => max_mem hm
  have hKA : (candL ps nm ds q.cl).length ≤ 300 := by
    have h1 := candL_len ps nm ds q.cl
    have h2 := wi_cl hWI hq
    have h3 := hWI.hi
    omega
  have hK : (maxL ps (candL ps nm ds q.cl)).length ≤ 300 := Nat.le_trans (List.length_filter_le _ _) hKA
  generalize candL ps nm ds q.cl = A at *
  generalize maxL ps A = M at *
  have HMM : Hid (∀ y ∈ M, ∃ m, methI ps y.1 y.2 = some m) := fun y hy => by
    obtain ⟨_, _, _, m, hm, _⟩ := HF.out y (HSU.out y hy)
    exact ⟨m, hm⟩
  have HON : Hid (g = 0 → ∀ y ∈ M, hasS ps y.1 y.2 1024 = false → y = one) := ho4
  have HCNT : Hid ((M.filter fun m => !hasS ps m.1 m.2 1024).length = cnt) := ho2
  have HFIN : Hid ((g = 24 ∧ cnt = 0) ∨ (g = 0 ∧ cnt = 1) ∨ (g = 23 ∧ 2 ≤ cnt)) := ho3
  have hcl : cnt ≤ 300 := by rw [← ho2]; exact Nat.le_trans (List.length_filter_le _ _) hK
  obtain ⟨KA, hKa⟩ : ∃ KA, A.length = KA := ⟨_, rfl⟩
  obtain ⟨K, hKm⟩ : ∃ K, M.length = K := ⟨_, rfl⟩
  have HKA : Hid (A.length = KA) := hKa
  have HK : Hid (M.length = K) := hKm
  rw [hKa] at hKA HC
  rw [hKm] at hK HM
  clear h hCW hWI hps hq hnd ho1 ho2 ho3 ho4 hKa hKm
  obtain ⟨o1, o2⟩ := one
  simp only at HO
  go_enter Tryz.func13, Tryz.ntmps13
  go_wp2_with (first
    | (go_at_call 82; refine (HA.out _).mono ?_; rintro e w1 ⟨rfl, hb⟩; have BB : Hid (Below W.heap.size W w1) := hb; clear hb HA)
    | (go_at_call 83; refine (HB.out _ BB.out).mono ?_; rintro e w2 ⟨⟨b, rfl, hw⟩, hb⟩; have HH : Hid (WAt b ps w2) := hw; have BB2 : Below W.heap.size W w2 := bstep BB.out hb; clear BB; have BB : Hid (Below W.heap.size W w2) := BB2; clear hb HB hw BB2)
    | (go_at_call 84; refine (HC.out _ _ HH.out).mono ?_; rintro e w3 ⟨⟨v3, rfl, ho⟩, hb⟩; obtain ⟨aa, ca, rfl⟩ := ownv ho; have O3 : Hid (w3.ownsRow w2.heap.size 62 2 (.slice aa KA ca) KA (flatD A)) := ho; have HH2 := HH.out.below hb; clear HH; have HH : Hid (WAt b ps w3) := HH2; have BB2 : Below W.heap.size W w3 := bstep BB.out hb; clear BB; have BB : Hid (Below W.heap.size W w3) := BB2; clear hb HH2 BB2 HC ho)
    | (go_at_call 85; refine (HM.out _ _ HH.out).mono ?_; rintro e w4 ⟨⟨v4, rfl, ho⟩, hb⟩; obtain ⟨am, cm, rfl⟩ := ownv ho; have MM : Hid (MoW b ps (.slice aa A.length ca) (.slice am M.length cm) A M w4) := ⟨HH.out.below hb, ⟨_, by rw [HKA.out]; exact rowBelow O3.out hb⟩, ⟨_, by rw [HK.out]; exact ho⟩⟩; have BB2 : Below W.heap.size W w4 := bstep BB.out hb; clear BB; have BB : Hid (Below W.heap.size W w4) := BB2; clear hb BB2 HM ho HH O3))
  refine mostI b ps aa am ca cm KA K A M HKA HK hKA hK HWI HAP HSU w4 MM _ _ _ _ _ _ _ _ _ _ _ _ _ _ _ _ _ _ _ _ _ _ _ _ _ _ _ _ _ _ _ _ _ _ _ _ _ _ _ _ _ _ _ _ _ _ _ _ _ _ _ _ _ _ _ _ _ _ _ _ _ _ _ _ _ _ _ _ _ _ _ _ _ _ _ _ _ _ _ _ _ _ _ _ _ _ _ _ _ _ _ _ _ _ _ _ _ _ _ _ _ _ _ _ _ _ _ _ _ _ _ _ _ _ _ _ _ _ _ _ _ _ _ _ _ _ _ _ _ _ _ _ _ _ _ _ _ _ _ _ _ _ _ _ _ _ _ _ _ _ _ _ _ _ _ _ _ _ _ _ _ _ _ _ _ _ _ _ _ _ _ _ _ _ _ _ _ _ _ _ _ _ _ _ _ _ _ _ _ _ _ _ _ _ _ _ _ _ _ _ _ _ _ _ _ _ _ _ _ _ _ _ _ _ _ _ _ _ _ _ _ _ _ _ _ _ _ _ _ _ _ ?_
  intro u8 u14 u15 u60 u61 u62 u63 u64 u65 u66 u67 u68 u69 u70 u71 u72 u73 u74 u75 u76 u77 u78 u79 u80 u81 u82 u83 u84 u85 u86 u87 u88 u89 u90 u91 u92 u93 u94 u95 w5 hB5
  have M5 : Hid (MoW b ps (.slice aa A.length ca) (.slice am M.length cm) A M w5) := MM.out.below hB5.out
  have B5 : Hid (Below W.heap.size W w5) := bstep BB.out hB5.out
  clear hB5 MM BB HAP HSU
  go_wp2
  refine mostA b ps aa am ca cm KA K A M HKA HK hKA hK HWI k nm ds HF w5 M5 _ _ _ _ _ _ _ _ _ _ _ _ _ _ _ _ _ _ _ _ _ _ _ _ _ _ _ _ _ _ _ _ _ _ _ _ _ _ _ _ _ _ _ _ _ _ _ _ _ _ _ _ _ _ _ _ _ _ _ _ _ _ _ _ _ _ _ _ _ _ _ _ _ _ _ _ _ _ _ _ _ _ _ _ _ _ _ _ _ _ _ _ _ _ _ _ _ _ _ _ _ _ _ _ _ _ _ _ _ _ _ _ _ _ _ _ _ _ _ _ _ _ _ _ _ _ _ _ _ _ _ _ _ _ _ _ _ _ _ _ _ _ _ _ _ _ _ _ _ _ _ _ _ _ _ _ _ _ _ _ _ _ _ _ _ _ _ _ _ _ _ _ _ _ _ _ _ _ _ _ _ _ _ _ _ _ _ _ _ _ _ _ _ _ _ _ _ _ _ _ _ _ _ _ _ _ _ _ _ _ _ _ _ _ _ _ _ _ _ _ _ _ _ _ _ _ _ _ ?_
  intro u8 u16 u17 u18 u19 u20 u96 u97 u98 u99 u100 u101 u102 u103 u104 u105 u106 u107 u108 u109 u110 u111 u112 u113 u114 u115 u116 u117 u118 u119 u120 u121 u122 u123 u124 u125 u126 u127 u128 u129 u130 u131 u132 u133 u134 u135 u136 u137 u138 u139 u140 u141 u142 u143 u144 u145 u146 u147 u148 u149 u150 u151 u152 u153 u154 u155 u156 u157 u158 u159 u160 u161 u162 u163 u164 u165 u166 u167 u168 u169 u170 u171 u172 u173 u174 w6 hB6
  have M6 : Hid (MoW b ps (.slice aa A.length ca) (.slice am M.length cm) A M w6) := M5.out.below hB6.out
  have B6 : Hid (Below W.heap.size W w6) := bstep B5.out hB6.out
  clear hB6 M5 B5 HF
  go_wp2_with (go_at_call 87; refine (HO.out _ _ M6.out.wat).mono ?_; rintro e w7 ⟨rfl, hb⟩; have M7 : Hid (MoW b ps (.slice aa A.length ca) (.slice am M.length cm) A M (w7.alloc (.cells #[.int .i64 o1, .int .i64 o2] 62))) := (M6.out.below hb).below ((Below.refl _ _).alloc (Nat.le_refl _) _); have B7 : Hid (Below W.heap.size W (w7.alloc (.cells #[.int .i64 o1, .int .i64 o2] 62))) := (bstep B6.out hb).alloc (bstep B6.out hb).size _; have p0 : Hid ((w7.alloc (.cells #[.int .i64 o1, .int .i64 o2] 62)).cell? ⟨w7.heap.size, 0, none⟩ = some (.int .i64 o1)) := (by rw [Hid]; simp [go_sem]); have p1 : Hid ((w7.alloc (.cells #[.int .i64 o1, .int .i64 o2] 62)).cell? ⟨w7.heap.size, 1, none⟩ = some (.int .i64 o2)) := (by rw [Hid]; simp [go_sem]); clear hb M6 B6 HO)
  refine mostC b ps aa am ca cm KA K A M HKA HK hKA hK HWI w7.heap.size g (o1, o2) HON HMM _ p0 p1 M7 _ _ _ _ _ _ _ _ _ _ _ _ _ _ _ _ _ _ _ _ _ _ _ _ _ _ _ _ _ _ _ _ _ _ _ _ _ _ _ _ _ _ _ _ _ _ _ _ _ _ _ _ _ _ _ _ _ _ _ _ _ _ _ _ _ _ _ _ _ _ _ _ _ _ _ _ _ _ _ _ _ _ _ _ _ _ _ _ _ _ _ _ _ _ _ _ _ _ _ _ _ _ _ _ _ _ _ _ _ _ _ _ _ _ _ _ _ _ _ _ _ _ _ _ _ _ _ _ _ _ _ _ _ _ _ _ _ _ _ _ _ _ _ _ _ _ _ _ _ _ _ _ _ _ _ _ _ _ _ _ _ _ _ _ _ _ _ _ _ _ _ _ _ _ _ _ _ _ _ _ _ _ _ _ _ _ _ _ _ _ _ _ _ _ _ _ _ _ _ _ _ _ _ _ _ _ _ _ _ _ _ _ _ _ _ _ _ _ _ _ _ _ _ _ _ _ _ _ _ ?_
  intro u8 u24 u25 u26 u183 u184 u185 u186 u187 u188 u189 u190 u191 u192 u193 u194 u195 u196 u197 u198 u199 u200 u201 u202 u203 u204 u205 u206 u207 u208 u209 u210 u211 u212 u213 u214 w8 hB8
  have B8 : Hid (Below W.heap.size W w8) := bstep B7.out hB8.out
  rw [HCNT.out]
  clear hB8 M7 B7 p0 p1 HON HMM HCNT
  rcases HFIN.out with ⟨rfl, rfl⟩ | ⟨rfl, rfl⟩ | ⟨rfl, hc⟩
  · go_wp2
    go_ret
    exact ⟨rfl, B8.out⟩
  · go_wp2
    go_ret
    exact ⟨rfl, B8.out⟩
  · have n0 : ¬ (cnt : Int) = 0 := by omega
    have n1 : ¬ (cnt : Int) = 1 := by omega
    have n2 : (1 : Int) < (cnt : Int) := by omega
    have m0 : ((cnt : Int) == 0) = false := by simpa using n0
    have m1 : ((cnt : Int) == 1) = false := by simpa using n1
    go_wp2
    go_ret
    exact ⟨retB (by simp [*]), B8.out⟩
theorem MaxspecMost_any (v : Value) (l : List Cls) (c : Int) (nm ds : ByteArray) (W : World) (h : IsClss W v l) (_ : nm.size ≤ maxLen) (_ : ds.size ≤ maxLen) : Calls Tryz.prog 13 #[v, .int .i64 c, .string nm, .string ds] W fun e w' => e = .returned (.bool true) ∧ Below W.heap.size W w' := by
  rcases plcI_cases (wld l) c with ⟨h1, _⟩ | ⟨k, q, rfl, h2, h1⟩
  · exact most_none v l _ rfl c nm ds W h h1
  · exact most_some v l _ rfl k q nm ds W h h2
end Go.Proofs.YtahalliodpkoeaaGreat
