/- The law HierOrder: the loop over the first class. -/
import Derived.Test.YtfkdemkdkepmdaaGreatLoB
import Derived.Test.YtfkdemkdkepmdaaGreatLoC
import Derived.Test.YtfkdemkdkepmdaaGreatLoD
namespace Go.Proofs.YtfkdemkdkepmdaaGreat
open Go.RowKit Go.Maps

theorem chain_ends {w : World} {av : Option Addr} {c D a : Nat} {ch : List Nat} (h : Rds w (.slice av (D + 1) c) (D + 1) 1 (ch.map numV)) (h0 : ch[0]? = some a) (hD : ch[D]? = some 0) : ∃ g o, av = some ⟨g, o, none⟩ ∧ g < w.heap.size ∧ w.cell? ⟨g, o, none⟩ = some (.int .i64 (a : Int)) ∧ w.cell? ⟨g, o + D, none⟩ = some (.int .i64 0) := by
  rcases h.val with ⟨_, e2⟩ | ⟨bk, o, c, e, _, _, h3, h4⟩
  · omega
  · simp only [Value.slice.injEq] at e
    exact ⟨bk, o, e.1, h3, h4 0 _ (by rw [List.getElem?_map, h0]; rfl), h4 D _ (by rw [List.getElem?_map, hD]; rfl)⟩

set_option maxRecDepth 1000000 in
set_option maxHeartbeats 8000000 in
theorem aLoop (N b mb : Nat) (ps : List Plc) (vp : Value) (pv : List PV) (hWI : WI ps) (w : World) (h : HW w N b mb ps vp pv)
    (t0 t1 t2 t4 t7 t8 t9 t10 t11 t12 t13 t14 t15 t16 t17 t18 t19 t20 t21 t22 t23 t24 t25 t26 t27 t28 t29 t30 t31 t32 t33 t34 t35 t36 t37 t38 t39 t40 t41 t42 t43 t44 t45 t46 t47 t48 t49 t50 t51 t52 t53 t54 t55 t56 t57 t58 t59 t60 t61 t62 t63 t64 t65 t66 t67 t68 t69 t70 t71 t72 t73 t74 t75 t76 t77 t78 t79 t80 t81 t82 t83 t84 t85 t86 t87 t88 t89 t90 t91 t92 t93 t94 t95 t96 t97 t98 t99 t100 t101 t102 t103 t104 t105 t106 t107 t108 t109 t110 t111 t112 t113 t114 t115 t116 t117 t118 t119 t120 t121 t122 t123 t124 t125 t126 t127 t128 t129 t130 t131 t132 t133 t134 t135 t136 t137 t138 t139 t140 t141 t142 t143 t144 t145 t146 t147 t148 t149 t150 t151 t152 t153 t154 t155 t156 t157 t158 t159 t160 t161 t162 t163 t164 t165 t166 t167 t168 t169 t170 t171 t172 t173 t174 t175 t176 t177 t178 t179 t180 t181 t182 t183 t184 t185 t186 t187 t188 t189 t190 t191 t192 t193 t194 t195 t196 t197 t198 t199 t200 t201 : Value) (Q0 : Exit → Act → World → Prop)
    (hexit : ∀ (u2 u6 u7 u8 u9 u10 u11 u12 u13 u14 u15 u16 u17 u18 u19 u37 u38 u39 u40 u41 u42 u43 u44 u45 u46 u47 u48 u49 u50 u51 u52 u53 u54 u55 u56 u57 u58 u59 u60 u61 u62 u63 u64 u65 u66 u67 u68 u69 u70 u71 u72 u73 u74 u75 u76 u77 u78 u79 u80 u81 u82 u83 u84 u85 u86 u87 u88 u89 u90 u91 u92 u93 u94 u95 u96 u97 u98 u99 u100 u101 u102 u103 u104 u105 u106 u107 u108 u109 u110 u111 u112 u113 u114 u115 u116 u117 u118 u119 u120 u121 u122 u123 u124 u125 u126 u127 u128 u129 u130 u131 u132 u133 u134 u135 u136 u137 u138 u139 u140 u141 u142 u143 u144 u145 u146 u147 u148 u149 u150 u151 u152 u153 u154 u155 u156 u157 u158 u159 u160 u161 u162 u163 u164 u165 u166 u167 u168 u169 u170 u171 u172 u173 u174 u175 u176 u177 u178 u179 u180 u181 u182 u183 u184 u185 u186 u187 u188 u189 u190 u191 u192 u193 u194 u195 u196 u197 u198 u199 u200 u201 : Value) (w' : World), Hid (Below w.heap.size w w') → Q0 (.exit 2) ⟨(List.toArray (t0 :: t1 :: u2 :: .pointer (some ⟨b, 0, none⟩) :: t4 :: .int .i64 (ps.length : Int) :: u6 :: u7 :: u8 :: u9 :: u10 :: u11 :: u12 :: u13 :: u14 :: u15 :: u16 :: u17 :: u18 :: u19 :: t20 :: t21 :: t22 :: t23 :: t24 :: t25 :: t26 :: t27 :: t28 :: t29 :: t30 :: t31 :: t32 :: t33 :: t34 :: t35 :: t36 :: u37 :: u38 :: u39 :: u40 :: u41 :: u42 :: u43 :: u44 :: u45 :: u46 :: u47 :: u48 :: u49 :: u50 :: u51 :: u52 :: u53 :: u54 :: u55 :: u56 :: u57 :: u58 :: u59 :: u60 :: u61 :: u62 :: u63 :: u64 :: u65 :: u66 :: u67 :: u68 :: u69 :: u70 :: u71 :: u72 :: u73 :: u74 :: u75 :: u76 :: u77 :: u78 :: u79 :: u80 :: u81 :: u82 :: u83 :: u84 :: u85 :: u86 :: u87 :: u88 :: u89 :: u90 :: u91 :: u92 :: u93 :: u94 :: u95 :: u96 :: u97 :: u98 :: u99 :: u100 :: u101 :: u102 :: u103 :: u104 :: u105 :: u106 :: u107 :: u108 :: u109 :: u110 :: u111 :: u112 :: u113 :: u114 :: u115 :: u116 :: u117 :: u118 :: u119 :: u120 :: u121 :: u122 :: u123 :: u124 :: u125 :: u126 :: u127 :: u128 :: u129 :: u130 :: u131 :: u132 :: u133 :: u134 :: u135 :: u136 :: u137 :: u138 :: u139 :: u140 :: u141 :: u142 :: u143 :: u144 :: u145 :: u146 :: u147 :: u148 :: u149 :: u150 :: u151 :: u152 :: u153 :: u154 :: u155 :: u156 :: u157 :: u158 :: u159 :: u160 :: u161 :: u162 :: u163 :: u164 :: u165 :: u166 :: u167 :: u168 :: u169 :: u170 :: u171 :: u172 :: u173 :: u174 :: u175 :: u176 :: u177 :: u178 :: u179 :: u180 :: u181 :: u182 :: u183 :: u184 :: u185 :: u186 :: u187 :: u188 :: u189 :: u190 :: u191 :: u192 :: u193 :: u194 :: u195 :: u196 :: u197 :: u198 :: u199 :: u200 :: u201 :: [])), []⟩ w') :
    Code.wp Tryz.prog (Code.loop aBody) Q0 ⟨(List.toArray (t0 :: t1 :: t2 :: .pointer (some ⟨b, 0, none⟩) :: t4 :: .int .i64 (ps.length : Int) :: .int .i64 0 :: t7 :: t8 :: t9 :: t10 :: t11 :: t12 :: t13 :: t14 :: t15 :: t16 :: t17 :: t18 :: t19 :: t20 :: t21 :: t22 :: t23 :: t24 :: t25 :: t26 :: t27 :: t28 :: t29 :: t30 :: t31 :: t32 :: t33 :: t34 :: t35 :: t36 :: t37 :: t38 :: t39 :: t40 :: t41 :: t42 :: t43 :: t44 :: t45 :: t46 :: t47 :: t48 :: t49 :: t50 :: t51 :: t52 :: t53 :: t54 :: t55 :: t56 :: t57 :: t58 :: t59 :: t60 :: t61 :: t62 :: t63 :: t64 :: t65 :: t66 :: t67 :: t68 :: t69 :: t70 :: t71 :: t72 :: t73 :: t74 :: t75 :: t76 :: t77 :: t78 :: t79 :: t80 :: t81 :: t82 :: t83 :: t84 :: t85 :: t86 :: t87 :: t88 :: t89 :: t90 :: t91 :: t92 :: t93 :: t94 :: t95 :: t96 :: t97 :: t98 :: t99 :: t100 :: t101 :: t102 :: t103 :: t104 :: t105 :: t106 :: t107 :: t108 :: t109 :: t110 :: t111 :: t112 :: t113 :: t114 :: t115 :: t116 :: t117 :: t118 :: t119 :: t120 :: t121 :: t122 :: t123 :: t124 :: t125 :: t126 :: t127 :: t128 :: t129 :: t130 :: t131 :: t132 :: t133 :: t134 :: t135 :: t136 :: t137 :: t138 :: t139 :: t140 :: t141 :: t142 :: t143 :: t144 :: t145 :: t146 :: t147 :: t148 :: t149 :: t150 :: t151 :: t152 :: t153 :: t154 :: t155 :: t156 :: t157 :: t158 :: t159 :: t160 :: t161 :: t162 :: t163 :: t164 :: t165 :: t166 :: t167 :: t168 :: t169 :: t170 :: t171 :: t172 :: t173 :: t174 :: t175 :: t176 :: t177 :: t178 :: t179 :: t180 :: t181 :: t182 :: t183 :: t184 :: t185 :: t186 :: t187 :: t188 :: t189 :: t190 :: t191 :: t192 :: t193 :: t194 :: t195 :: t196 :: t197 :: t198 :: t199 :: t200 :: t201 :: [])), []⟩ w := by
  have HX : Hid (∀ (u2 u6 u7 u8 u9 u10 u11 u12 u13 u14 u15 u16 u17 u18 u19 u37 u38 u39 u40 u41 u42 u43 u44 u45 u46 u47 u48 u49 u50 u51 u52 u53 u54 u55 u56 u57 u58 u59 u60 u61 u62 u63 u64 u65 u66 u67 u68 u69 u70 u71 u72 u73 u74 u75 u76 u77 u78 u79 u80 u81 u82 u83 u84 u85 u86 u87 u88 u89 u90 u91 u92 u93 u94 u95 u96 u97 u98 u99 u100 u101 u102 u103 u104 u105 u106 u107 u108 u109 u110 u111 u112 u113 u114 u115 u116 u117 u118 u119 u120 u121 u122 u123 u124 u125 u126 u127 u128 u129 u130 u131 u132 u133 u134 u135 u136 u137 u138 u139 u140 u141 u142 u143 u144 u145 u146 u147 u148 u149 u150 u151 u152 u153 u154 u155 u156 u157 u158 u159 u160 u161 u162 u163 u164 u165 u166 u167 u168 u169 u170 u171 u172 u173 u174 u175 u176 u177 u178 u179 u180 u181 u182 u183 u184 u185 u186 u187 u188 u189 u190 u191 u192 u193 u194 u195 u196 u197 u198 u199 u200 u201 : Value) (w' : World), Hid (Below w.heap.size w w') → Q0 (.exit 2) ⟨(List.toArray (t0 :: t1 :: u2 :: .pointer (some ⟨b, 0, none⟩) :: t4 :: .int .i64 (ps.length : Int) :: u6 :: u7 :: u8 :: u9 :: u10 :: u11 :: u12 :: u13 :: u14 :: u15 :: u16 :: u17 :: u18 :: u19 :: t20 :: t21 :: t22 :: t23 :: t24 :: t25 :: t26 :: t27 :: t28 :: t29 :: t30 :: t31 :: t32 :: t33 :: t34 :: t35 :: t36 :: u37 :: u38 :: u39 :: u40 :: u41 :: u42 :: u43 :: u44 :: u45 :: u46 :: u47 :: u48 :: u49 :: u50 :: u51 :: u52 :: u53 :: u54 :: u55 :: u56 :: u57 :: u58 :: u59 :: u60 :: u61 :: u62 :: u63 :: u64 :: u65 :: u66 :: u67 :: u68 :: u69 :: u70 :: u71 :: u72 :: u73 :: u74 :: u75 :: u76 :: u77 :: u78 :: u79 :: u80 :: u81 :: u82 :: u83 :: u84 :: u85 :: u86 :: u87 :: u88 :: u89 :: u90 :: u91 :: u92 :: u93 :: u94 :: u95 :: u96 :: u97 :: u98 :: u99 :: u100 :: u101 :: u102 :: u103 :: u104 :: u105 :: u106 :: u107 :: u108 :: u109 :: u110 :: u111 :: u112 :: u113 :: u114 :: u115 :: u116 :: u117 :: u118 :: u119 :: u120 :: u121 :: u122 :: u123 :: u124 :: u125 :: u126 :: u127 :: u128 :: u129 :: u130 :: u131 :: u132 :: u133 :: u134 :: u135 :: u136 :: u137 :: u138 :: u139 :: u140 :: u141 :: u142 :: u143 :: u144 :: u145 :: u146 :: u147 :: u148 :: u149 :: u150 :: u151 :: u152 :: u153 :: u154 :: u155 :: u156 :: u157 :: u158 :: u159 :: u160 :: u161 :: u162 :: u163 :: u164 :: u165 :: u166 :: u167 :: u168 :: u169 :: u170 :: u171 :: u172 :: u173 :: u174 :: u175 :: u176 :: u177 :: u178 :: u179 :: u180 :: u181 :: u182 :: u183 :: u184 :: u185 :: u186 :: u187 :: u188 :: u189 :: u190 :: u191 :: u192 :: u193 :: u194 :: u195 :: u196 :: u197 :: u198 :: u199 :: u200 :: u201 :: [])), []⟩ w') := hexit
  have hml : (ps.map nd).length = ps.length := List.length_map _
  have hn3 := hWI.hi
  have HE : Hid (∀ (x y : Nat) (w' : World), x < ps.length → y < ps.length → Below w.heap.size w w' → Calls Tryz.prog 25 #[.pointer (some ⟨b, 0, none⟩), .int .i64 (x : Int), .int .i64 (y : Int)] w' fun e w'' => e = .returned (.bool (extB (ps.map nd) x y)) ∧ Below w'.heap.size w' w'') := fun x y w' h1 h2 hb => extends_yes N b mb ps vp pv x y h1 h2 hWI.wo hn3 w' (h.below hb)
  have HH : Hid (HW w N b mb ps vp pv) := h
  have HWI : Hid (WI ps) := hWI
  have hwo := hWI.wo
  clear hexit h
  conv => arg 2; arg 1; whnf
  go_loopw [6] (fun av wr => ∃ a : Nat, av = .int .i64 (a : Int) ∧ a ≤ ps.length ∧ Hid (Below w.heap.size w wr)) (fun av _ => ps.length - (intOf av).toNat)
  case atStart => exact ⟨0, rfl, Nat.zero_le _, Below.refl _ _⟩
  case round =>
    obtain ⟨a, rfl, ha, hB⟩ := hrel
    by_cases hlt : a < ps.length
    · have hltI : (a : Int) < (ps.length : Int) := by omega
      obtain ⟨q, hq⟩ : ∃ q, ps[a]? = some q := ⟨_, List.getElem?_eq_getElem hlt⟩
      obtain ⟨D, hD⟩ : ∃ D, (chL (ps.map nd) a).length = D + 1 := ⟨_, (Nat.succ_pred_eq_of_pos (ch_pos (ns := ps.map nd) a)).symm⟩
      have hDl : D < ps.length := by have := ch_len hwo a (by rw [hml]; exact hlt); omega
      have HE1 : Hid (Calls Tryz.prog 25 #[.pointer (some ⟨b, 0, none⟩), .int .i64 (a : Int), .int .i64 (a : Int)] wr fun e w'' => e = .returned (.bool true) ∧ Below wr.heap.size wr w'') := by rw [← ext_self (ps.map nd) a]; exact HE.out a a wr hlt hlt hB.out
      have HE2 : Hid (∀ w' : World, Below w.heap.size w w' → Calls Tryz.prog 25 #[.pointer (some ⟨b, 0, none⟩), .int .i64 (a : Int), .int .i64 0] w' fun e w'' => e = .returned (.bool true) ∧ Below w'.heap.size w' w'') := fun w' hb => by rw [← ext_top hwo (by rw [hml]; exact hlt : a < (ps.map nd).length)]; exact HE.out a 0 w' hlt (by omega) hb
      have HC : Hid (∀ w' : World, Below w.heap.size w w' → Calls Tryz.prog 20 #[.pointer (some ⟨b, 0, none⟩), .int .i64 (a : Int)] w' fun e w'' => ∃ v, e = .returned (.tuple #[v, .int .i64 0]) ∧ w''.ownsRow w'.heap.size 3 1 v (D + 1) ((chL (ps.map nd) a).map numV) ∧ Below w'.heap.size w' w'') := fun w' hb => by rw [← hD]; exact chain_yes N b mb ps vp pv a hlt hwo hn3 w' (HH.out.below hb)
      have HK : Hid (∀ w' : World, Below w.heap.size w w' → Calls Tryz.prog 23 #[.pointer (some ⟨b, 0, none⟩), .int .i64 (a : Int)] w' fun e w'' => ∃ v, e = .returned (.tuple #[v, .int .i64 0]) ∧ w''.ownsRow w'.heap.size 3 1 v q.cl.length (q.cl.map numV) ∧ Below w'.heap.size w' w'') := fun w' hb => closure_yes N b mb ps vp pv a q w' (HH.out.below hb) hq hn3
      have HP : Hid (∀ w' : World, Below w.heap.size w w' → Calls Tryz.prog 18 #[.pointer (some ⟨b, 0, none⟩), .int .i64 (a : Int)] w' fun e w'' => e = .returned (.tuple #[.int .i64 (D : Int), .int .i64 0]) ∧ Below w'.heap.size w' w'') := fun w' hb => (depth_yes N b mb ps vp pv a hlt hwo hn3 w' (HH.out.below hb)).mono (by
        rintro e w'' ⟨rfl, hb2⟩
        refine ⟨?_, hb2⟩
        rw [hD, show ((D + 1 : Nat) : Int) - 1 = (D : Int) by omega])
      have HCH : Hid ((chL (ps.map nd) a)[0]? = some a ∧ (chL (ps.map nd) a)[D]? = some 0) := ⟨ch_head a, by have := ch_last hwo a (by rw [hml]; exact hlt); rw [hD, Nat.add_sub_cancel] at this; exact this⟩
      have HCT : Hid (((List.range ps.length).filter (extB (ps.map nd) a)).length = (D + 1) + q.cl.length) := by
        have := ext_count hwo (by rw [hml]; exact hlt : a < (ps.map nd).length)
        rw [hml, hD, clO_at hq] at this
        exact this
      have hcll : q.cl.length ≤ 300 := by
        have h1 := HH.out.wf q (List.mem_of_getElem? hq)
        have := nodup_lt_len _ _ h1.2 h1.1
        omega
      have HCF : Hid (∀ x ∈ q.cl, x < ps.length ∧ extB (ps.map nd) a x = true ∧ x ≠ a ∧ ∃ p, ps[x]? = some p ∧ ifB p.c.fl = true) := fun x hx => by
        have hx2 : x ∈ clO (ps.map nd) a := by rw [clO_at hq]; exact hx
        obtain ⟨f1, f2, p, hp, f3, _⟩ := cl_facts hwo hx2
        rw [List.getElem?_map] at hp
        cases hpx : ps[x]? with
        | none => rw [hpx] at hp; cases hp
        | some p0 =>
          rw [hpx] at hp
          cases hp
          exact ⟨(List.getElem?_eq_some_iff.1 hpx).1, (ext_iff _ _ _).2 (.inr hx2), by omega, p0, rfl, f3⟩
      have HSX : Hid (∀ (i x y : Nat) (w' : World), (chL (ps.map nd) a)[i]? = some x → (chL (ps.map nd) a)[i + 1]? = some y → Below w.heap.size w w' → Calls Tryz.prog 16 #[.pointer (some ⟨b, 0, none⟩), .int .i64 (x : Int)] w' fun e w'' => e = .returned (.tuple #[.int .i64 (y : Int), .int .i64 0]) ∧ Below w'.heap.size w' w'') := fun i x y w' hx hy hb => by
        have hil := (List.getElem?_eq_some_iff.1 hy).1
        obtain ⟨g1, g2, g3⟩ := ch_next hwo a (by rw [hml]; exact hlt) i x hil hx
        rw [hy] at g3
        cases g3
        rw [hml] at g2
        obtain ⟨qx, hqx⟩ : ∃ q, ps[x]? = some q := ⟨_, List.getElem?_eq_getElem g2⟩
        refine (super_yes N b mb ps vp pv x qx w' (HH.out.below hb) hqx).mono ?_
        rintro e w'' ⟨rfl, rfl⟩
        refine ⟨?_, Below.refl _ _⟩
        rw [if_neg (by omega), spO_at hqx]
      have HLD : Hid ((chL (ps.map nd) a).length = D + 1) := hD
      have hDI : (D : Int) < (D : Int) + 1 := by omega
      have hwD : IntKind.i64.wrap ((D : Int) + 1) = (D : Int) + 1 := by rw [IntKind.wrap_i64]; omega
      have hwS : IntKind.i64.wrap ((D : Int) + 1 + (q.cl.length : Int)) = (D : Int) + 1 + (q.cl.length : Int) := by rw [IntKind.wrap_i64]; omega
      clear hD
      generalize chL (ps.map nd) a = ch at *
      go_wp2_with (first
        | (go_at_call 25; refine HE1.out.mono ?_; rintro e w1 ⟨rfl, hb⟩; have B1 : Hid (Below w.heap.size w w1) := bstep hB.out hb; clear hb HE1)
        | (go_at_call 25; refine (HE2.out _ B1.out).mono ?_; rintro e w2 ⟨rfl, hb⟩; have B2 : Hid (Below w.heap.size w w2) := bstep B1.out hb; clear hb HE2)
        | (go_at_call 20; refine (HC.out _ B2.out).mono ?_; rintro e w3 ⟨v3, rfl, hown, hb⟩; obtain ⟨a3, c3, rfl⟩ := ownv hown; have O3 : Hid (Rds w3 (.slice a3 (D + 1) c3) (D + 1) 1 (ch.map numV)) := own_rds hown; have B3 : Hid (Below w.heap.size w w3) := bstep B2.out hb; clear hown hb HC)
        | (go_at_call 23; refine (HK.out _ B3.out).mono ?_; rintro e w4 ⟨v4, rfl, hown, hb⟩; obtain ⟨a4, c4, rfl⟩ := ownv hown; have O4 : Hid (Rds w4 (.slice a4 q.cl.length c4) q.cl.length 1 (q.cl.map numV)) := own_rds hown; have O34 : Hid (Rds w4 (.slice a3 (D + 1) c3) (D + 1) 1 (ch.map numV)) := O3.out.keep hb; have B4 : Hid (Below w.heap.size w w4) := bstep B3.out hb; clear hown hb HK O3)
        | (go_at_call 18; refine (HP.out _ B4.out).mono ?_; rintro e w5 ⟨rfl, hb⟩; have B5 : Hid (Below w.heap.size w w5) := bstep B4.out hb; have O5 : Hid (Rds w5 (.slice a4 q.cl.length c4) q.cl.length 1 (q.cl.map numV)) := O4.out.keep hb; have O35 : Hid (Rds w5 (.slice a3 (D + 1) c3) (D + 1) 1 (ch.map numV)) := O34.out.keep hb; obtain ⟨g3, o3, e3, hg3, z0, zD⟩ : (∃ g o, a3 = some ⟨g, o, none⟩ ∧ g < w5.heap.size ∧ w5.cell? ⟨g, o, none⟩ = some (.int .i64 (a : Int)) ∧ w5.cell? ⟨g, o + D, none⟩ = some (.int .i64 0)) := chain_ends O35.out HCH.out.1 HCH.out.2; subst e3; clear hb HP O4 O34))
      refine bLoop (ps.map nd) hwo ps.length a b hml hn3 hlt w5 (fun x y w' h1 h2 h3 => HE.out x y w' h1 h2 (bstep B5.out h3)) _ _ _ _ _ _ _ _ _ _ _ _ _ _ _ _ _ _ _ _ _ _ _ _ _ _ _ _ _ _ _ _ _ _ _ _ _ _ _ _ _ _ _ _ _ _ _ _ _ _ _ _ _ _ _ _ _ _ _ _ _ _ _ _ _ _ _ _ _ _ _ _ _ _ _ _ _ _ _ _ _ _ _ _ _ _ _ _ _ _ _ _ _ _ _ _ _ _ _ _ _ _ _ _ _ _ _ _ _ _ _ _ _ _ _ _ _ _ _ _ _ _ _ _ _ _ _ _ _ _ _ _ _ _ _ _ _ _ _ _ _ _ _ _ _ _ _ _ _ _ _ _ _ _ _ _ _ _ _ _ _ _ _ _ _ _ _ _ _ _ _ _ _ _ _ _ _ _ _ _ _ _ _ _ _ _ _ _ _ _ _ _ _ _ _ _ _ _ ?_
      intro x2 x14 x15 x102 x103 x104 x105 x106 x107 x108 x109 x110 x111 x112 x113 x114 x115 x116 x117 x118 x119 x120 x121 x122 x123 x124 x125 x126 x127 x128 x129 x130 x131 x132 x133 x134 x135 x136 x137 x138 w6 hb6
      have B6 : Hid (Below w.heap.size w w6) := bstep B5.out hb6.out
      have O6 : Hid (Rds w6 (.slice a4 q.cl.length c4) q.cl.length 1 (q.cl.map numV)) := O5.out.keep hb6.out
      have O36 : Hid (Rds w6 (.slice (some ⟨g3, o3, none⟩) (D + 1) c3) (D + 1) 1 (ch.map numV)) := O35.out.keep hb6.out
      rw [HCT.out]
      clear hb6 O5 O35 HCT z0 zD hg3
      go_wp2
      refine clLoop a b q.cl a4 c4 w6 (by omega) (fun x hx => (HCF.out x hx).2.2.1) O6 (fun x w' hx hb => by obtain ⟨h1, h2, _⟩ := HCF.out x hx; rw [← h2]; exact HE.out a x w' hlt h1 (bstep B6.out hb)) (fun x w' hx hb => by obtain ⟨_, _, _, p, hp, hi⟩ := HCF.out x hx; rw [← hi]; exact isIfaceW_yes N b mb ps vp pv x p w' (HH.out.below (bstep B6.out hb)) hp) _ _ _ _ _ _ _ _ _ _ _ _ _ _ _ _ _ _ _ _ _ _ _ _ _ _ _ _ _ _ _ _ _ _ _ _ _ _ _ _ _ _ _ _ _ _ _ _ _ _ _ _ _ _ _ _ _ _ _ _ _ _ _ _ _ _ _ _ _ _ _ _ _ _ _ _ _ _ _ _ _ _ _ _ _ _ _ _ _ _ _ _ _ _ _ _ _ _ _ _ _ _ _ _ _ _ _ _ _ _ _ _ _ _ _ _ _ _ _ _ _ _ _ _ _ _ _ _ _ _ _ _ _ _ _ _ _ _ _ _ _ _ _ _ _ _ _ _ _ _ _ _ _ _ _ _ _ _ _ _ _ _ _ _ _ _ _ _ _ _ _ _ _ _ _ _ _ _ _ _ _ _ _ _ _ _ _ _ _ _ _ _ _ _ _ _ _ _ _ ?_
      intro y2 y16 y146 y147 y148 y149 y150 y151 y152 y153 y154 y155 y156 y157 y158 y159 y160 y161 y162 y163 y164 y165 y166 y167 y168 y169 y170 y171 y172 y173 y174 y175 y176 w7 hb7
      have B7 : Hid (Below w.heap.size w w7) := bstep B6.out hb7.out
      have O37 : Hid (Rds w7 (.slice (some ⟨g3, o3, none⟩) (D + 1) c3) (D + 1) 1 (ch.map numV)) := O36.out.keep hb7.out
      clear hb7 O6 O36 HCF HE
      go_wp2
      refine chLoop b D ch HLD.out (some ⟨g3, o3, none⟩) c3 w7 (by omega) O37 (fun i x y w' hx hy hb => HSX.out i x y w' hx hy (bstep B7.out hb)) _ _ _ _ _ _ _ _ _ _ _ _ _ _ _ _ _ _ _ _ _ _ _ _ _ _ _ _ _ _ _ _ _ _ _ _ _ _ _ _ _ _ _ _ _ _ _ _ _ _ _ _ _ _ _ _ _ _ _ _ _ _ _ _ _ _ _ _ _ _ _ _ _ _ _ _ _ _ _ _ _ _ _ _ _ _ _ _ _ _ _ _ _ _ _ _ _ _ _ _ _ _ _ _ _ _ _ _ _ _ _ _ _ _ _ _ _ _ _ _ _ _ _ _ _ _ _ _ _ _ _ _ _ _ _ _ _ _ _ _ _ _ _ _ _ _ _ _ _ _ _ _ _ _ _ _ _ _ _ _ _ _ _ _ _ _ _ _ _ _ _ _ _ _ _ _ _ _ _ _ _ _ _ _ _ _ _ _ _ _ _ _ _ _ _ _ _ _ _ ?_
      intro z2 z17 z18 z19 z177 z178 z179 z180 z181 z182 z183 z184 z185 z186 z187 z188 z189 z190 z191 z192 z193 z194 z195 z196 z197 z198 z199 z200 z201 w8 hb8
      have B8 : Hid (Below w.heap.size w w8) := bstep B7.out hb8.out
      clear hb8 O37 HSX
      go_wp2
      go_roundw
      case rel => exact ⟨a + 1, by go_num, by omega, B8⟩
      case measure => simp [intOf]; omega
    · have e : a = ps.length := by omega
      subst e
      clear HE
      go_wp2
      exact HX.out _ _ _ _ _ _ _ _ _ _ _ _ _ _ _ _ _ _ _ _ _ _ _ _ _ _ _ _ _ _ _ _ _ _ _ _ _ _ _ _ _ _ _ _ _ _ _ _ _ _ _ _ _ _ _ _ _ _ _ _ _ _ _ _ _ _ _ _ _ _ _ _ _ _ _ _ _ _ _ _ _ _ _ _ _ _ _ _ _ _ _ _ _ _ _ _ _ _ _ _ _ _ _ _ _ _ _ _ _ _ _ _ _ _ _ _ _ _ _ _ _ _ _ _ _ _ _ _ _ _ _ _ _ _ _ _ _ _ _ _ _ _ _ _ _ _ _ _ _ _ _ _ _ _ _ _ _ _ _ _ _ _ _ _ _ _ _ _ _ _ _ _ _ _ _ _ _ _ _ _ _ hB
end Go.Proofs.YtfkdemkdkepmdaaGreat
