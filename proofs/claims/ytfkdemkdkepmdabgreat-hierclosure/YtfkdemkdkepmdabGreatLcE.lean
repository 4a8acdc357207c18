/- The law HierClosure: the loop over the classes. -/
import Derived.Test.YtfkdemkdkepmdabGreatLcC
import Derived.Test.YtfkdemkdkepmdabGreatLcD
import Derived.Test.YtfkdemkdkepmdabGreatLcK
import Derived.Test.YtfkdemkdkepmdabGreatHrOi
namespace Go.Proofs.YtfkdemkdkepmdabGreat
open Go.RowKit Go.Maps


theorem rds_cap {w : World} {g o n c k : Nat} {xs : List Value} (h : Rds w (.slice (some ⟨g, o, none⟩) n c) n k xs) : n ≤ c ∧ c ≤ maxLen := by
  rcases h.val with ⟨e, _⟩ | ⟨bk, o', c', e, h1, h2, _⟩
  · cases e
  · simp only [Value.slice.injEq] at e
    obtain ⟨_, _, rfl⟩ := e
    exact ⟨h1, h2⟩
set_option maxRecDepth 1000000 in
set_option maxHeartbeats 8000000 in
theorem aLoop (N b mb : Nat) (ps : List Plc) (vp : Value) (pv : List PV) (hWI : WI ps) (hWJ : WJ ps) (w : World) (h : HW w N b mb ps vp pv)
    (t0 t1 t2 t4 t6 t7 t8 t9 t10 t11 t12 t13 t14 t15 t16 t17 t18 t19 t20 t21 t22 t23 t24 t25 t26 t27 t28 t29 t30 t31 t32 t33 t34 t35 t36 t37 t38 t39 t40 t41 t42 t43 t44 t45 t46 t47 t48 t49 t50 t51 t52 t53 t54 t55 t56 t57 t58 t59 t60 t61 t62 t63 t64 t65 t66 t67 t68 t69 t70 t71 t72 t73 t74 t75 t76 t77 t78 t79 t80 t81 t82 t83 t84 t85 t86 t87 t88 t89 t90 t91 t92 t93 t94 t95 t96 t97 t98 t99 t100 t101 t102 t103 t104 t105 t106 t107 t108 t109 t110 t111 t112 t113 t114 t115 t116 t117 t118 t119 t120 t121 t122 t123 t124 t125 t126 t127 t128 t129 t130 t131 t132 t133 t134 t135 t136 t137 t138 t139 t140 t141 t142 t143 t144 t145 t146 t147 t148 t149 t150 t151 t152 t153 t154 t155 t156 t157 t158 t159 t160 t161 t162 t163 t164 t165 t166 t167 t168 t169 t170 t171 t172 t173 t174 t175 t176 t177 t178 t179 t180 : Value) (Q0 : Exit → Act → World → Prop)
    (hexit : ∀ (u2 u5 u6 u7 u8 u9 u10 u11 u12 u13 u14 u15 u16 u17 u18 u19 u20 u21 u22 u38 u39 u40 u41 u42 u43 u44 u45 u46 u47 u48 u49 u50 u51 u52 u53 u54 u55 u56 u57 u58 u59 u60 u61 u62 u63 u64 u65 u66 u67 u68 u69 u70 u71 u72 u73 u74 u75 u76 u77 u78 u79 u80 u81 u82 u83 u84 u85 u86 u87 u88 u89 u90 u91 u92 u93 u94 u95 u96 u97 u98 u99 u100 u101 u102 u103 u104 u105 u106 u107 u108 u109 u110 u111 u112 u113 u114 u115 u116 u117 u118 u119 u120 u121 u122 u123 u124 u125 u126 u127 u128 u129 u130 u131 u132 u133 u134 u135 u136 u137 u138 u139 u140 u141 u142 u143 u144 u145 u146 u147 u148 u149 u150 u151 u152 u153 u154 u155 u156 u157 u158 u159 u160 u161 u162 u163 u164 u165 u166 u167 u168 u169 u170 u171 u172 u173 u174 u175 u176 u177 u178 u179 u180 : Value) (w' : World), Hid (Below w.heap.size w w') → Q0 (.exit 2) ⟨(List.toArray (t0 :: t1 :: u2 :: .pointer (some ⟨b, 0, none⟩) :: t4 :: u5 :: u6 :: u7 :: u8 :: u9 :: u10 :: u11 :: u12 :: u13 :: u14 :: u15 :: u16 :: u17 :: u18 :: u19 :: u20 :: u21 :: u22 :: t23 :: t24 :: t25 :: t26 :: t27 :: t28 :: t29 :: t30 :: t31 :: t32 :: t33 :: t34 :: t35 :: t36 :: t37 :: u38 :: u39 :: u40 :: u41 :: u42 :: u43 :: u44 :: u45 :: u46 :: u47 :: u48 :: u49 :: u50 :: u51 :: u52 :: u53 :: u54 :: u55 :: u56 :: u57 :: u58 :: u59 :: u60 :: u61 :: u62 :: u63 :: u64 :: u65 :: u66 :: u67 :: u68 :: u69 :: u70 :: u71 :: u72 :: u73 :: u74 :: u75 :: u76 :: u77 :: u78 :: u79 :: u80 :: u81 :: u82 :: u83 :: u84 :: u85 :: u86 :: u87 :: u88 :: u89 :: u90 :: u91 :: u92 :: u93 :: u94 :: u95 :: u96 :: u97 :: u98 :: u99 :: u100 :: u101 :: u102 :: u103 :: u104 :: u105 :: u106 :: u107 :: u108 :: u109 :: u110 :: u111 :: u112 :: u113 :: u114 :: u115 :: u116 :: u117 :: u118 :: u119 :: u120 :: u121 :: u122 :: u123 :: u124 :: u125 :: u126 :: u127 :: u128 :: u129 :: u130 :: u131 :: u132 :: u133 :: u134 :: u135 :: u136 :: u137 :: u138 :: u139 :: u140 :: u141 :: u142 :: u143 :: u144 :: u145 :: u146 :: u147 :: u148 :: u149 :: u150 :: u151 :: u152 :: u153 :: u154 :: u155 :: u156 :: u157 :: u158 :: u159 :: u160 :: u161 :: u162 :: u163 :: u164 :: u165 :: u166 :: u167 :: u168 :: u169 :: u170 :: u171 :: u172 :: u173 :: u174 :: u175 :: u176 :: u177 :: u178 :: u179 :: u180 :: [])), []⟩ w') :
    Code.wp Tryz.prog (Code.loop aBody) Q0 ⟨(List.toArray (t0 :: t1 :: t2 :: .pointer (some ⟨b, 0, none⟩) :: t4 :: .int .i64 0 :: t6 :: t7 :: t8 :: t9 :: t10 :: t11 :: t12 :: t13 :: t14 :: t15 :: t16 :: t17 :: t18 :: t19 :: t20 :: t21 :: t22 :: t23 :: t24 :: t25 :: t26 :: t27 :: t28 :: t29 :: t30 :: t31 :: t32 :: t33 :: t34 :: t35 :: t36 :: t37 :: t38 :: t39 :: t40 :: t41 :: t42 :: t43 :: t44 :: t45 :: t46 :: t47 :: t48 :: t49 :: t50 :: t51 :: t52 :: t53 :: t54 :: t55 :: t56 :: t57 :: t58 :: t59 :: t60 :: t61 :: t62 :: t63 :: t64 :: t65 :: t66 :: t67 :: t68 :: t69 :: t70 :: t71 :: t72 :: t73 :: t74 :: t75 :: t76 :: t77 :: t78 :: t79 :: t80 :: t81 :: t82 :: t83 :: t84 :: t85 :: t86 :: t87 :: t88 :: t89 :: t90 :: t91 :: t92 :: t93 :: t94 :: t95 :: t96 :: t97 :: t98 :: t99 :: t100 :: t101 :: t102 :: t103 :: t104 :: t105 :: t106 :: t107 :: t108 :: t109 :: t110 :: t111 :: t112 :: t113 :: t114 :: t115 :: t116 :: t117 :: t118 :: t119 :: t120 :: t121 :: t122 :: t123 :: t124 :: t125 :: t126 :: t127 :: t128 :: t129 :: t130 :: t131 :: t132 :: t133 :: t134 :: t135 :: t136 :: t137 :: t138 :: t139 :: t140 :: t141 :: t142 :: t143 :: t144 :: t145 :: t146 :: t147 :: t148 :: t149 :: t150 :: t151 :: t152 :: t153 :: t154 :: t155 :: t156 :: t157 :: t158 :: t159 :: t160 :: t161 :: t162 :: t163 :: t164 :: t165 :: t166 :: t167 :: t168 :: t169 :: t170 :: t171 :: t172 :: t173 :: t174 :: t175 :: t176 :: t177 :: t178 :: t179 :: t180 :: [])), []⟩ w := by
  have HX : Hid (∀ (u2 u5 u6 u7 u8 u9 u10 u11 u12 u13 u14 u15 u16 u17 u18 u19 u20 u21 u22 u38 u39 u40 u41 u42 u43 u44 u45 u46 u47 u48 u49 u50 u51 u52 u53 u54 u55 u56 u57 u58 u59 u60 u61 u62 u63 u64 u65 u66 u67 u68 u69 u70 u71 u72 u73 u74 u75 u76 u77 u78 u79 u80 u81 u82 u83 u84 u85 u86 u87 u88 u89 u90 u91 u92 u93 u94 u95 u96 u97 u98 u99 u100 u101 u102 u103 u104 u105 u106 u107 u108 u109 u110 u111 u112 u113 u114 u115 u116 u117 u118 u119 u120 u121 u122 u123 u124 u125 u126 u127 u128 u129 u130 u131 u132 u133 u134 u135 u136 u137 u138 u139 u140 u141 u142 u143 u144 u145 u146 u147 u148 u149 u150 u151 u152 u153 u154 u155 u156 u157 u158 u159 u160 u161 u162 u163 u164 u165 u166 u167 u168 u169 u170 u171 u172 u173 u174 u175 u176 u177 u178 u179 u180 : Value) (w' : World), Hid (Below w.heap.size w w') → Q0 (.exit 2) ⟨(List.toArray (t0 :: t1 :: u2 :: .pointer (some ⟨b, 0, none⟩) :: t4 :: u5 :: u6 :: u7 :: u8 :: u9 :: u10 :: u11 :: u12 :: u13 :: u14 :: u15 :: u16 :: u17 :: u18 :: u19 :: u20 :: u21 :: u22 :: t23 :: t24 :: t25 :: t26 :: t27 :: t28 :: t29 :: t30 :: t31 :: t32 :: t33 :: t34 :: t35 :: t36 :: t37 :: u38 :: u39 :: u40 :: u41 :: u42 :: u43 :: u44 :: u45 :: u46 :: u47 :: u48 :: u49 :: u50 :: u51 :: u52 :: u53 :: u54 :: u55 :: u56 :: u57 :: u58 :: u59 :: u60 :: u61 :: u62 :: u63 :: u64 :: u65 :: u66 :: u67 :: u68 :: u69 :: u70 :: u71 :: u72 :: u73 :: u74 :: u75 :: u76 :: u77 :: u78 :: u79 :: u80 :: u81 :: u82 :: u83 :: u84 :: u85 :: u86 :: u87 :: u88 :: u89 :: u90 :: u91 :: u92 :: u93 :: u94 :: u95 :: u96 :: u97 :: u98 :: u99 :: u100 :: u101 :: u102 :: u103 :: u104 :: u105 :: u106 :: u107 :: u108 :: u109 :: u110 :: u111 :: u112 :: u113 :: u114 :: u115 :: u116 :: u117 :: u118 :: u119 :: u120 :: u121 :: u122 :: u123 :: u124 :: u125 :: u126 :: u127 :: u128 :: u129 :: u130 :: u131 :: u132 :: u133 :: u134 :: u135 :: u136 :: u137 :: u138 :: u139 :: u140 :: u141 :: u142 :: u143 :: u144 :: u145 :: u146 :: u147 :: u148 :: u149 :: u150 :: u151 :: u152 :: u153 :: u154 :: u155 :: u156 :: u157 :: u158 :: u159 :: u160 :: u161 :: u162 :: u163 :: u164 :: u165 :: u166 :: u167 :: u168 :: u169 :: u170 :: u171 :: u172 :: u173 :: u174 :: u175 :: u176 :: u177 :: u178 :: u179 :: u180 :: [])), []⟩ w') := hexit
  have hn3 := hWI.hi
  have hwo := hWI.wo
  have HLen : Hid (∀ w' : World, Below w.heap.size w w' → Calls Tryz.prog 7 #[.pointer (some ⟨b, 0, none⟩)] w' fun e w'' => e = .returned (.int .i64 (ps.length : Int)) ∧ w'' = w') := fun w' hb => len_any N b mb ps vp pv w' (h.below hb)
  have HEx : Hid (∀ (x y : Nat) (w' : World), x < ps.length → y < ps.length → Below w.heap.size w w' → Calls Tryz.prog 12 #[.pointer (some ⟨b, 0, none⟩), .int .i64 (x : Int), .int .i64 (y : Int)] w' fun e w'' => e = .returned (.bool (extB (ps.map nd) x y)) ∧ Below w'.heap.size w' w'') := fun x y w' h1 h2 hb => extends_yes N b mb ps vp pv x y h1 h2 hwo hn3 w' (h.below hb)
  have HH : Hid (HW w N b mb ps vp pv) := h
  clear hexit h
  conv => arg 2; arg 1; whnf
  go_loopw [5] (fun av wr => ∃ a : Nat, av = .int .i64 (a : Int) ∧ a ≤ ps.length ∧ Hid (Below w.heap.size w wr)) (fun av _ => ps.length - (intOf av).toNat)
  case atStart => exact ⟨0, rfl, Nat.zero_le _, Below.refl _ _⟩
  case round =>
    obtain ⟨a, rfl, ha, hB⟩ := hrel
    by_cases hlt : a < ps.length
    · have hltI : (a : Int) < (ps.length : Int) := by omega
      obtain ⟨q, hq⟩ : ∃ q, ps[a]? = some q := ⟨_, List.getElem?_eq_getElem hlt⟩
      obtain ⟨names, ks, e1, e2, e3, hks, e5, hksn, e7⟩ := hWJ a q hq
      have hpb := hWI.pb q (List.mem_of_getElem? hq)
      have hnl : names.length ≤ 1000000 := by rw [← e2]; exact hpb.ni
      have hcl300 : ∀ q ∈ ps, q.cl.length ≤ 300 := fun q hq => by
        have h1 := HH.out.wf q hq
        have := nodup_lt_len _ _ h1.2 h1.1
        omega
      have hcll := hcl300 q (List.mem_of_getElem? hq)
      have hclq : clO (ps.map nd) a = q.cl := clO_at hq
      have HC : Hid (∀ w' : World, Below w.heap.size w w' → Calls Tryz.prog 8 #[.pointer (some ⟨b, 0, none⟩), .int .i64 (a : Int)] w' fun e w'' => ∃ vi vm qm, e = .returned (.tuple #[.agg #[.string q.c.nm, .string q.c.su, vi, .int .i64 q.c.fl, .int .i64 q.c.ld, vm], .int .i64 0]) ∧ OwnC w'' w'.heap.size vi q.c.ni q.c.xi vm qm ∧ qm.map Prod.fst = q.c.ms ∧ Below w'.heap.size w' w'') := fun w' hb => class_yes N b mb ps vp pv a q w' (HH.out.below hb) hq hpb
      have HK : Hid (∀ w' : World, Below w.heap.size w w' → Calls Tryz.prog 9 #[.pointer (some ⟨b, 0, none⟩), .int .i64 (a : Int)] w' fun e w'' => ∃ v, e = .returned (.tuple #[v, .int .i64 0]) ∧ w''.ownsRow w'.heap.size 3 1 v q.cl.length (q.cl.map numV) ∧ NilIf q.cl.length v ∧ Below w'.heap.size w' w'') := fun w' hb => closure2_yes N b mb ps vp pv a q w' (HH.out.below hb) hq hn3
      have HBy : Hid (∀ (i k : Nat) (p : List UInt8) (w' : World), names[i]? = some p → ks[i]? = some k → Below w.heap.size w w' → Calls Tryz.prog 14 #[.pointer (some ⟨b, 0, none⟩), .string ⟨p.toArray⟩] w' fun e w'' => e = .returned (.tuple #[.int .i64 (k : Int), .int .i64 0]) ∧ Below w'.heap.size w' w'') := fun i k p w' h1 h2 hb => by
        obtain ⟨j, f1, f2⟩ := e5 i p h1
        rw [h2] at f1
        cases f1
        refine (byName_look N b mb ps vp pv ⟨p.toArray⟩ (by rw [mk_size]; exact e3 p (List.mem_of_getElem? h1)) w' (HH.out.below hb)).mono ?_
        rintro e w'' ⟨rfl, hb2⟩
        refine ⟨?_, hb2⟩
        rw [show (⟨p.toArray⟩ : ByteArray).data.toList = p by simp, f2]
      have HCF : Hid (∀ x ∈ q.cl, x < ps.length) := fun x hx => by
        have := (cl_facts hwo (by rw [hclq]; exact hx : x ∈ clO (ps.map nd) a)).1
        omega
      have HBF : Hid (∀ i j x y, i < j → q.cl[i]? = some x → q.cl[j]? = some y → x ≠ y ∧ extB (ps.map nd) x y = false) := fun i j x y h1 h2 h3 => cl_before hWI hWJ (k := a) (by rw [hclq]; exact h2) (by rw [hclq]; exact h3) h1
      have HKL : Hid (∀ k ∈ ks, q.cl.contains k = true) := fun k hk => List.contains_iff_mem.2 (by rw [e7]; exact (gathL_iff _ _ _ _).2 (.inr ⟨k, hk, .inl rfl⟩))
      have hmem : ∀ x ∈ q.cl, x ∈ clO (ps.map nd) q.sp ∨ ks.any (fun k => extB (ps.map nd) k x) = true := fun x hx => by
        rw [e7] at hx
        rcases (gathL_iff _ _ _ _).1 hx with h1 | ⟨k, hk, h1⟩
        · rw [getD_cl2] at h1; exact .inl h1
        · refine .inr (List.any_eq_true.2 ⟨k, hk, (ext_iff _ _ _).2 ?_⟩)
          rcases h1 with rfl | h1
          · exact .inl (chL_self _ _)
          · rw [getD_cl2] at h1; exact .inr h1
      rw [e1, e2] at HC
      clear e1 e2 e3 e5
      have HAB : Hid (∀ x ∈ q.cl, x ∈ clO (ps.map nd) q.sp ∨ ks.any (fun k => extB (ps.map nd) k x) = true) := hmem
      by_cases ha0 : a = 0
      · have hz : q.cl = [] := by
          subst ha0
          obtain ⟨n0, hn0, _, hn2, _⟩ := hwo.top
          rw [nd_at' hq] at hn0
          cases hn0
          exact hn2
        obtain ⟨qs, hqs⟩ : ∃ q, ps[0]? = some q := ⟨_, List.getElem?_eq_getElem (by have := hWI.lo; omega)⟩
        have hqsl := hcl300 qs (List.mem_of_getElem? hqs)
        have HS : Hid (∀ w' : World, Below w.heap.size w w' → Calls Tryz.prog 10 #[.pointer (some ⟨b, 0, none⟩), .int .i64 (a : Int)] w' fun e w'' => e = .returned (.tuple #[.int .i64 0, .int .i64 6]) ∧ w'' = w') := fun w' hb => by
          have := super_yes N b mb ps vp pv a q w' (HH.out.below hb) hq
          rw [if_pos ha0] at this
          exact this
        have HK2 : Hid (∀ w' : World, Below w.heap.size w w' → Calls Tryz.prog 9 #[.pointer (some ⟨b, 0, none⟩), .int .i64 0] w' fun e w'' => ∃ v, e = .returned (.tuple #[v, .int .i64 0]) ∧ w''.ownsRow w'.heap.size 3 1 v qs.cl.length (qs.cl.map numV) ∧ NilIf qs.cl.length v ∧ Below w'.heap.size w' w'') := fun w' hb => closure2_yes N b mb ps vp pv 0 qs w' (HH.out.below hb) hqs hn3
        have hnw : ∀ x ∈ q.cl, ((decide ((6 : Int) = 0) && qs.cl.contains x) || ks.any (fun k => extB (ps.map nd) k x)) = true := fun x hx => by rw [hz] at hx; simp at hx
        have HNW : Hid (∀ x ∈ q.cl, ((decide ((6 : Int) = 0) && qs.cl.contains x) || ks.any (fun k => extB (ps.map nd) k x)) = true) := hnw
        clear hcl300 hmem hwo hclq hWI hWJ ha0 e7 hz hnw HAB hqs hpb
        generalize qs.cl = ab at *
        generalize q.cl = l at *
        go_wp2_with (first
          | (go_at_call 7; refine (HLen.out _ hB.out).mono ?_; rintro e w9 ⟨rfl, hw9⟩; rw [hw9]; clear hw9 w9)
          | (go_at_call 8; refine (HC.out _ hB.out).mono ?_; rintro e w1 ⟨vi, vm, qm, rfl, hown, _, hb⟩; obtain ⟨ai, ci, rfl⟩ := ownv hown.ifs; obtain ⟨am, cm, rfl⟩ := ownv hown.ms; have OI : Hid (Rds w1 (.slice ai names.length ci) names.length 1 (strsV names)) := own_rds hown.ifs; have B1 : Hid (Below w.heap.size w w1) := bstep hB.out hb; clear hown hb HC)
          | (go_at_call 9; refine (HK.out _ (B1.out.alloc B1.out.size _)).mono ?_; rintro e w2 ⟨v5, rfl, hown, hnil, hb⟩; obtain ⟨a5, c5, rfl⟩ := ownv hown; have O5 : Hid (Rds w2 (.slice a5 l.length c5) l.length 1 (l.map numV)) := own_rds hown; have B2 : Hid (Below w.heap.size w w2) := bstep (B1.out.alloc B1.out.size _) hb; have HBL : Hid (w2.heap[w1.heap.size]? = some (.cells #[.string q.c.nm, .string q.c.su, .slice ai names.length ci, .int .i64 q.c.fl, .int .i64 q.c.ld, .slice am qm.length cm] 32 (0, 0))) := (hb.block w1.heap.size (by simp)).trans (halloc w1 _); have OI2 : Hid (Rds w2 (.slice ai names.length ci) names.length 1 (strsV names)) := (OI.out.keep ((Below.refl _ w1).alloc (Nat.le_refl _) _)).keep hb; clear hown hb hnil HK OI)
          | (go_at_call 10; refine (HS.out _ B2.out).mono ?_; rintro e w9 ⟨rfl, hw9⟩; rw [hw9]; clear hw9 w9 HS)
          | (go_at_call 9; refine (HK2.out _ B2.out).mono ?_; rintro e w3 ⟨v6, rfl, hown, hnil, hb⟩; obtain ⟨a6, c6, rfl⟩ := ownv hown; have O6 : Hid (Rds w3 (.slice a6 ab.length c6) ab.length 1 (ab.map numV)) := own_rds hown; have O53 : Hid (Rds w3 (.slice a5 l.length c5) l.length 1 (l.map numV)) := O5.out.keep hb; have B3 : Hid (Below w.heap.size w w3) := bstep B2.out hb; have HBL3 : Hid (w3.heap[w1.heap.size]? = some (.cells #[.string q.c.nm, .string q.c.su, .slice ai names.length ci, .int .i64 q.c.fl, .int .i64 q.c.ld, .slice am qm.length cm] 32 (0, 0))) := (hb.block w1.heap.size (Array.getElem?_eq_some_iff.1 HBL.out).1).trans HBL.out; have OI3 : Hid (Rds w3 (.slice ai names.length ci) names.length 1 (strsV names)) := OI2.out.keep hb; clear hown hb hnil HK2 O5 OI2 HBL))
        have hbl := (Array.getElem?_eq_some_iff.1 HBL3.out).1
        have NB := cell_of_row w3 w1.heap.size 2 _ _ _ HBL3.out
        simp only [List.getElem?_toArray, List.getElem?_cons_zero, List.getElem?_cons_succ] at NB
        refine iLoop b w1.heap.size 6 (fun x k => extB (ps.map nd) k x) l ks ab names (by omega) hks hnl a5 ai a6 c5 ci c6 w3 O53 hbl NB OI3 HNW.out (fun i k p w' h1 h2 h3 => HBy.out i k p w' h1 h2 (bstep B3.out h3)) (fun x k w' h1 h2 h3 => HEx.out k x w' (Nat.lt_trans (hksn k h2) hlt) (HCF.out x h1) (bstep B3.out h3)) (fun i j x y w' h1 h2 h3 h4 => ⟨(HBF.out i j x y h1 h2 h3).1, by rw [← (HBF.out i j x y h1 h2 h3).2]; exact HEx.out x y w' (HCF.out x (List.mem_of_getElem? h2)) (HCF.out y (List.mem_of_getElem? h3)) (bstep B3.out h4)⟩) (fun x w' hb => rHas_any _ _ x w' (O6.out.keep hb) (by omega)) _ _ _ _ _ _ _ _ _ _ _ _ _ _ _ _ _ _ _ _ _ _ _ _ _ _ _ _ _ _ _ _ _ _ _ _ _ _ _ _ _ _ _ _ _ _ _ _ _ _ _ _ _ _ _ _ _ _ _ _ _ _ _ _ _ _ _ _ _ _ _ _ _ _ _ _ _ _ _ _ _ _ _ _ _ _ _ _ _ _ _ _ _ _ _ _ _ _ _ _ _ _ _ _ _ _ _ _ _ _ _ _ _ _ _ _ _ _ _ _ _ _ _ _ _ _ _ _ _ _ _ _ _ _ _ _ _ _ _ _ _ _ _ _ _ _ _ _ _ _ _ _ _ _ _ _ _ _ _ _ _ _ _ _ _ _ _ _ _ _ _ _ _ _ _ _ ?_
        intro i2 i14 i15 i16 i17 i18 i19 i86 i87 i88 i89 i90 i91 i92 i93 i94 i95 i96 i97 i98 i99 i100 i101 i102 i103 i104 i105 i106 i107 i108 i109 i110 i111 i112 i113 i114 i115 i116 i117 i118 i119 i120 i121 i122 i123 i124 i125 i126 i127 i128 i129 i130 i131 i132 i133 i134 i135 i136 i137 i138 i139 i140 i141 i142 i143 i144 i145 i146 i147 i148 i149 i150 i151 i152 i153 i154 i155 i156 i157 i158 i159 wa hba
        have B10 : Hid (Below w.heap.size w wa) := bstep B3.out hba.out
        have O10 : Hid (Rds wa (.slice a5 l.length c5) l.length 1 (l.map numV)) := O53.out.keep hba.out
        have NM10 := OI3.out.keep hba.out
        have NB10 := (hba.out.cell (p := ⟨w1.heap.size, 2, none⟩) hbl).trans NB
        have hs10 : w1.heap.size < wa.heap.size := Nat.lt_of_lt_of_le hbl hba.out.size
        clear hba HBF O6 O53 OI3 NB HBL3
        go_wp2
        refine mLoop b w1.heap.size l.length ks names hks hnl a5 ai c5 ci wa hs10 NB10 NM10 (fun i k p w' h1 h2 h3 => HBy.out i k p w' h1 h2 (bstep B10.out h3)) (fun k w' h1 h2 => by rw [← HKL.out k h1]; exact rHas_any _ _ k w' (O10.out.keep h2) (by omega)) _ _ _ _ _ _ _ _ _ _ _ _ _ _ _ _ _ _ _ _ _ _ _ _ _ _ _ _ _ _ _ _ _ _ _ _ _ _ _ _ _ _ _ _ _ _ _ _ _ _ _ _ _ _ _ _ _ _ _ _ _ _ _ _ _ _ _ _ _ _ _ _ _ _ _ _ _ _ _ _ _ _ _ _ _ _ _ _ _ _ _ _ _ _ _ _ _ _ _ _ _ _ _ _ _ _ _ _ _ _ _ _ _ _ _ _ _ _ _ _ _ _ _ _ _ _ _ _ _ _ _ _ _ _ _ _ _ _ _ _ _ _ _ _ _ _ _ _ _ _ _ _ _ _ _ _ _ _ _ _ _ _ _ _ _ _ _ _ _ _ _ _ _ _ _ _ _ _ ?_
        intro m2 m20 m21 m22 m160 m161 m162 m163 m164 m165 m166 m167 m168 m169 m170 m171 m172 m173 m174 m175 m176 m177 m178 m179 m180 wb hbb
        have B11 : Hid (Below w.heap.size w wb) := bstep B10.out hbb.out
        clear hbb HBy HEx HCF HKL O10 NB10 NM10
        go_wp2
        go_roundw
        case rel => exact ⟨a + 1, by go_num, by omega, B11⟩
        case measure => simp [intOf]; omega
      · obtain ⟨qs, hqs⟩ : ∃ qs, ps[q.sp]? = some qs := ⟨_, List.getElem?_eq_getElem (by have : q.sp < a := (hwo.sp a (nd q) (by omega) (nd_at' hq)).1; omega)⟩
        have hqsl := hcl300 qs (List.mem_of_getElem? hqs)
        have hpre : qs.cl <+: q.cl := by have := cl_begins hWI hWJ hq; rw [clO_at hqs] at this; exact this
        have hple : qs.cl.length ≤ q.cl.length := hpre.length_le
        have HPRE : Hid (qs.cl <+: q.cl) := hpre
        have HS : Hid (∀ w' : World, Below w.heap.size w w' → Calls Tryz.prog 10 #[.pointer (some ⟨b, 0, none⟩), .int .i64 (a : Int)] w' fun e w'' => e = .returned (.tuple #[.int .i64 (q.sp : Int), .int .i64 0]) ∧ w'' = w') := fun w' hb => by
          have := super_yes N b mb ps vp pv a q w' (HH.out.below hb) hq
          rw [if_neg ha0] at this
          exact this
        have HK2 : Hid (∀ w' : World, Below w.heap.size w w' → Calls Tryz.prog 9 #[.pointer (some ⟨b, 0, none⟩), .int .i64 (q.sp : Int)] w' fun e w'' => ∃ v, e = .returned (.tuple #[v, .int .i64 0]) ∧ w''.ownsRow w'.heap.size 3 1 v qs.cl.length (qs.cl.map numV) ∧ NilIf qs.cl.length v ∧ Below w'.heap.size w' w'') := fun w' hb => closure2_yes N b mb ps vp pv q.sp qs w' (HH.out.below hb) hqs hn3
        have HNW : Hid (∀ x ∈ q.cl, ((decide ((0 : Int) = 0) && qs.cl.contains x) || ks.any (fun k => extB (ps.map nd) k x)) = true) := fun x hx => by
          rcases HAB.out x hx with h1 | h1
          · rw [clO_at hqs] at h1
            rw [List.contains_iff_mem.2 h1]; rfl
          · rw [h1, Bool.or_true]
        have hpleI : (qs.cl.length : Int) ≤ (q.cl.length : Int) := by omega
        clear hcl300 hmem hwo hclq hWI hWJ ha0 e7 HAB hqs hpb hpre
        generalize qs.cl = ab at *
        generalize q.cl = l at *
        by_cases hl0 : l.length = 0
        · have hl1 : l = [] := List.length_eq_zero_iff.1 hl0
          have hab1 : ab = [] := List.length_eq_zero_iff.1 (by omega)
          subst hl1
          subst hab1
          clear hl0
          have HSM : Hid (∀ (w' : World), Calls Tryz.prog 11 #[.slice none 0 0, .slice none 0 0] w' fun e w'' => e = .returned (.bool true) ∧ Below w'.heap.size w' w'') := fun w' => sameNums_eq _ _ [] w' ⟨rfl, .inl ⟨rfl, rfl⟩⟩ ⟨rfl, .inl ⟨rfl, rfl⟩⟩ (by simp)
          go_wp2_with (first
          | (go_at_call 7; refine (HLen.out _ hB.out).mono ?_; rintro e w9 ⟨rfl, hw9⟩; rw [hw9]; clear hw9 w9)
          | (go_at_call 8; refine (HC.out _ hB.out).mono ?_; rintro e w1 ⟨vi, vm, qm, rfl, hown, _, hb⟩; obtain ⟨ai, ci, rfl⟩ := ownv hown.ifs; obtain ⟨am, cm, rfl⟩ := ownv hown.ms; have OI : Hid (Rds w1 (.slice ai names.length ci) names.length 1 (strsV names)) := own_rds hown.ifs; have B1 : Hid (Below w.heap.size w w1) := bstep hB.out hb; clear hown hb HC)
          | (go_at_call 9; refine (HK.out _ (B1.out.alloc B1.out.size _)).mono ?_; rintro e w2 ⟨v5, rfl, hown, hnil, hb⟩; obtain rfl : v5 = .slice none 0 0 := hnil rfl; have O5 : Hid (Rds w2 (.slice none 0 0) 0 1 ([] : List Value)) := own_rds hown; have B2 : Hid (Below w.heap.size w w2) := bstep (B1.out.alloc B1.out.size _) hb; have HBL : Hid (w2.heap[w1.heap.size]? = some (.cells #[.string q.c.nm, .string q.c.su, .slice ai names.length ci, .int .i64 q.c.fl, .int .i64 q.c.ld, .slice am qm.length cm] 32 (0, 0))) := (hb.block w1.heap.size (by simp)).trans (halloc w1 _); have OI2 : Hid (Rds w2 (.slice ai names.length ci) names.length 1 (strsV names)) := (OI.out.keep ((Below.refl _ w1).alloc (Nat.le_refl _) _)).keep hb; clear hown hb hnil HK OI)
          | (go_at_call 10; refine (HS.out _ B2.out).mono ?_; rintro e w9 ⟨rfl, hw9⟩; rw [hw9]; clear hw9 w9 HS)
          | (go_at_call 9; refine (HK2.out _ B2.out).mono ?_; rintro e w3 ⟨v6, rfl, hown, hnil, hb⟩; obtain rfl : v6 = .slice none 0 0 := hnil rfl; have O6 : Hid (Rds w3 (.slice none 0 0) 0 1 ([] : List Value)) := own_rds hown; have O53 : Hid (Rds w3 (.slice none 0 0) 0 1 ([] : List Value)) := O5.out.keep hb; have B3 : Hid (Below w.heap.size w w3) := bstep B2.out hb; have HBL3 : Hid (w3.heap[w1.heap.size]? = some (.cells #[.string q.c.nm, .string q.c.su, .slice ai names.length ci, .int .i64 q.c.fl, .int .i64 q.c.ld, .slice am qm.length cm] 32 (0, 0))) := (hb.block w1.heap.size (Array.getElem?_eq_some_iff.1 HBL.out).1).trans HBL.out; have OI3 : Hid (Rds w3 (.slice ai names.length ci) names.length 1 (strsV names)) := OI2.out.keep hb; clear hown hb hnil HK2 O5 OI2 HBL)
          | (go_at_call 11; refine (HSM.out w3).mono ?_; rintro e w4 ⟨rfl, hb⟩; have O54 : Hid (Rds w4 (.slice none 0 0) 0 1 ([] : List Value)) := O53.out.keep hb; have O64 : Hid (Rds w4 (.slice none 0 0) 0 1 ([] : List Value)) := O6.out.keep hb; have B4 : Hid (Below w.heap.size w w4) := bstep B3.out hb; have HBL4 : Hid (w4.heap[w1.heap.size]? = some (.cells #[.string q.c.nm, .string q.c.su, .slice ai names.length ci, .int .i64 q.c.fl, .int .i64 q.c.ld, .slice am qm.length cm] 32 (0, 0))) := (hb.block w1.heap.size (Array.getElem?_eq_some_iff.1 HBL3.out).1).trans HBL3.out; have OI4 : Hid (Rds w4 (.slice ai names.length ci) names.length 1 (strsV names)) := OI3.out.keep hb; clear hb O53 O6 HBL3 OI3))
          have hbl := (Array.getElem?_eq_some_iff.1 HBL4.out).1
          have NB := cell_of_row w4 w1.heap.size 2 _ _ _ HBL4.out
          simp only [List.getElem?_toArray, List.getElem?_cons_zero, List.getElem?_cons_succ] at NB
          refine iLoop b w1.heap.size 0 (fun x k => extB (ps.map nd) k x) [] ks [] names (by simp) hks hnl none ai none 0 ci 0 w4 O54 hbl NB OI4 HNW.out (fun i k p w' h1 h2 h3 => HBy.out i k p w' h1 h2 (bstep B4.out h3)) (fun x k w' h1 h2 h3 => HEx.out k x w' (Nat.lt_trans (hksn k h2) hlt) (HCF.out x h1) (bstep B4.out h3)) (fun i j x y w' h1 h2 h3 h4 => ⟨(HBF.out i j x y h1 h2 h3).1, by rw [← (HBF.out i j x y h1 h2 h3).2]; exact HEx.out x y w' (HCF.out x (List.mem_of_getElem? h2)) (HCF.out y (List.mem_of_getElem? h3)) (bstep B4.out h4)⟩) (fun x w' hb => rHas_any (.slice none 0 0) [] x w' (O64.out.keep hb) (by simp)) _ _ _ _ _ _ _ _ _ _ _ _ _ _ _ _ _ _ _ _ _ _ _ _ _ _ _ _ _ _ _ _ _ _ _ _ _ _ _ _ _ _ _ _ _ _ _ _ _ _ _ _ _ _ _ _ _ _ _ _ _ _ _ _ _ _ _ _ _ _ _ _ _ _ _ _ _ _ _ _ _ _ _ _ _ _ _ _ _ _ _ _ _ _ _ _ _ _ _ _ _ _ _ _ _ _ _ _ _ _ _ _ _ _ _ _ _ _ _ _ _ _ _ _ _ _ _ _ _ _ _ _ _ _ _ _ _ _ _ _ _ _ _ _ _ _ _ _ _ _ _ _ _ _ _ _ _ _ _ _ _ _ _ _ _ _ _ _ _ _ _ _ _ _ _ _ ?_
          intro i2 i14 i15 i16 i17 i18 i19 i86 i87 i88 i89 i90 i91 i92 i93 i94 i95 i96 i97 i98 i99 i100 i101 i102 i103 i104 i105 i106 i107 i108 i109 i110 i111 i112 i113 i114 i115 i116 i117 i118 i119 i120 i121 i122 i123 i124 i125 i126 i127 i128 i129 i130 i131 i132 i133 i134 i135 i136 i137 i138 i139 i140 i141 i142 i143 i144 i145 i146 i147 i148 i149 i150 i151 i152 i153 i154 i155 i156 i157 i158 i159 wa hba
          have B10 : Hid (Below w.heap.size w wa) := bstep B4.out hba.out
          have O10 : Hid (Rds wa (.slice none 0 0) 0 1 ([] : List Value)) := O54.out.keep hba.out
          have NM10 := OI4.out.keep hba.out
          have NB10 := (hba.out.cell (p := ⟨w1.heap.size, 2, none⟩) hbl).trans NB
          have hs10 : w1.heap.size < wa.heap.size := Nat.lt_of_lt_of_le hbl hba.out.size
          clear hba HBF O64 O54 OI4 NB HBL4
          go_wp2
          refine mLoop b w1.heap.size 0 ks names hks hnl none ai 0 ci wa hs10 NB10 NM10 (fun i k p w' h1 h2 h3 => HBy.out i k p w' h1 h2 (bstep B10.out h3)) (fun k w' h1 h2 => by rw [← HKL.out k h1]; exact rHas_any (.slice none 0 0) [] k w' (O10.out.keep h2) (by simp)) _ _ _ _ _ _ _ _ _ _ _ _ _ _ _ _ _ _ _ _ _ _ _ _ _ _ _ _ _ _ _ _ _ _ _ _ _ _ _ _ _ _ _ _ _ _ _ _ _ _ _ _ _ _ _ _ _ _ _ _ _ _ _ _ _ _ _ _ _ _ _ _ _ _ _ _ _ _ _ _ _ _ _ _ _ _ _ _ _ _ _ _ _ _ _ _ _ _ _ _ _ _ _ _ _ _ _ _ _ _ _ _ _ _ _ _ _ _ _ _ _ _ _ _ _ _ _ _ _ _ _ _ _ _ _ _ _ _ _ _ _ _ _ _ _ _ _ _ _ _ _ _ _ _ _ _ _ _ _ _ _ _ _ _ _ _ _ _ _ _ _ _ _ _ _ _ _ _ ?_
          intro m2 m20 m21 m22 m160 m161 m162 m163 m164 m165 m166 m167 m168 m169 m170 m171 m172 m173 m174 m175 m176 m177 m178 m179 m180 wb hbb
          have B11 : Hid (Below w.heap.size w wb) := bstep B10.out hbb.out
          clear hbb HBy HEx HCF HKL O10 NB10 NM10
          go_wp2
          go_roundw
          case rel => exact ⟨a + 1, by go_num, by omega, B11⟩
          case measure => simp [intOf]; omega
        · have hlp : 0 < l.length := by omega
          clear hl0
          have HSM : Hid (∀ (w' : World) (a6 : Option Addr) (c6 g5 c5 : Nat), Rds w' (.slice a6 ab.length c6) ab.length 1 (ab.map numV) → Rds w' (.slice (some ⟨g5, 0, none⟩) l.length c5) l.length 1 (l.map numV) → Calls Tryz.prog 11 #[.slice a6 ab.length c6, .slice (some ⟨g5, 0, none⟩) ab.length c5] w' fun e w'' => e = .returned (.bool true) ∧ Below w'.heap.size w' w'') := fun w' a6 c6 g5 c5 h6 h5 => sameNums_eq _ _ ab w' h6 (rds_pre h5 HPRE.out) (by omega)
          go_wp2_with (first
          | (go_at_call 7; refine (HLen.out _ hB.out).mono ?_; rintro e w9 ⟨rfl, hw9⟩; rw [hw9]; clear hw9 w9)
          | (go_at_call 8; refine (HC.out _ hB.out).mono ?_; rintro e w1 ⟨vi, vm, qm, rfl, hown, _, hb⟩; obtain ⟨ai, ci, rfl⟩ := ownv hown.ifs; obtain ⟨am, cm, rfl⟩ := ownv hown.ms; have OI : Hid (Rds w1 (.slice ai names.length ci) names.length 1 (strsV names)) := own_rds hown.ifs; have B1 : Hid (Below w.heap.size w w1) := bstep hB.out hb; clear hown hb HC)
          | (go_at_call 9; refine (HK.out _ (B1.out.alloc B1.out.size _)).mono ?_; rintro e w2 ⟨v5, rfl, hown, hnil, hb⟩; obtain ⟨g5, c5, rfl⟩ := Go.Joins.ownsRow_form hown hlp; have hcap := rds_cap (own_rds hown); have hcp1 : (l.length : Int) ≤ (c5 : Int) := (by omega); have hcp2 : (ab.length : Int) ≤ (c5 : Int) := (by omega); clear hcap; have O5 : Hid (Rds w2 (.slice (some ⟨g5, 0, none⟩) l.length c5) l.length 1 (l.map numV)) := own_rds hown; have B2 : Hid (Below w.heap.size w w2) := bstep (B1.out.alloc B1.out.size _) hb; have HBL : Hid (w2.heap[w1.heap.size]? = some (.cells #[.string q.c.nm, .string q.c.su, .slice ai names.length ci, .int .i64 q.c.fl, .int .i64 q.c.ld, .slice am qm.length cm] 32 (0, 0))) := (hb.block w1.heap.size (by simp)).trans (halloc w1 _); have OI2 : Hid (Rds w2 (.slice ai names.length ci) names.length 1 (strsV names)) := (OI.out.keep ((Below.refl _ w1).alloc (Nat.le_refl _) _)).keep hb; clear hown hb hnil HK OI)
          | (go_at_call 10; refine (HS.out _ B2.out).mono ?_; rintro e w9 ⟨rfl, hw9⟩; rw [hw9]; clear hw9 w9 HS)
          | (go_at_call 9; refine (HK2.out _ B2.out).mono ?_; rintro e w3 ⟨v6, rfl, hown, hnil, hb⟩; obtain ⟨a6, c6, rfl⟩ := ownv hown; have O6 : Hid (Rds w3 (.slice a6 ab.length c6) ab.length 1 (ab.map numV)) := own_rds hown; have O53 : Hid (Rds w3 (.slice (some ⟨g5, 0, none⟩) l.length c5) l.length 1 (l.map numV)) := O5.out.keep hb; have B3 : Hid (Below w.heap.size w w3) := bstep B2.out hb; have HBL3 : Hid (w3.heap[w1.heap.size]? = some (.cells #[.string q.c.nm, .string q.c.su, .slice ai names.length ci, .int .i64 q.c.fl, .int .i64 q.c.ld, .slice am qm.length cm] 32 (0, 0))) := (hb.block w1.heap.size (Array.getElem?_eq_some_iff.1 HBL.out).1).trans HBL.out; have OI3 : Hid (Rds w3 (.slice ai names.length ci) names.length 1 (strsV names)) := OI2.out.keep hb; clear hown hb hnil HK2 O5 OI2 HBL)
          | (go_at_call 11; refine (HSM.out w3 a6 c6 g5 c5 O6.out O53.out).mono ?_; rintro e w4 ⟨rfl, hb⟩; have O54 : Hid (Rds w4 (.slice (some ⟨g5, 0, none⟩) l.length c5) l.length 1 (l.map numV)) := O53.out.keep hb; have O64 : Hid (Rds w4 (.slice a6 ab.length c6) ab.length 1 (ab.map numV)) := O6.out.keep hb; have B4 : Hid (Below w.heap.size w w4) := bstep B3.out hb; have HBL4 : Hid (w4.heap[w1.heap.size]? = some (.cells #[.string q.c.nm, .string q.c.su, .slice ai names.length ci, .int .i64 q.c.fl, .int .i64 q.c.ld, .slice am qm.length cm] 32 (0, 0))) := (hb.block w1.heap.size (Array.getElem?_eq_some_iff.1 HBL3.out).1).trans HBL3.out; have OI4 : Hid (Rds w4 (.slice ai names.length ci) names.length 1 (strsV names)) := OI3.out.keep hb; clear hb O53 O6 HBL3 OI3))
          have hbl := (Array.getElem?_eq_some_iff.1 HBL4.out).1
          have NB := cell_of_row w4 w1.heap.size 2 _ _ _ HBL4.out
          simp only [List.getElem?_toArray, List.getElem?_cons_zero, List.getElem?_cons_succ] at NB
          refine iLoop b w1.heap.size 0 (fun x k => extB (ps.map nd) k x) l ks ab names (by omega) hks hnl (some ⟨g5, 0, none⟩) ai a6 c5 ci c6 w4 O54 hbl NB OI4 HNW.out (fun i k p w' h1 h2 h3 => HBy.out i k p w' h1 h2 (bstep B4.out h3)) (fun x k w' h1 h2 h3 => HEx.out k x w' (Nat.lt_trans (hksn k h2) hlt) (HCF.out x h1) (bstep B4.out h3)) (fun i j x y w' h1 h2 h3 h4 => ⟨(HBF.out i j x y h1 h2 h3).1, by rw [← (HBF.out i j x y h1 h2 h3).2]; exact HEx.out x y w' (HCF.out x (List.mem_of_getElem? h2)) (HCF.out y (List.mem_of_getElem? h3)) (bstep B4.out h4)⟩) (fun x w' hb => rHas_any _ _ x w' (O64.out.keep hb) (by omega)) _ _ _ _ _ _ _ _ _ _ _ _ _ _ _ _ _ _ _ _ _ _ _ _ _ _ _ _ _ _ _ _ _ _ _ _ _ _ _ _ _ _ _ _ _ _ _ _ _ _ _ _ _ _ _ _ _ _ _ _ _ _ _ _ _ _ _ _ _ _ _ _ _ _ _ _ _ _ _ _ _ _ _ _ _ _ _ _ _ _ _ _ _ _ _ _ _ _ _ _ _ _ _ _ _ _ _ _ _ _ _ _ _ _ _ _ _ _ _ _ _ _ _ _ _ _ _ _ _ _ _ _ _ _ _ _ _ _ _ _ _ _ _ _ _ _ _ _ _ _ _ _ _ _ _ _ _ _ _ _ _ _ _ _ _ _ _ _ _ _ _ _ _ _ _ _ ?_
          intro i2 i14 i15 i16 i17 i18 i19 i86 i87 i88 i89 i90 i91 i92 i93 i94 i95 i96 i97 i98 i99 i100 i101 i102 i103 i104 i105 i106 i107 i108 i109 i110 i111 i112 i113 i114 i115 i116 i117 i118 i119 i120 i121 i122 i123 i124 i125 i126 i127 i128 i129 i130 i131 i132 i133 i134 i135 i136 i137 i138 i139 i140 i141 i142 i143 i144 i145 i146 i147 i148 i149 i150 i151 i152 i153 i154 i155 i156 i157 i158 i159 wa hba
          have B10 : Hid (Below w.heap.size w wa) := bstep B4.out hba.out
          have O10 : Hid (Rds wa (.slice (some ⟨g5, 0, none⟩) l.length c5) l.length 1 (l.map numV)) := O54.out.keep hba.out
          have NM10 := OI4.out.keep hba.out
          have NB10 := (hba.out.cell (p := ⟨w1.heap.size, 2, none⟩) hbl).trans NB
          have hs10 : w1.heap.size < wa.heap.size := Nat.lt_of_lt_of_le hbl hba.out.size
          clear hba HBF O64 O54 OI4 NB HBL4
          go_wp2
          refine mLoop b w1.heap.size l.length ks names hks hnl (some ⟨g5, 0, none⟩) ai c5 ci wa hs10 NB10 NM10 (fun i k p w' h1 h2 h3 => HBy.out i k p w' h1 h2 (bstep B10.out h3)) (fun k w' h1 h2 => by rw [← HKL.out k h1]; exact rHas_any _ _ k w' (O10.out.keep h2) (by omega)) _ _ _ _ _ _ _ _ _ _ _ _ _ _ _ _ _ _ _ _ _ _ _ _ _ _ _ _ _ _ _ _ _ _ _ _ _ _ _ _ _ _ _ _ _ _ _ _ _ _ _ _ _ _ _ _ _ _ _ _ _ _ _ _ _ _ _ _ _ _ _ _ _ _ _ _ _ _ _ _ _ _ _ _ _ _ _ _ _ _ _ _ _ _ _ _ _ _ _ _ _ _ _ _ _ _ _ _ _ _ _ _ _ _ _ _ _ _ _ _ _ _ _ _ _ _ _ _ _ _ _ _ _ _ _ _ _ _ _ _ _ _ _ _ _ _ _ _ _ _ _ _ _ _ _ _ _ _ _ _ _ _ _ _ _ _ _ _ _ _ _ _ _ _ _ _ _ _ ?_
          intro m2 m20 m21 m22 m160 m161 m162 m163 m164 m165 m166 m167 m168 m169 m170 m171 m172 m173 m174 m175 m176 m177 m178 m179 m180 wb hbb
          have B11 : Hid (Below w.heap.size w wb) := bstep B10.out hbb.out
          clear hbb HBy HEx HCF HKL O10 NB10 NM10
          go_wp2
          go_roundw
          case rel => exact ⟨a + 1, by go_num, by omega, B11⟩
          case measure => simp [intOf]; omega
    · have e : a = ps.length := by omega
      subst e
      clear HEx
      go_wp2_with (go_at_call 7; refine (HLen.out _ hB.out).mono ?_; rintro e w9 ⟨rfl, hw9⟩; rw [hw9]; clear hw9 w9)
      exact HX.out _ _ _ _ _ _ _ _ _ _ _ _ _ _ _ _ _ _ _ _ _ _ _ _ _ _ _ _ _ _ _ _ _ _ _ _ _ _ _ _ _ _ _ _ _ _ _ _ _ _ _ _ _ _ _ _ _ _ _ _ _ _ _ _ _ _ _ _ _ _ _ _ _ _ _ _ _ _ _ _ _ _ _ _ _ _ _ _ _ _ _ _ _ _ _ _ _ _ _ _ _ _ _ _ _ _ _ _ _ _ _ _ _ _ _ _ _ _ _ _ _ _ _ _ _ _ _ _ _ _ _ _ _ _ _ _ _ _ _ _ _ _ _ _ _ _ _ _ _ _ _ _ _ _ _ _ _ _ _ _ _ _ _ hB
end Go.Proofs.YtfkdemkdkepmdabGreat
