import Derived.Test.YtenpnkkkjjdccaaGreatDsC
import Derived.Test.YtenpnkkkjjdccaaGreatLxP
import Derived.Deep.RegionHeld3
set_option maxRecDepth 100000
namespace Go.Proofs.YtenpnkkkjjdccaaGreat
open Go.RowKit Go.Maps
theorem kp1 {V w:World} {N n:Nat} {t:TypeId} {a0:Value} (hb:Below N V w) (hn:n<N) (h:V.heap[n]?=some (.cells #[a0] t (0,0))):Hid (w.heap[n]?=some (.cells #[a0] t (0,0)))∧w.cell? ⟨n,0,none⟩=some a0∧(∀ k,w.frozen? ⟨n,k,none⟩=false)∧n<w.heap.size∧¬ n=w.heap.size:=by
  have hd:=(hb.block n hn).trans h
  obtain ⟨c0,f,l⟩:=rw1 hd
  exact ⟨hd,c0,f,l,by omega⟩
theorem callDof (vs:Array Value) (w:World):(callFunc 311 vs).run Tryz.prog w=.ok (.enter 311 vs) w:=by simp [go_sem]
theorem callSta (vs:Array Value) (w:World):(callFunc 310 vs).run Tryz.prog w=.ok (.enter 310 vs) w:=by simp [go_sem]
theorem callSse (vs:Array Value) (w:World):(callFunc 312 vs).run Tryz.prog w=.ok (.enter 312 vs) w:=by simp [go_sem]
set_option maxHeartbeats 4000000 in
theorem icb_1 (V W:World) (b rb m s t:Nat) (hb:Below V.heap.size V W) (hr:V.heap.size≤rb) (hrb:W.heap[rb]?=some (.cells #[.int .i64 (m:Int)] 3 (0,0))) (hm:m≤1000000) (n:Nat) (P Q C:List Nat) (hn:n≤1000000) (hP:P.length≤1000000) (hQ:Q.length≤1000000) (HIF:Hid (∀ w,Below V.heap.size V w→Calls Tryz.prog 8 #[.pointer (some ⟨b,0,none⟩),.int .i64 (t:Int)] w fun e w'=>(e=.returned (.bool false))∧Below w.heap.size w w')) (HDP:Hid (∀ w,Below V.heap.size V w→Calls Tryz.prog 309 #[.pointer (some ⟨b,0,none⟩),.int .i64 (t:Int)] w fun e w'=>(e=.returned (.tuple #[.int .i64 (n:Int),.int .i64 0]))∧Below w.heap.size w w')) (HDO:Hid (∀ w,Below V.heap.size V w→Calls Tryz.prog 311 #[.pointer (some ⟨b,0,none⟩),.int .i64 (s:Int)] w fun e w'=>(∃ v1 v2 v3,e=.returned (.agg #[v1,v2,v3])∧DspA w.heap.size P Q C v1 v2 v3 w')∧Below w.heap.size w w')) :
    Calls Tryz.prog 272 #[.pointer (some ⟨b,0,none⟩),.agg #[.int .i64 (s:Int),.int .i64 (t:Int)],.pointer (some ⟨rb,0,none⟩)] W fun e w'=>e=.returned (.bool (atB (P++Q) n t))∧w'.heap[rb]?=some (.cells #[.int .i64 ((m+1:Nat):Int)] 3 (0,0))∧Below V.heap.size V w':=by
  have HB:Hid (Below V.heap.size V W):=hb
  have HR:Hid (W.heap[rb]?=some (.cells #[.int .i64 (m:Int)] 3 (0,0))):=hrb
  obtain ⟨r0,rf,rl⟩:=rw1 hrb
  have hW0:=hb.size
  clear hb hrb
  go_enter Tryz.func272,Tryz.ntmps272
  go_upto_region 3 with (first
    | (go_at_call 8;refine (HIF.out _ (HB.out.alloc HB.out.size _)).mono ?_;rintro e w1 ⟨rfl,hb⟩;have eed:=kp2 (n:=W.heap.size) hb (by first|omega|(simp;try omega)) (halloc1 _ _);(try clear eeB ee0 ee1 eef eeL eeN);obtain ⟨eeB,ee0,ee1,eef,eeL,eeN⟩:=eed;have rrd:=kp1 (n:=rb) hb (by first|omega|(simp;try omega)) (hkeep HR.out);(try clear rrB rr0 rrf rrL rrN);obtain ⟨rrB,rr0,rrf,rrL,rrN⟩:=rrd;have B1:Hid (Below V.heap.size V w1):=bstep (HB.out.alloc HB.out.size _) hb;clear hb HIF)
    | (go_at_call 309;refine (HDP.out _ B1.out).mono ?_;rintro e w2 ⟨rfl,hb⟩;have eed:=kp2 (n:=W.heap.size) hb (by first|omega|(simp;try omega)) (eeB.out);(try clear eeB ee0 ee1 eef eeL eeN);obtain ⟨eeB,ee0,ee1,eef,eeL,eeN⟩:=eed;have rrd:=kp1 (n:=rb) hb (by first|omega|(simp;try omega)) (rrB.out);(try clear rrB rr0 rrf rrL rrN);obtain ⟨rrB,rr0,rrf,rrL,rrN⟩:=rrd;have B2:Hid (Below V.heap.size V w2):=bstep B1.out hb;clear hb HDP))
  go_region_law (first
    | (refine stp2 rfl 311 callDof (.tmp 22) (.tmp 24) 24 3 rfl (.pointer (some ⟨b,0,none⟩)) (.int .i64 (s:Int)) (by simp [Act.eval]) (by simp [Act.eval]) (HDO.out _ B2.out.drew) ?_;rintro e w3 ⟨⟨v1,v2,v3,rfl,ho⟩,hb⟩;refine ⟨_,rfl,?_⟩;obtain ⟨a1,c1,rfl⟩:=ownv ho.rows.1;obtain ⟨a2,c2,rfl⟩:=ownv ho.rows.2.1;obtain ⟨a3,c3,rfl⟩:=ownv ho.rows.2.2;have O3:Hid (DspA w2.heap.size P Q C (.slice a1 P.length c1) (.slice a2 Q.length c2) (.slice a3 C.length c3) w3):=ho;have RL:Hid (rb<w2.heap.size):=rrL;have hb2:Below w2.heap.size w2 w3:=(Below.refl _ _).drew.trans hb;have eed:=kp2 (n:=W.heap.size) hb2 (by first|omega|(simp;try omega)) (eeB.out);(try clear eeB ee0 ee1 eef eeL eeN);obtain ⟨eeB,ee0,ee1,eef,eeL,eeN⟩:=eed;have rrd:=kp1 (n:=rb) hb2 (by first|omega|(simp;try omega)) (rrB.out);(try clear rrB rr0 rrf rrL rrN);obtain ⟨rrB,rr0,rrf,rrL,rrN⟩:=rrd;have B3:Hid (Below V.heap.size V w3):=bstep B2.out hb2;clear hb hb2 ho)
    | (refine stp4 rfl 310 callSta (.tmp 25) (.tmp 26) (.tmp 28) (.tmp 29) 298 3 3 330 rfl (.agg #[.slice a1 P.length c1,.slice a2 Q.length c2,.slice a3 C.length c3]) (.int .i64 (n:Int)) (.int .i64 (t:Int)) (.pointer (some ⟨rb,0,none⟩)) (by simp [Act.eval]) (by simp [Act.eval]) (by simp [Act.eval]) (by simp [Act.eval]) (sta_c V w3 rb _ m n t P Q _ _ a3 C.length c3 B3.out hr rrB.out RL.out O3.out.rows.1 O3.out.rows.2.1 hm hn hP hQ) ?_;rintro e w4 ⟨rfl,hk,hb⟩;refine ⟨_,rfl,?_⟩;have R4:Hid (w4.heap[rb]?=some (.cells #[.int .i64 ((m+1:Nat):Int)] 3 (0,0))):=hk;have B4:Hid (Below V.heap.size V w4):=hb;clear hb hk))
  all_goals go_wp2
  all_goals exact bodyPost_ret (results_tmp rfl _ _ _) rfl ⟨rfl,R4.out,B4.out⟩
set_option maxHeartbeats 4000000 in
theorem icb_2 (V W:World) (b rb m s t:Nat) (hb:Below V.heap.size V W) (hr:V.heap.size≤rb) (hrb:W.heap[rb]?=some (.cells #[.int .i64 (m:Int)] 3 (0,0))) (hm:m≤1000000) (hst:s=t) (HIF:Hid (∀ w,Below V.heap.size V w→Calls Tryz.prog 8 #[.pointer (some ⟨b,0,none⟩),.int .i64 (t:Int)] w fun e w'=>(e=.returned (.bool true))∧Below w.heap.size w w')) :
    Calls Tryz.prog 272 #[.pointer (some ⟨b,0,none⟩),.agg #[.int .i64 (s:Int),.int .i64 (t:Int)],.pointer (some ⟨rb,0,none⟩)] W fun e w'=>e=.returned (.bool true)∧w'.heap[rb]?=some (.cells #[.int .i64 ((m+1:Nat):Int)] 3 (0,0))∧Below V.heap.size V w':=by
  have HB:Hid (Below V.heap.size V W):=hb
  have HR:Hid (W.heap[rb]?=some (.cells #[.int .i64 (m:Int)] 3 (0,0))):=hrb
  obtain ⟨r0,rf,rl⟩:=rw1 hrb
  have hW0:=hb.size
  clear hb hrb
  subst hst
  go_enter Tryz.func272,Tryz.ntmps272
  go_wp2_with (go_at_call 8;refine (HIF.out _ (HB.out.alloc HB.out.size _)).mono ?_;rintro e w1 ⟨rfl,hb⟩;have eed:=kp2 (n:=W.heap.size) hb (by first|omega|(simp;try omega)) (halloc1 _ _);(try clear eeB ee0 ee1 eef eeL eeN);obtain ⟨eeB,ee0,ee1,eef,eeL,eeN⟩:=eed;have rrd:=kp1 (n:=rb) hb (by first|omega|(simp;try omega)) (hkeep HR.out);(try clear rrB rr0 rrf rrL rrN);obtain ⟨rrB,rr0,rrf,rrL,rrN⟩:=rrd;have B1:Hid (Below V.heap.size V w1):=bstep (HB.out.alloc HB.out.size _) hb;clear hb HIF)
  exact bodyPost_ret (results_tmp rfl _ _ _) rfl ⟨rfl,st1 rrB.out _,B1.out.setCell (p:=⟨rb,0,none⟩) hr _⟩
set_option maxHeartbeats 4000000 in
theorem icb_3 (V W:World) (b rb m s t:Nat) (hb:Below V.heap.size V W) (hr:V.heap.size≤rb) (hrb:W.heap[rb]?=some (.cells #[.int .i64 (m:Int)] 3 (0,0))) (hm:m≤1000000) (P Q C:List Nat) (hC:C.length≤1000000) (hst:¬ s=t) (HIF:Hid (∀ w,Below V.heap.size V w→Calls Tryz.prog 8 #[.pointer (some ⟨b,0,none⟩),.int .i64 (t:Int)] w fun e w'=>(e=.returned (.bool true))∧Below w.heap.size w w')) (HDO:Hid (∀ w,Below V.heap.size V w→Calls Tryz.prog 311 #[.pointer (some ⟨b,0,none⟩),.int .i64 (s:Int)] w fun e w'=>(∃ v1 v2 v3,e=.returned (.agg #[v1,v2,v3])∧DspA w.heap.size P Q C v1 v2 v3 w')∧Below w.heap.size w w')) :
    Calls Tryz.prog 272 #[.pointer (some ⟨b,0,none⟩),.agg #[.int .i64 (s:Int),.int .i64 (t:Int)],.pointer (some ⟨rb,0,none⟩)] W fun e w'=>e=.returned (.bool (C.contains t))∧w'.heap[rb]?=some (.cells #[.int .i64 ((m+(lookN C t+1):Nat):Int)] 3 (0,0))∧Below V.heap.size V w':=by
  have HB:Hid (Below V.heap.size V W):=hb
  have HR:Hid (W.heap[rb]?=some (.cells #[.int .i64 (m:Int)] 3 (0,0))):=hrb
  obtain ⟨r0,rf,rl⟩:=rw1 hrb
  have hW0:=hb.size
  clear hb hrb
  obtain ⟨B0,hB0⟩:∃ B0,C.contains t=B0:=⟨_,rfl⟩
  obtain ⟨L0,hL0⟩:∃ L0,lookN C t=L0:=⟨_,rfl⟩
  have HB0:Hid (C.contains t=B0):=hB0
  have HL0:Hid (lookN C t=L0):=hL0
  rw [hB0,hL0]
  clear hB0 hL0
  have hne:((s:Int) == (t:Int))=false:=by rw [← Bool.not_eq_true,beq_iff_eq];omega
  have hne2:¬ (s:Int)=(t:Int):=by omega
  go_enter Tryz.func272,Tryz.ntmps272
  go_upto_region 7 with (first
    | (go_at_call 8;refine (HIF.out _ (HB.out.alloc HB.out.size _)).mono ?_;rintro e w1 ⟨rfl,hb⟩;have eed:=kp2 (n:=W.heap.size) hb (by first|omega|(simp;try omega)) (halloc1 _ _);(try clear eeB ee0 ee1 eef eeL eeN);obtain ⟨eeB,ee0,ee1,eef,eeL,eeN⟩:=eed;have rrd:=kp1 (n:=rb) hb (by first|omega|(simp;try omega)) (hkeep HR.out);(try clear rrB rr0 rrf rrL rrN);obtain ⟨rrB,rr0,rrf,rrL,rrN⟩:=rrd;have B1:Hid (Below V.heap.size V w1):=bstep (HB.out.alloc HB.out.size _) hb;clear hb HIF))
  go_region_law (first
    | (refine stp2 rfl 311 callDof (.tmp 42) (.tmp 44) 24 3 rfl (.pointer (some ⟨b,0,none⟩)) (.int .i64 (s:Int)) (by simp [Act.eval]) (by simp [Act.eval]) (HDO.out _ B1.out.drew) ?_;rintro e w3 ⟨⟨v1,v2,v3,rfl,ho⟩,hb⟩;refine ⟨_,rfl,?_⟩;obtain ⟨a1,c1,rfl⟩:=ownv ho.rows.1;obtain ⟨a2,c2,rfl⟩:=ownv ho.rows.2.1;obtain ⟨a3,c3,rfl⟩:=ownv ho.rows.2.2;have O3:Hid (DspA w1.heap.size P Q C (.slice a1 P.length c1) (.slice a2 Q.length c2) (.slice a3 C.length c3) w3):=ho;have RL:Hid (rb<w1.heap.size):=rrL;have hb2:Below w1.heap.size w1 w3:=(Below.refl _ _).drew.trans hb;have eed:=kp2 (n:=W.heap.size) hb2 (by first|omega|(simp;try omega)) (eeB.out);(try clear eeB ee0 ee1 eef eeL eeN);obtain ⟨eeB,ee0,ee1,eef,eeL,eeN⟩:=eed;have rrd:=kp1 (n:=rb) hb2 (by first|omega|(simp;try omega)) (rrB.out);(try clear rrB rr0 rrf rrL rrN);obtain ⟨rrB,rr0,rrf,rrL,rrN⟩:=rrd;have B3:Hid (Below V.heap.size V w3):=bstep B1.out hb2;clear hb hb2 ho)
    | (refine step_call3 rfl 312 callSse (.tmp 45) (.tmp 47) (.tmp 48) 298 3 330 rfl (.agg #[.slice a1 P.length c1,.slice a2 Q.length c2,.slice a3 C.length c3]) (.int .i64 (t:Int)) (.pointer (some ⟨rb,0,none⟩)) (by simp [Act.eval]) (by simp [Act.eval]) (by simp [Act.eval]) (sse_c V w3 rb _ m t C _ a1 a2 P.length c1 Q.length c2 B3.out hr rrB.out RL.out O3.out.rows.2.2 hm hC) ?_;rintro e w4 ⟨he,hk,hb⟩;rw [HB0.out] at he;subst he;rw [HL0.out] at hk;refine ⟨_,rfl,?_⟩;have R4:Hid (w4.heap[rb]?=some (.cells #[.int .i64 ((m+(L0+1):Nat):Int)] 3 (0,0))):=hk;have B4:Hid (Below V.heap.size V w4):=hb;clear hb hk))
  all_goals go_wp2
  all_goals exact bodyPost_ret (results_tmp rfl _ _ _) rfl ⟨rfl,R4.out,B4.out⟩
theorem icb_c {b:Nat} {ps:List Plc} {V W:World} (h:WAt b ps V) (hW:WI ps) (rb m s t:Nat) (q r:Plc) (hs:ps[s]?=some q) (ht:ps[t]?=some r) (hb:Below V.heap.size V W) (hr:V.heap.size≤rb) (hrb:W.heap[rb]?=some (.cells #[.int .i64 (m:Int)] 3 (0,0))) (hm:m≤1000000) :
    Calls Tryz.prog 272 #[.pointer (some ⟨b,0,none⟩),.agg #[.int .i64 (s:Int),.int .i64 (t:Int)],.pointer (some ⟨rb,0,none⟩)] W fun e w'=>e=.returned (.bool (extI ps (s:Int) (t:Int)))∧w'.heap[rb]?=some (.cells #[.int .i64 ((m+rdN ps s t:Nat):Int)] 3 (0,0))∧Below V.heap.size V w':=by
  have hsl:=(List.getElem?_eq_some_iff.1 hs).1
  have hdl:=dn_le hW hsl
  have htl:=dn_le hW (List.getElem?_eq_some_iff.1 ht).1
  have HDO:∀ w,Below V.heap.size V w→Calls Tryz.prog 311 #[.pointer (some ⟨b,0,none⟩),.int .i64 (s:Int)] w fun e w'=>(∃ v1 v2 v3,e=.returned (.agg #[v1,v2,v3])∧DspA w.heap.size ((dnL ps s).take 8) ((dnL ps s).drop 8) q.cl v1 v2 v3 w')∧Below w.heap.size w w':=fun w hb=>dof_c (h.below hb) hW s q hs
  have HIF:∀ w,Below V.heap.size V w→Calls Tryz.prog 8 #[.pointer (some ⟨b,0,none⟩),.int .i64 (t:Int)] w fun e w'=>(e=.returned (.bool (ifcI ps (t:Int))))∧Below w.heap.size w w':=fun w hb=>isIface_c (h.below hb) _
  cases hf:ifcI ps (t:Int) with
  | false =>
    rw [hf] at HIF
    have e1:rdN ps s t=1:=by rw [rdN,hf];rfl
    have e2:=ext_class hW hs ht hf
    rw [dn_len] at htl
    rw [e1,e2]
    have:=icb_1 V W b rb m s t hb hr hrb hm ((chL (ps.map nd) t).length - 1) ((dnL ps s).take 8) ((dnL ps s).drop 8) q.cl (by omega) (by rw [List.length_take];omega) (by rw [List.length_drop];omega) HIF (fun w hb=>?_) HDO
    · rw [List.take_append_drop] at this
      exact this
    · have hd:=depth_r (h.below hb) hW (t:Int)
      rw [dpI,plcI_nat,ht] at hd
      simp only [Int.toNat_natCast] at hd
      rw [show (((chL (ps.map nd) t).length - 1:Nat):Int)=((chL (ps.map nd) t).length:Int) - 1 by have:=ch_pos (ns:=ps.map nd) t;omega]
      exact hd
  | true =>
    rw [hf] at HIF
    by_cases hst:s=t
    · have e1:rdN ps s t=1:=by rw [rdN,hf,if_pos rfl,if_pos hst]
      rw [e1]
      have e2:extI ps (s:Int) (t:Int)=true:=by rw [← hst];exact ext_own hs
      rw [e2]
      exact icb_2 V W b rb m s t hb hr hrb hm hst HIF
    · have e1:rdN ps s t=lookN q.cl t+1:=by rw [rdN,hf,if_pos rfl,if_neg hst,cl_at hs]
      rw [e1,ext_iface hW hs ht hf hst]
      have:=cl_len hW hs
      exact icb_3 V W b rb m s t hb hr hrb hm _ _ q.cl (by omega) hst HIF HDO
def belB (ps:List Plc) (a:Nat) (s:ByteArray) (b:Nat) (t:ByteArray):Bool :=
  if intB (a:Int) s||intB (b:Int) t then ((a:Int) == (b:Int))&&(s.toList == t.toList)
  else if 0<b then false else if 0<a then abv3.contains t.data.toList
  else match lookL ps s.data.toList,lookL ps t.data.toList with
    | some x,some y=>extB (ps.map nd) x y
    | _,_=>false
set_option maxHeartbeats 4000000 in
theorem arrBelow_c {b:Nat} {ps:List Plc} {W:World} (h:WAt b ps W) (hi:WI ps) (da db M:Nat) (s t:ByteArray) (hs:s.size≤maxLen) (ht:t.size≤maxLen) (hab:da=0∨db=0) (hbg:da+M≤255∧db+M≤255) (hld:s.toList.isEmpty=false→∃ x,lookL ps s.data.toList=some x) (hlt:t.toList.isEmpty=false→∃ x,lookL ps t.data.toList=some x) :
    Calls Tryz.prog 313 #[.pointer (some ⟨b,0,none⟩),.agg #[.int .i64 ((da+M:Nat):Int),.string s],.agg #[.int .i64 ((db+M:Nat):Int),.string t]] W fun e w'=>e=.returned (.bool (belB ps da s db t))∧Below W.heap.size W w':=by
  have HI:Hid (∀ d u y w,intB d u=y→Calls Tryz.prog 147 #[.agg #[.int .i64 d,.string u]] w fun e w'=>e=.returned (.bool y)∧Below w.heap.size w w'):=fun d u y w hy=>by rw [← hy];exact isInt_c d u w
  have H3:Hid (∀ w:World,Calls Tryz.prog 333 #[] w fun e w'=>(∃ v,e=.returned v∧IsStrs w' v abv3)∧Below w.heap.size w w'):=above3_c
  have HCo:Hid (∀ v w,IsStrs w v abv3→Calls Tryz.prog 123 #[v,.string t] w fun e w'=>e=.returned (.bool (abv3.contains t.data.toList))∧Below w.heap.size w w'):=fun v w hv=>sContains_any v abv3 t.data.toList w hv
  have HX:Hid (∀ x y,lookL ps s.data.toList=some x→lookL ps t.data.toList=some y→∀ w,Below W.heap.size W w→Calls Tryz.prog 334 #[.pointer (some ⟨b,0,none⟩),.string s,.string t] w fun e w'=>e=.returned (.bool (extB (ps.map nd) x y))∧Below w.heap.size w w'):=fun x y hx hy w hb=>aExt_c (h.below hb) hi s t hs ht x y hx hy
  obtain ⟨R,hR⟩:∃ R,belB ps da s db t=R:=⟨_,rfl⟩
  have HR:Hid (belB ps da s db t=R):=hR
  rw [hR]
  have HLD:Hid _:=hld
  have HLT:Hid _:=hlt
  clear hR h hi hs ht hld hlt
  go_enter Tryz.func313,Tryz.ntmps313
  go_wp2
  go_loopg [] M (fun k wr=>k≤M∧Hid (wr.heap[W.heap.size]?=some (.cells #[.int .i64 ((da+k:Nat):Int),.string s] 49 (0,0)))∧Hid (wr.heap[W.heap.size+1]?=some (.cells #[.int .i64 ((db+k:Nat):Int),.string t] 49 (0,0)))∧Hid (Below W.heap.size W wr))
  case atStart=>exact ⟨Nat.le_refl _,heap_alloc2_old W _ _,heap_alloc2_new W _ _,(by repeat (first|exact Below.refl _ _|refine Below.setCell ?_ (by simp;try omega) _|refine Below.alloc ?_ (by simp;try omega) _|refine Below.drew ?_))⟩
  case round =>
    obtain ⟨hkM,hA,hB,hb⟩:=hrel
    have hsA:W.heap.size<wr.heap.size:=(Array.getElem?_eq_some_iff.1 hA.out).1
    have hsB:W.heap.size+1<wr.heap.size:=(Array.getElem?_eq_some_iff.1 hB.out).1
    have a0:=cell_of_row wr W.heap.size 0 _ _ _ hA.out
    have fa0:=frozen_of_row wr W.heap.size 0 _ _ hA.out
    have a1:=cell_of_row wr W.heap.size 1 _ _ _ hA.out
    have b0:=cell_of_row wr (W.heap.size+1) 0 _ _ _ hB.out
    have fb0:=frozen_of_row wr (W.heap.size+1) 0 _ _ hB.out
    have b1:=cell_of_row wr (W.heap.size+1) 1 _ _ _ hB.out
    simp only [List.getElem?_toArray,List.getElem?_cons_zero,List.getElem?_cons_succ] at a0 a1 b0 b1
    cases gk with
    | succ k =>
      have h1:(0:Int)<((da+(k+1):Nat):Int):=by omega
      have h2:(0:Int)<((db+(k+1):Nat):Int):=by omega
      go_wp2
      go_roundg k
      case rel =>
        have ea:((da:Int)+((k:Int)+1) - 1)=((da+k:Nat):Int):=by omega
        have eb:((db:Int)+((k:Int)+1) - 1)=((db+k:Nat):Int):=by omega
        rw [ea,eb]
        refine ⟨by omega,?_,?_,?_⟩
        · rw [Hid,heap_setCell_other _ _ _ _ (by simp),heap_setCell_same _ _ _ _ _ _ hA.out];rfl
        · rw [Hid,heap_setCell_same _ _ _ #[.int .i64 ((db+(k+1):Nat):Int),.string t] 49 _ (by rw [heap_setCell_other _ _ _ _ (by simp)];exact hB.out)];rfl
        · exact (hb.out.setCell (by simp) _).setCell (by simp) _
      case measure=>omega
    | zero =>
      simp only [Nat.add_zero] at a0 b0
      have hN:¬ ((0:Int)<(da:Int)∧(0:Int)<(db:Int)):=by omega
      clear hA hB fa0 fb0
      obtain ⟨i1,hi1⟩:∃ x,intB (da:Int) s=x:=⟨_,rfl⟩
      obtain ⟨i2,hi2⟩:∃ x,intB (db:Int) t=x:=⟨_,rfl⟩
      unfold belB at HR
      rw [hi1,hi2] at HR
      have E1:Hid _:=hi1
      have E2:Hid _:=hi2
      clear hi1 hi2
      have BB:Hid (Below W.heap.size W wr):=hb
      clear hb
      cases i1 with
      | true =>
        simp only [Bool.true_or,if_true] at HR
        clear HX HLD HLT hab hbg hkM
        generalize (da:Int)=xa at *
        generalize (db:Int)=xb at *
        go_wp2_with (first
          | (go_at_call 147;refine (HI.out _ _ _ _ (by first|exact E1.out|exact E2.out)).mono ?_;rintro e w1 ⟨rfl,hb1⟩;have BB2:Below W.heap.size W w1:=bstep BB.out hb1;replace a0:=(hb1.cell (p:=⟨W.heap.size,0,none⟩) hsA).trans a0;replace a1:=(hb1.cell (p:=⟨W.heap.size,1,none⟩) hsA).trans a1;replace b0:=(hb1.cell (p:=⟨W.heap.size+1,0,none⟩) hsB).trans b0;replace b1:=(hb1.cell (p:=⟨W.heap.size+1,1,none⟩) hsB).trans b1;replace hsA:=Nat.lt_of_lt_of_le hsA hb1.size;replace hsB:=Nat.lt_of_lt_of_le hsB hb1.size;clear BB;have BB:Hid (Below W.heap.size W w1):=BB2;clear hb1 BB2)
          | (go_at_call 333;refine (H3.out _).mono ?_;rintro e w1 ⟨⟨vv,rfl,hv⟩,hb1⟩;have HV:Hid (IsStrs w1 vv abv3):=hv;have BB2:Below W.heap.size W w1:=bstep BB.out hb1;replace b1:=(hb1.cell (p:=⟨W.heap.size+1,1,none⟩) hsB).trans b1;clear BB;have BB:Hid (Below W.heap.size W w1):=BB2;clear hb1 BB2 hv)
          | (go_at_call 123;refine (HCo.out _ _ HV.out).mono ?_;rintro e w2 ⟨rfl,hb1⟩;have BB2:Below W.heap.size W w2:=bstep BB.out hb1;clear BB;have BB:Hid (Below W.heap.size W w2):=BB2;clear hb1 BB2)
          | (go_at_call 334;refine (HX.out _ BB.out).mono ?_;rintro e w2 ⟨rfl,hb1⟩;have BB2:Below W.heap.size W w2:=bstep BB.out hb1;clear BB;have BB:Hid (Below W.heap.size W w2):=BB2;clear hb1 BB2))
        all_goals go_ret
        all_goals exact ⟨retB (by rw [← HR.out];first|(simp [*];done)|(simp [*];intro h;exfalso;omega)),BB.out⟩
      | false =>
        cases i2 with
        | true =>
          simp only [Bool.or_true,if_true] at HR
          clear HX HLD HLT hab hbg hkM
          generalize (da:Int)=xa at *
          generalize (db:Int)=xb at *
          go_wp2_with (first
            | (go_at_call 147;refine (HI.out _ _ _ _ (by first|exact E1.out|exact E2.out)).mono ?_;rintro e w1 ⟨rfl,hb1⟩;have BB2:Below W.heap.size W w1:=bstep BB.out hb1;replace a0:=(hb1.cell (p:=⟨W.heap.size,0,none⟩) hsA).trans a0;replace a1:=(hb1.cell (p:=⟨W.heap.size,1,none⟩) hsA).trans a1;replace b0:=(hb1.cell (p:=⟨W.heap.size+1,0,none⟩) hsB).trans b0;replace b1:=(hb1.cell (p:=⟨W.heap.size+1,1,none⟩) hsB).trans b1;replace hsA:=Nat.lt_of_lt_of_le hsA hb1.size;replace hsB:=Nat.lt_of_lt_of_le hsB hb1.size;clear BB;have BB:Hid (Below W.heap.size W w1):=BB2;clear hb1 BB2)
            | (go_at_call 333;refine (H3.out _).mono ?_;rintro e w1 ⟨⟨vv,rfl,hv⟩,hb1⟩;have HV:Hid (IsStrs w1 vv abv3):=hv;have BB2:Below W.heap.size W w1:=bstep BB.out hb1;replace b1:=(hb1.cell (p:=⟨W.heap.size+1,1,none⟩) hsB).trans b1;clear BB;have BB:Hid (Below W.heap.size W w1):=BB2;clear hb1 BB2 hv)
            | (go_at_call 123;refine (HCo.out _ _ HV.out).mono ?_;rintro e w2 ⟨rfl,hb1⟩;have BB2:Below W.heap.size W w2:=bstep BB.out hb1;clear BB;have BB:Hid (Below W.heap.size W w2):=BB2;clear hb1 BB2)
            | (go_at_call 334;refine (HX.out _ BB.out).mono ?_;rintro e w2 ⟨rfl,hb1⟩;have BB2:Below W.heap.size W w2:=bstep BB.out hb1;clear BB;have BB:Hid (Below W.heap.size W w2):=BB2;clear hb1 BB2))
          all_goals go_ret
          all_goals exact ⟨retB (by rw [← HR.out];first|(simp [*];done)|(simp [*];intro h;exfalso;omega)),BB.out⟩
        | false =>
          simp only [Bool.or_false,Bool.false_eq_true,if_false] at HR
          by_cases hdb:0<db
          · rw [if_pos hdb] at HR
            have hdb2:(0:Int)<(db:Int):=by omega
            clear HX HLD HLT
            go_wp2_with (first
              | (go_at_call 147;refine (HI.out _ _ _ _ (by first|exact E1.out|exact E2.out)).mono ?_;rintro e w1 ⟨rfl,hb1⟩;have BB2:Below W.heap.size W w1:=bstep BB.out hb1;replace a0:=(hb1.cell (p:=⟨W.heap.size,0,none⟩) hsA).trans a0;replace a1:=(hb1.cell (p:=⟨W.heap.size,1,none⟩) hsA).trans a1;replace b0:=(hb1.cell (p:=⟨W.heap.size+1,0,none⟩) hsB).trans b0;replace b1:=(hb1.cell (p:=⟨W.heap.size+1,1,none⟩) hsB).trans b1;replace hsA:=Nat.lt_of_lt_of_le hsA hb1.size;replace hsB:=Nat.lt_of_lt_of_le hsB hb1.size;clear BB;have BB:Hid (Below W.heap.size W w1):=BB2;clear hb1 BB2)
              | (go_at_call 333;refine (H3.out _).mono ?_;rintro e w1 ⟨⟨vv,rfl,hv⟩,hb1⟩;have HV:Hid (IsStrs w1 vv abv3):=hv;have BB2:Below W.heap.size W w1:=bstep BB.out hb1;replace b1:=(hb1.cell (p:=⟨W.heap.size+1,1,none⟩) hsB).trans b1;clear BB;have BB:Hid (Below W.heap.size W w1):=BB2;clear hb1 BB2 hv)
              | (go_at_call 123;refine (HCo.out _ _ HV.out).mono ?_;rintro e w2 ⟨rfl,hb1⟩;have BB2:Below W.heap.size W w2:=bstep BB.out hb1;clear BB;have BB:Hid (Below W.heap.size W w2):=BB2;clear hb1 BB2)
              | (go_at_call 334;refine (HX.out _ BB.out).mono ?_;rintro e w2 ⟨rfl,hb1⟩;have BB2:Below W.heap.size W w2:=bstep BB.out hb1;clear BB;have BB:Hid (Below W.heap.size W w2):=BB2;clear hb1 BB2))
            all_goals go_ret
            all_goals exact ⟨retB HR.out,BB.out⟩
          · rw [if_neg hdb] at HR
            have hdb2:¬ (0:Int)<(db:Int):=by omega
            by_cases hda:0<da
            · rw [if_pos hda] at HR
              generalize abv3.contains t.data.toList=ct at *
              have hda2:(0:Int)<(da:Int):=by omega
              clear HX HLD HLT
              go_wp2_with (first
                | (go_at_call 147;refine (HI.out _ _ _ _ (by first|exact E1.out|exact E2.out)).mono ?_;rintro e w1 ⟨rfl,hb1⟩;have BB2:Below W.heap.size W w1:=bstep BB.out hb1;replace a0:=(hb1.cell (p:=⟨W.heap.size,0,none⟩) hsA).trans a0;replace a1:=(hb1.cell (p:=⟨W.heap.size,1,none⟩) hsA).trans a1;replace b0:=(hb1.cell (p:=⟨W.heap.size+1,0,none⟩) hsB).trans b0;replace b1:=(hb1.cell (p:=⟨W.heap.size+1,1,none⟩) hsB).trans b1;replace hsA:=Nat.lt_of_lt_of_le hsA hb1.size;replace hsB:=Nat.lt_of_lt_of_le hsB hb1.size;clear BB;have BB:Hid (Below W.heap.size W w1):=BB2;clear hb1 BB2)
                | (go_at_call 333;refine (H3.out _).mono ?_;rintro e w1 ⟨⟨vv,rfl,hv⟩,hb1⟩;have HV:Hid (IsStrs w1 vv abv3):=hv;have BB2:Below W.heap.size W w1:=bstep BB.out hb1;replace b1:=(hb1.cell (p:=⟨W.heap.size+1,1,none⟩) hsB).trans b1;clear BB;have BB:Hid (Below W.heap.size W w1):=BB2;clear hb1 BB2 hv)
                | (go_at_call 123;refine (HCo.out _ _ HV.out).mono ?_;rintro e w2 ⟨rfl,hb1⟩;have BB2:Below W.heap.size W w2:=bstep BB.out hb1;clear BB;have BB:Hid (Below W.heap.size W w2):=BB2;clear hb1 BB2)
                | (go_at_call 334;refine (HX.out _ BB.out).mono ?_;rintro e w2 ⟨rfl,hb1⟩;have BB2:Below W.heap.size W w2:=bstep BB.out hb1;clear BB;have BB:Hid (Below W.heap.size W w2):=BB2;clear hb1 BB2))
              go_region_held3 (fun w'=>w'.cell? ⟨W.heap.size+1,1,none⟩=some (.string t)) (go_keep) (first
                | (go_at_call 333;refine (H3.out _).mono ?_;rintro e w3 ⟨⟨vv,rfl,hv⟩,hb1⟩;have HV:Hid (IsStrs w3 vv abv3):=hv;obtain ⟨ao,cap,rfl,_,_,_⟩:=hv;have BB2:Below W.heap.size W w3:=bstep BB.out.drew hb1;replace b1:w3.cell? ⟨W.heap.size+1,1,none⟩=some (.string t):=(hb1.cell (p:=⟨W.heap.size+1,1,none⟩) hsB).trans b1;clear BB;have BB:Hid (Below W.heap.size W w3):=BB2;clear hb1 BB2 H3)
                | (go_at_call 123;refine (HCo.out _ _ HV.out).mono ?_;rintro e w4 ⟨rfl,hb1⟩;have BB2:Below W.heap.size W w4:=bstep BB.out hb1;replace b1:w4.cell? ⟨W.heap.size+1,1,none⟩=some (.string t):=(hb1.cell (p:=⟨W.heap.size+1,1,none⟩) (World.block_lt_of_cell? _ _ b1)).trans b1;clear BB;have BB:Hid (Below W.heap.size W w4):=BB2;clear hb1 BB2 HCo))
              go_wp2
              all_goals go_ret
              all_goals exact ⟨retB HR.out,BB.out⟩
            · rw [if_neg hda] at HR
              have hda2:¬ (0:Int)<(da:Int):=by omega
              have hes:s.toList.isEmpty=false:=by
                have:=E1.out
                unfold intB at this
                rw [show (da:Int)=0 by omega] at this
                simpa using this
              have het:t.toList.isEmpty=false:=by
                have:=E2.out
                unfold intB at this
                rw [show (db:Int)=0 by omega] at this
                simpa using this
              obtain ⟨x,hx⟩:=HLD.out hes
              obtain ⟨y,hy⟩:=HLT.out het
              rw [hx,hy] at HR
              simp only at HR
              have HX:Hid _:=HX.out x y hx hy
              clear HLD HLT hes het hx hy
              go_wp2_with (first
                | (go_at_call 147;refine (HI.out _ _ _ _ (by first|exact E1.out|exact E2.out)).mono ?_;rintro e w1 ⟨rfl,hb1⟩;have BB2:Below W.heap.size W w1:=bstep BB.out hb1;replace a0:=(hb1.cell (p:=⟨W.heap.size,0,none⟩) hsA).trans a0;replace a1:=(hb1.cell (p:=⟨W.heap.size,1,none⟩) hsA).trans a1;replace b0:=(hb1.cell (p:=⟨W.heap.size+1,0,none⟩) hsB).trans b0;replace b1:=(hb1.cell (p:=⟨W.heap.size+1,1,none⟩) hsB).trans b1;replace hsA:=Nat.lt_of_lt_of_le hsA hb1.size;replace hsB:=Nat.lt_of_lt_of_le hsB hb1.size;clear BB;have BB:Hid (Below W.heap.size W w1):=BB2;clear hb1 BB2)
                | (go_at_call 333;refine (H3.out _).mono ?_;rintro e w1 ⟨⟨vv,rfl,hv⟩,hb1⟩;have HV:Hid (IsStrs w1 vv abv3):=hv;have BB2:Below W.heap.size W w1:=bstep BB.out hb1;replace b1:=(hb1.cell (p:=⟨W.heap.size+1,1,none⟩) hsB).trans b1;clear BB;have BB:Hid (Below W.heap.size W w1):=BB2;clear hb1 BB2 hv)
                | (go_at_call 123;refine (HCo.out _ _ HV.out).mono ?_;rintro e w2 ⟨rfl,hb1⟩;have BB2:Below W.heap.size W w2:=bstep BB.out hb1;clear BB;have BB:Hid (Below W.heap.size W w2):=BB2;clear hb1 BB2)
                | (go_at_call 334;refine (HX.out _ BB.out).mono ?_;rintro e w2 ⟨rfl,hb1⟩;have BB2:Below W.heap.size W w2:=bstep BB.out hb1;clear BB;have BB:Hid (Below W.heap.size W w2):=BB2;clear hb1 BB2))
              all_goals go_ret
              all_goals exact ⟨retB HR.out,BB.out⟩
def subB (ps:List Plc) (x:Int) (s:ByteArray) (y:Int) (t:ByteArray):Bool:=belB ps (x.toNat - min x.toNat y.toNat) s (y.toNat - min x.toNat y.toNat) t
def suI (ps:List Plc) (x:Int) (s:ByteArray) (y:Int) (t:ByteArray):Value :=
  if ldI ps x s=0 then (if ldI ps y t=0 then .tuple #[.bool (subB ps x s y t),.int .i64 0] else .tuple #[.bool false,.int .i64 (ldI ps y t)]) else .tuple #[.bool false,.int .i64 (ldI ps x s)]
theorem ld_facts {ps:List Plc} {x:Int} {s:ByteArray} (h:ldI ps x s=0):0≤x∧x≤255∧(s.toList.isEmpty=false→∃ k,lookL ps s.data.toList=some k):=by
  unfold ldI at h
  cases hs:sndB x s.data.toList with
  | false=>rw [hs] at h;revert h;simp
  | true =>
    rw [hs] at h
    have hs2:=hs
    unfold sndB at hs2
    simp only [Bool.and_eq_true,decide_eq_true_eq] at hs2
    refine ⟨hs2.1.1,hs2.1.2,fun he=>?_⟩
    rw [he] at h
    cases hl:lookL ps s.data.toList with
    | some k=>exact ⟨k,rfl⟩
    | none=>rw [hl] at h;revert h;simp
set_option maxHeartbeats 1000000 in
theorem sub_c {b:Nat} {ps:List Plc} {W:World} (h:WAt b ps W) (hi:WI ps) (x:Int) (s:ByteArray) (y:Int) (t:ByteArray) (hs:s.size≤maxLen) (ht:t.size≤maxLen):Calls Tryz.prog 273 #[.pointer (some ⟨b,0,none⟩),.agg #[.int .i64 x,.string s],.agg #[.int .i64 y,.string t]] W fun e w'=>e=.returned (suI ps x s y t)∧Below W.heap.size W w':=by
  have HL:Hid (∀ z u r w,Below W.heap.size W w→u.size≤maxLen→ldI ps z u=r→Calls Tryz.prog 146 #[.pointer (some ⟨b,0,none⟩),.agg #[.int .i64 z,.string u]] w fun e w'=>e=.returned (.int .i64 r)∧Below w.heap.size w w'):=fun z u r w hb hu hr=>by rw [← hr];exact loaded_c (h.below hb) z u hu
  have HL1:Hid (∀ z u w,Below W.heap.size W w→z=x→u=s→Calls Tryz.prog 146 #[.pointer (some ⟨b,0,none⟩),.agg #[.int .i64 z,.string u]] w fun e w'=>e=.returned (.int .i64 (ldI ps x s))∧Below w.heap.size w w'):=fun z u w hb hz hu=>by rw [hz,hu];exact HL.out x s _ w hb hs rfl
  have HL2:Hid (∀ z u w,Below W.heap.size W w→z=y→u=t→Calls Tryz.prog 146 #[.pointer (some ⟨b,0,none⟩),.agg #[.int .i64 z,.string u]] w fun e w'=>e=.returned (.int .i64 (ldI ps y t))∧Below w.heap.size w w'):=fun z u w hb hz hu=>by rw [hz,hu];exact HL.out y t _ w hb ht rfl
  clear HL
  have tl:∀ (w1:World) (o1 o2:Obj),Below ((W.alloc o1).alloc o2).heap.size ((W.alloc o1).alloc o2) w1→True:=fun _ _ _ _=>trivial
  clear tl
  by_cases h1:ldI ps x s=0
  · by_cases h2:ldI ps y t=0
    · have e:suI ps x s y t=.tuple #[.bool (subB ps x s y t),.int .i64 0]:=by rw [suI,if_pos h1,if_pos h2]
      rw [e]
      obtain ⟨x0,x1,xk⟩:=ld_facts h1
      obtain ⟨y0,y1,yk⟩:=ld_facts h2
      have HB:Hid (∀ w,Below W.heap.size W w→Calls Tryz.prog 313 #[.pointer (some ⟨b,0,none⟩),.agg #[.int .i64 x,.string s],.agg #[.int .i64 y,.string t]] w fun e w'=>e=.returned (.bool (subB ps x s y t))∧Below w.heap.size w w'):=fun w hb=>by
        have hq:=arrBelow_c (h.below hb) hi (x.toNat - min x.toNat y.toNat) (y.toNat - min x.toNat y.toNat) (min x.toNat y.toNat) s t hs ht (by omega) (by omega) xk yk
        rw [show ((x.toNat - min x.toNat y.toNat+min x.toNat y.toNat:Nat):Int)=x by omega,show ((y.toNat - min x.toNat y.toNat+min x.toNat y.toNat:Nat):Int)=y by omega] at hq
        exact hq
      rw [h1] at HL1
      rw [h2] at HL2
      generalize subB ps x s y t=R at *
      clear h hi hs ht h1 h2 e x0 x1 xk y0 y1 yk
      go_enter Tryz.func273,Tryz.ntmps273
      go_wp2_with (first
        | (go_at_call 146;refine (HL1.out _ _ _ (by repeat (first|exact Below.refl _ _|refine Below.setCell ?_ (by simp;try omega) _|refine Below.alloc ?_ (by simp;try omega) _|refine Below.drew ?_)) (by rfl) (by rfl)).mono ?_;rintro e w1 ⟨rfl,hb⟩;have hA:=(hb.block W.heap.size (by simp;omega)).trans (heap_alloc2_old W _ _);have hB:=(hb.block (W.heap.size+1) (by simp)).trans (heap_alloc2_new W _ _);have hsA:W.heap.size<w1.heap.size:=(Array.getElem?_eq_some_iff.1 hA).1;have hsB:W.heap.size+1<w1.heap.size:=(Array.getElem?_eq_some_iff.1 hB).1;have a0:=cell_of_row w1 W.heap.size 0 _ _ _ hA;have a1:=cell_of_row w1 W.heap.size 1 _ _ _ hA;have b0:=cell_of_row w1 (W.heap.size+1) 0 _ _ _ hB;have b1:=cell_of_row w1 (W.heap.size+1) 1 _ _ _ hB;simp only [List.getElem?_toArray,List.getElem?_cons_zero,List.getElem?_cons_succ] at a0 a1 b0 b1;have BB:Hid (Below W.heap.size W w1):=bstep (by repeat (first|exact Below.refl _ _|refine Below.setCell ?_ (by simp;try omega) _|refine Below.alloc ?_ (by simp;try omega) _|refine Below.drew ?_)) hb;clear hb HL1 hA hB)
        | (go_at_call 146;refine (HL2.out _ _ _ BB.out (by rfl) (by rfl)).mono ?_;rintro e w2 ⟨rfl,hb⟩;replace a0:=(hb.cell (p:=⟨W.heap.size,0,none⟩) hsA).trans a0;replace a1:=(hb.cell (p:=⟨W.heap.size,1,none⟩) hsA).trans a1;replace b0:=(hb.cell (p:=⟨W.heap.size+1,0,none⟩) hsB).trans b0;replace b1:=(hb.cell (p:=⟨W.heap.size+1,1,none⟩) hsB).trans b1;have BB2:Below W.heap.size W w2:=bstep BB.out hb;clear BB;have BB:Hid (Below W.heap.size W w2):=BB2;clear hb BB2 HL2)
        | (go_at_call 313;refine (HB.out _ BB.out).mono ?_;rintro e w3 ⟨rfl,hb⟩;have BB2:Below W.heap.size W w3:=bstep BB.out hb;clear BB;have BB:Hid (Below W.heap.size W w3):=BB2;clear hb BB2 HB))
      exact bodyPost_ret (results_tmp2 rfl _ _ _) rfl ⟨rfl,BB.out⟩
    · have e:suI ps x s y t=.tuple #[.bool false,.int .i64 (ldI ps y t)]:=by rw [suI,if_pos h1,if_neg h2]
      rw [e]
      rw [h1] at HL1
      generalize ldI ps y t=R at *
      clear h hi hs ht h1 e
      go_enter Tryz.func273,Tryz.ntmps273
      go_wp2_with (first
        | (go_at_call 146;refine (HL1.out _ _ _ (by repeat (first|exact Below.refl _ _|refine Below.setCell ?_ (by simp;try omega) _|refine Below.alloc ?_ (by simp;try omega) _|refine Below.drew ?_)) (by rfl) (by rfl)).mono ?_;rintro e w1 ⟨rfl,hb⟩;have hA:=(hb.block W.heap.size (by simp;omega)).trans (heap_alloc2_old W _ _);have hB:=(hb.block (W.heap.size+1) (by simp)).trans (heap_alloc2_new W _ _);have a0:=cell_of_row w1 W.heap.size 0 _ _ _ hA;have a1:=cell_of_row w1 W.heap.size 1 _ _ _ hA;have b0:=cell_of_row w1 (W.heap.size+1) 0 _ _ _ hB;have b1:=cell_of_row w1 (W.heap.size+1) 1 _ _ _ hB;simp only [List.getElem?_toArray,List.getElem?_cons_zero,List.getElem?_cons_succ] at a0 a1 b0 b1;have BB:Hid (Below W.heap.size W w1):=bstep (by repeat (first|exact Below.refl _ _|refine Below.setCell ?_ (by simp;try omega) _|refine Below.alloc ?_ (by simp;try omega) _|refine Below.drew ?_)) hb;clear hb HL1 hA hB)
        | (go_at_call 146;refine (HL2.out _ _ _ BB.out (by rfl) (by rfl)).mono ?_;rintro e w2 ⟨rfl,hb⟩;have BB2:Below W.heap.size W w2:=bstep BB.out hb;clear BB;have BB:Hid (Below W.heap.size W w2):=BB2;clear hb BB2 HL2))
      exact bodyPost_ret (results_tmp2 rfl _ _ _) rfl ⟨rfl,BB.out⟩
  · have e:suI ps x s y t=.tuple #[.bool false,.int .i64 (ldI ps x s)]:=by rw [suI,if_neg h1]
    rw [e]
    generalize ldI ps x s=R at *
    clear h hi hs ht e
    go_enter Tryz.func273,Tryz.ntmps273
    go_wp2_with (first
      | (go_at_call 146;refine (HL1.out _ _ _ (by repeat (first|exact Below.refl _ _|refine Below.setCell ?_ (by simp;try omega) _|refine Below.alloc ?_ (by simp;try omega) _|refine Below.drew ?_)) (by rfl) (by rfl)).mono ?_;rintro e w1 ⟨rfl,hb⟩;have BB:Hid (Below W.heap.size W w1):=bstep (by repeat (first|exact Below.refl _ _|refine Below.setCell ?_ (by simp;try omega) _|refine Below.alloc ?_ (by simp;try omega) _|refine Below.drew ?_)) hb;clear hb HL1))
    exact bodyPost_ret (results_tmp2 rfl _ _ _) rfl ⟨rfl,BB.out⟩
theorem dset2 {w:World} {n:Nat} {t:TypeId} {a0 a1:Value} (h:w.heap[n]?=some (.cells #[a0,a1] t (0,0))) (v:Value):(w.setCell ⟨n,0,none⟩ v).heap[n]?=some (.cells #[v,a1] t (0,0))∧(w.setCell ⟨n,1,none⟩ v).heap[n]?=some (.cells #[a0,v] t (0,0)) :=
  ⟨(Go.Joins.block_setCell (i:=0) h v).trans (by simp),(Go.Joins.block_setCell (i:=1) h v).trans (by simp)⟩
theorem dset4 {w:World} {n:Nat} {t:TypeId} {a0 a1 a2 a3:Value} (h:w.heap[n]?=some (.cells #[a0,a1,a2,a3] t (0,0))) (v:Value):(w.setCell ⟨n,0,none⟩ v).heap[n]?=some (.cells #[v,a1,a2,a3] t (0,0))∧(w.setCell ⟨n,2,none⟩ v).heap[n]?=some (.cells #[a0,a1,v,a3] t (0,0)) :=
  ⟨(Go.Joins.block_setCell (i:=0) h v).trans (by simp),(Go.Joins.block_setCell (i:=2) h v).trans (by simp)⟩
theorem keepS {w:World} {n m i:Nat} {v:Value} {o:Option Obj} (hn:¬ n=m) (h:w.heap[n]?=o):(w.setCell ⟨m,i,none⟩ v).heap[n]?=o:=(Below.heap_setCell _ _ _ _ hn).trans h
set_option maxHeartbeats 4000000 in
theorem low_c (d1 d2 c:Nat) (s t:ByteArray) (hc:min d1 d2=c) (h1:d1≤255) (h2:d2≤255) (W:World):Calls Tryz.prog 270 #[.agg #[.int .i64 (d1:Int),.string s,.int .i64 (d2:Int),.string t]] W fun e w'=>e=.returned (.agg #[.int .i64 ((d1:Int) - (c:Int)),.string s,.int .i64 ((d2:Int) - (c:Int)),.string t])∧Below W.heap.size W w':=by
  have hmin:min (d1:Int) (d2:Int)=(c:Int):=by omega
  have hc1:c≤d1:=by omega
  have hc2:c≤d2:=by omega
  clear hc
  go_enter Tryz.func270,Tryz.ntmps270
  go_wp2
  go_loopw [12] (fun kv wr=>((kv=.int .i64 0∧Hid (wr.heap[W.heap.size]?=some (.cells #[.int .i64 (d1:Int),.string s,.int .i64 (d2:Int),.string t] 328 (0,0))))∨(kv=.int .i64 1∧Hid (wr.heap[W.heap.size]?=some (.cells #[.int .i64 ((d1:Int) - (c:Int)),.string s,.int .i64 (d2:Int),.string t] 328 (0,0))))∨(kv=.int .i64 2∧Hid (wr.heap[W.heap.size]?=some (.cells #[.int .i64 ((d1:Int) - (c:Int)),.string s,.int .i64 ((d2:Int) - (c:Int)),.string t] 328 (0,0)))))∧Hid (Below W.heap.size W wr)∧Hid (wr.heap[W.heap.size+1]?=some (.cells #[.int .i64 0,.string ⟨#[]⟩,.int .i64 0,.string ⟨#[]⟩] 328 (0,0)))) (fun kv _=>2 - (intOf kv).toNat)
  case atStart=>exact ⟨.inl ⟨rfl,hkeep (halloc1 _ _)⟩,((Below.refl _ _).alloc (Nat.le_refl _) _).alloc (by simp) _,halloc2 _ _ (by simp)⟩
  case round =>
    obtain ⟨hk,hB,rrB⟩:=hrel
    obtain ⟨rr0,rr1,rr2,rr3,rrf,rrL⟩:=rw4 rrB.out
    have rrN:¬ W.heap.size+1=W.heap.size:=by omega
    have rrN2:¬ W.heap.size=W.heap.size+1:=by omega
    rcases hk with ⟨rfl,eeB⟩|⟨rfl,eeB⟩|⟨rfl,eeB⟩
    · obtain ⟨ee0,ee1,ee2,ee3,eef,eeL⟩:=rw4 eeB.out
      go_wp2
      exact ⟨⟨.inr (.inl ⟨rfl,(dset4 eeB.out _).1⟩),hB.out.setCell (Nat.le_refl _) _,keepS rrN rrB.out⟩,by simp [intOf]⟩
    · obtain ⟨ee0,ee1,ee2,ee3,eef,eeL⟩:=rw4 eeB.out
      go_wp2
      exact ⟨⟨.inr (.inr ⟨rfl,(dset4 eeB.out _).2⟩),hB.out.setCell (Nat.le_refl _) _,keepS rrN rrB.out⟩,by simp [intOf]⟩
    · obtain ⟨ee0,ee1,ee2,ee3,eef,eeL⟩:=rw4 eeB.out
      go_wp2
      exact bodyPost_ret (v:=.agg #[.int .i64 ((d1:Int) - (c:Int)),.string s,.int .i64 ((d2:Int) - (c:Int)),.string t]) (by simp [results,Tryz.results270,go_sem, *]) rfl ⟨rfl,(((hB.out.setCell (Nat.le_succ _) _).setCell (Nat.le_succ _) _).setCell (Nat.le_succ _) _).setCell (Nat.le_succ _) _⟩
set_option maxHeartbeats 4000000 in
theorem ict_c (d:Int) (s:ByteArray) (W:World):Calls Tryz.prog 271 #[.agg #[.int .i64 d,.string s]] W fun e w'=>e=.returned (.bool (decide (d=0)&&!s.toList.isEmpty))∧Below W.heap.size W w':=by
  by_cases h0:d=0
  · subst h0
    cases he:s.toList.isEmpty
    all_goals
      go_enter Tryz.func271,Tryz.ntmps271
      go_wp2
      go_ret
      exact ⟨by first|rfl|simp_all,(by repeat (first|exact Below.refl _ _|refine Below.setCell ?_ (by simp;try omega) _|refine Below.alloc ?_ (by simp;try omega) _|refine Below.drew ?_))⟩
  · have e:(decide (d=0)&&!s.toList.isEmpty)=false:=by simp [h0]
    rw [e]
    go_enter Tryz.func271,Tryz.ntmps271
    go_wp2
    go_ret
    exact ⟨rfl,(by repeat (first|exact Below.refl _ _|refine Below.setCell ?_ (by simp;try omega) _|refine Below.alloc ?_ (by simp;try omega) _|refine Below.drew ?_))⟩
end Go.Proofs.YtenpnkkkjjdccaaGreat
