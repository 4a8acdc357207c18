import Derived.Test.YtkclpcmkplbclaaGreatDsC
import Derived.Test.YtkclpcmkplbclaaGreatWdT
set_option maxRecDepth 100000
namespace Go.Proofs.YtkclpcmkplbclaaGreat
open Go.RowKit Go.Maps
theorem kp1 {V w:World} {N n:Nat} {t:TypeId} {a0:Value} (hb:Below N V w) (hn:n<N) (h:V.heap[n]?=some (.cells #[a0] t (0,0))):Hid (w.heap[n]?=some (.cells #[a0] t (0,0)))∧w.cell? ⟨n,0,none⟩=some a0∧(∀ k,w.frozen? ⟨n,k,none⟩=false)∧n<w.heap.size∧¬ n=w.heap.size:=by
  have hd:=(hb.block n hn).trans h
  obtain ⟨c0,f,l⟩:=rw1 hd
  exact ⟨hd,c0,f,l,by omega⟩
theorem callDof (vs:Array Value) (w:World):(callFunc 82 vs).run Tryz.prog w=.ok (.enter 82 vs) w:=by simp [go_sem]
theorem callSta (vs:Array Value) (w:World):(callFunc 114 vs).run Tryz.prog w=.ok (.enter 114 vs) w:=by simp [go_sem]
theorem callSse (vs:Array Value) (w:World):(callFunc 115 vs).run Tryz.prog w=.ok (.enter 115 vs) w:=by simp [go_sem]
set_option maxHeartbeats 4000000 in
theorem icb_1 (V W:World) (b rb m s t:Nat) (hb:Below V.heap.size V W) (hr:V.heap.size≤rb) (hrb:W.heap[rb]?=some (.cells #[.int .i64 (m:Int)] 3 (0,0))) (hm:m≤1000000) (n:Nat) (P Q C:List Nat) (hn:n≤1000000) (hP:P.length≤1000000) (hQ:Q.length≤1000000) (HIF:Hid (∀ w,Below V.heap.size V w→Calls Tryz.prog 21 #[.pointer (some ⟨b,0,none⟩),.int .i64 (t:Int)] w fun e w'=>(e=.returned (.bool false))∧Below w.heap.size w w')) (HDP:Hid (∀ w,Below V.heap.size V w→Calls Tryz.prog 26 #[.pointer (some ⟨b,0,none⟩),.int .i64 (t:Int)] w fun e w'=>(e=.returned (.tuple #[.int .i64 (n:Int),.int .i64 0]))∧Below w.heap.size w w')) (HDO:Hid (∀ w,Below V.heap.size V w→Calls Tryz.prog 82 #[.pointer (some ⟨b,0,none⟩),.int .i64 (s:Int)] w fun e w'=>(∃ v1 v2 v3,e=.returned (.agg #[v1,v2,v3])∧DspA w.heap.size P Q C v1 v2 v3 w')∧Below w.heap.size w w')) :
    Calls Tryz.prog 73 #[.pointer (some ⟨b,0,none⟩),.agg #[.int .i64 (s:Int),.int .i64 (t:Int)],.pointer (some ⟨rb,0,none⟩)] W fun e w'=>e=.returned (.bool (atB (P++Q) n t))∧w'.heap[rb]?=some (.cells #[.int .i64 ((m+1:Nat):Int)] 3 (0,0))∧Below V.heap.size V w':=by
  have HB:Hid (Below V.heap.size V W):=hb
  have HR:Hid (W.heap[rb]?=some (.cells #[.int .i64 (m:Int)] 3 (0,0))):=hrb
  obtain ⟨r0,rf,rl⟩:=rw1 hrb
  have hW0:=hb.size
  clear hb hrb
  go_enter Tryz.func73,Tryz.ntmps73
  go_upto_region 3 with (first
    | (go_at_call 21;refine (HIF.out _ (HB.out.alloc HB.out.size _)).mono ?_;rintro e w1 ⟨rfl,hb⟩;have eed:=kp2 (n:=W.heap.size) hb (by first|omega|(simp;try omega)) (halloc1 _ _);(try clear eeB ee0 ee1 eef eeL eeN);obtain ⟨eeB,ee0,ee1,eef,eeL,eeN⟩:=eed;have rrd:=kp1 (n:=rb) hb (by first|omega|(simp;try omega)) (hkeep HR.out);(try clear rrB rr0 rrf rrL rrN);obtain ⟨rrB,rr0,rrf,rrL,rrN⟩:=rrd;have B1:Hid (Below V.heap.size V w1):=bstep (HB.out.alloc HB.out.size _) hb;clear hb HIF)
    | (go_at_call 26;refine (HDP.out _ B1.out).mono ?_;rintro e w2 ⟨rfl,hb⟩;have eed:=kp2 (n:=W.heap.size) hb (by first|omega|(simp;try omega)) (eeB.out);(try clear eeB ee0 ee1 eef eeL eeN);obtain ⟨eeB,ee0,ee1,eef,eeL,eeN⟩:=eed;have rrd:=kp1 (n:=rb) hb (by first|omega|(simp;try omega)) (rrB.out);(try clear rrB rr0 rrf rrL rrN);obtain ⟨rrB,rr0,rrf,rrL,rrN⟩:=rrd;have B2:Hid (Below V.heap.size V w2):=bstep B1.out hb;clear hb HDP))
  go_region_law (first
    | (refine stp2 rfl 82 callDof (.tmp 22) (.tmp 24) 26 3 rfl (.pointer (some ⟨b,0,none⟩)) (.int .i64 (s:Int)) (by simp [Act.eval]) (by simp [Act.eval]) (HDO.out _ B2.out.drew) ?_;rintro e w3 ⟨⟨v1,v2,v3,rfl,ho⟩,hb⟩;refine ⟨_,rfl,?_⟩;obtain ⟨a1,c1,rfl⟩:=ownv ho.rows.1;obtain ⟨a2,c2,rfl⟩:=ownv ho.rows.2.1;obtain ⟨a3,c3,rfl⟩:=ownv ho.rows.2.2;have O3:Hid (DspA w2.heap.size P Q C (.slice a1 P.length c1) (.slice a2 Q.length c2) (.slice a3 C.length c3) w3):=ho;have RL:Hid (rb<w2.heap.size):=rrL;have hb2:Below w2.heap.size w2 w3:=(Below.refl _ _).drew.trans hb;have eed:=kp2 (n:=W.heap.size) hb2 (by first|omega|(simp;try omega)) (eeB.out);(try clear eeB ee0 ee1 eef eeL eeN);obtain ⟨eeB,ee0,ee1,eef,eeL,eeN⟩:=eed;have rrd:=kp1 (n:=rb) hb2 (by first|omega|(simp;try omega)) (rrB.out);(try clear rrB rr0 rrf rrL rrN);obtain ⟨rrB,rr0,rrf,rrL,rrN⟩:=rrd;have B3:Hid (Below V.heap.size V w3):=bstep B2.out hb2;clear hb hb2 ho)
    | (refine stp4 rfl 114 callSta (.tmp 25) (.tmp 26) (.tmp 28) (.tmp 29) 47 3 3 114 rfl (.agg #[.slice a1 P.length c1,.slice a2 Q.length c2,.slice a3 C.length c3]) (.int .i64 (n:Int)) (.int .i64 (t:Int)) (.pointer (some ⟨rb,0,none⟩)) (by simp [Act.eval]) (by simp [Act.eval]) (by simp [Act.eval]) (by simp [Act.eval]) (sta_c V w3 rb _ m n t P Q _ _ a3 C.length c3 B3.out hr rrB.out RL.out O3.out.rows.1 O3.out.rows.2.1 hm hn hP hQ) ?_;rintro e w4 ⟨rfl,hk,hb⟩;refine ⟨_,rfl,?_⟩;have R4:Hid (w4.heap[rb]?=some (.cells #[.int .i64 ((m+1:Nat):Int)] 3 (0,0))):=hk;have B4:Hid (Below V.heap.size V w4):=hb;clear hb hk))
  all_goals go_wp2
  all_goals exact bodyPost_ret (results_tmp rfl _ _ _) rfl ⟨rfl,R4.out,B4.out⟩
set_option maxHeartbeats 4000000 in
theorem icb_2 (V W:World) (b rb m s t:Nat) (hb:Below V.heap.size V W) (hr:V.heap.size≤rb) (hrb:W.heap[rb]?=some (.cells #[.int .i64 (m:Int)] 3 (0,0))) (hm:m≤1000000) (hst:s=t) (HIF:Hid (∀ w,Below V.heap.size V w→Calls Tryz.prog 21 #[.pointer (some ⟨b,0,none⟩),.int .i64 (t:Int)] w fun e w'=>(e=.returned (.bool true))∧Below w.heap.size w w')) :
    Calls Tryz.prog 73 #[.pointer (some ⟨b,0,none⟩),.agg #[.int .i64 (s:Int),.int .i64 (t:Int)],.pointer (some ⟨rb,0,none⟩)] W fun e w'=>e=.returned (.bool true)∧w'.heap[rb]?=some (.cells #[.int .i64 ((m+1:Nat):Int)] 3 (0,0))∧Below V.heap.size V w':=by
  have HB:Hid (Below V.heap.size V W):=hb
  have HR:Hid (W.heap[rb]?=some (.cells #[.int .i64 (m:Int)] 3 (0,0))):=hrb
  obtain ⟨r0,rf,rl⟩:=rw1 hrb
  have hW0:=hb.size
  clear hb hrb
  subst hst
  go_enter Tryz.func73,Tryz.ntmps73
  go_wp2_with (go_at_call 21;refine (HIF.out _ (HB.out.alloc HB.out.size _)).mono ?_;rintro e w1 ⟨rfl,hb⟩;have eed:=kp2 (n:=W.heap.size) hb (by first|omega|(simp;try omega)) (halloc1 _ _);(try clear eeB ee0 ee1 eef eeL eeN);obtain ⟨eeB,ee0,ee1,eef,eeL,eeN⟩:=eed;have rrd:=kp1 (n:=rb) hb (by first|omega|(simp;try omega)) (hkeep HR.out);(try clear rrB rr0 rrf rrL rrN);obtain ⟨rrB,rr0,rrf,rrL,rrN⟩:=rrd;have B1:Hid (Below V.heap.size V w1):=bstep (HB.out.alloc HB.out.size _) hb;clear hb HIF)
  exact bodyPost_ret (results_tmp rfl _ _ _) rfl ⟨rfl,st1 rrB.out _,B1.out.setCell (p:=⟨rb,0,none⟩) hr _⟩
set_option maxHeartbeats 4000000 in
theorem icb_3 (V W:World) (b rb m s t:Nat) (hb:Below V.heap.size V W) (hr:V.heap.size≤rb) (hrb:W.heap[rb]?=some (.cells #[.int .i64 (m:Int)] 3 (0,0))) (hm:m≤1000000) (P Q C:List Nat) (hC:C.length≤1000000) (hst:¬ s=t) (HIF:Hid (∀ w,Below V.heap.size V w→Calls Tryz.prog 21 #[.pointer (some ⟨b,0,none⟩),.int .i64 (t:Int)] w fun e w'=>(e=.returned (.bool true))∧Below w.heap.size w w')) (HDO:Hid (∀ w,Below V.heap.size V w→Calls Tryz.prog 82 #[.pointer (some ⟨b,0,none⟩),.int .i64 (s:Int)] w fun e w'=>(∃ v1 v2 v3,e=.returned (.agg #[v1,v2,v3])∧DspA w.heap.size P Q C v1 v2 v3 w')∧Below w.heap.size w w')) :
    Calls Tryz.prog 73 #[.pointer (some ⟨b,0,none⟩),.agg #[.int .i64 (s:Int),.int .i64 (t:Int)],.pointer (some ⟨rb,0,none⟩)] W fun e w'=>e=.returned (.bool (C.contains t))∧w'.heap[rb]?=some (.cells #[.int .i64 ((m+(lookN C t+1):Nat):Int)] 3 (0,0))∧Below V.heap.size V w':=by
  have HB:Hid (Below V.heap.size V W):=hb
  have HR:Hid (W.heap[rb]?=some (.cells #[.int .i64 (m:Int)] 3 (0,0))):=hrb
  obtain ⟨r0,rf,rl⟩:=rw1 hrb
  have hW0:=hb.size
  clear hb hrb
  obtain ⟨B0,hB0⟩:∃ B0,C.contains t=B0:=⟨_,rfl⟩
  obtain ⟨L0,hL0⟩:∃ L0,lookN C t=L0:=⟨_,rfl⟩
  have HB0:Hid (C.contains t=B0):=hB0
  have HL0:Hid (lookN C t=L0):=hL0
  rw [hB0,hL0]
  clear hB0 hL0
  have hne:((s:Int) == (t:Int))=false:=by rw [← Bool.not_eq_true,beq_iff_eq];omega
  have hne2:¬ (s:Int)=(t:Int):=by omega
  go_enter Tryz.func73,Tryz.ntmps73
  go_upto_region 7 with (first
    | (go_at_call 21;refine (HIF.out _ (HB.out.alloc HB.out.size _)).mono ?_;rintro e w1 ⟨rfl,hb⟩;have eed:=kp2 (n:=W.heap.size) hb (by first|omega|(simp;try omega)) (halloc1 _ _);(try clear eeB ee0 ee1 eef eeL eeN);obtain ⟨eeB,ee0,ee1,eef,eeL,eeN⟩:=eed;have rrd:=kp1 (n:=rb) hb (by first|omega|(simp;try omega)) (hkeep HR.out);(try clear rrB rr0 rrf rrL rrN);obtain ⟨rrB,rr0,rrf,rrL,rrN⟩:=rrd;have B1:Hid (Below V.heap.size V w1):=bstep (HB.out.alloc HB.out.size _) hb;clear hb HIF))
  go_region_law (first
    | (refine stp2 rfl 82 callDof (.tmp 42) (.tmp 44) 26 3 rfl (.pointer (some ⟨b,0,none⟩)) (.int .i64 (s:Int)) (by simp [Act.eval]) (by simp [Act.eval]) (HDO.out _ B1.out.drew) ?_;rintro e w3 ⟨⟨v1,v2,v3,rfl,ho⟩,hb⟩;refine ⟨_,rfl,?_⟩;obtain ⟨a1,c1,rfl⟩:=ownv ho.rows.1;obtain ⟨a2,c2,rfl⟩:=ownv ho.rows.2.1;obtain ⟨a3,c3,rfl⟩:=ownv ho.rows.2.2;have O3:Hid (DspA w1.heap.size P Q C (.slice a1 P.length c1) (.slice a2 Q.length c2) (.slice a3 C.length c3) w3):=ho;have RL:Hid (rb<w1.heap.size):=rrL;have hb2:Below w1.heap.size w1 w3:=(Below.refl _ _).drew.trans hb;have eed:=kp2 (n:=W.heap.size) hb2 (by first|omega|(simp;try omega)) (eeB.out);(try clear eeB ee0 ee1 eef eeL eeN);obtain ⟨eeB,ee0,ee1,eef,eeL,eeN⟩:=eed;have rrd:=kp1 (n:=rb) hb2 (by first|omega|(simp;try omega)) (rrB.out);(try clear rrB rr0 rrf rrL rrN);obtain ⟨rrB,rr0,rrf,rrL,rrN⟩:=rrd;have B3:Hid (Below V.heap.size V w3):=bstep B1.out hb2;clear hb hb2 ho)
    | (refine step_call3 rfl 115 callSse (.tmp 45) (.tmp 47) (.tmp 48) 47 3 114 rfl (.agg #[.slice a1 P.length c1,.slice a2 Q.length c2,.slice a3 C.length c3]) (.int .i64 (t:Int)) (.pointer (some ⟨rb,0,none⟩)) (by simp [Act.eval]) (by simp [Act.eval]) (by simp [Act.eval]) (sse_c V w3 rb _ m t C _ a1 a2 P.length c1 Q.length c2 B3.out hr rrB.out RL.out O3.out.rows.2.2 hm hC) ?_;rintro e w4 ⟨he,hk,hb⟩;rw [HB0.out] at he;subst he;rw [HL0.out] at hk;refine ⟨_,rfl,?_⟩;have R4:Hid (w4.heap[rb]?=some (.cells #[.int .i64 ((m+(L0+1):Nat):Int)] 3 (0,0))):=hk;have B4:Hid (Below V.heap.size V w4):=hb;clear hb hk))
  all_goals go_wp2
  all_goals exact bodyPost_ret (results_tmp rfl _ _ _) rfl ⟨rfl,R4.out,B4.out⟩
theorem icb_c {b:Nat} {ps:List Plc} {V W:World} (h:WAt b ps V) (hW:WI ps) (rb m s t:Nat) (q r:Plc) (hs:ps[s]?=some q) (ht:ps[t]?=some r) (hb:Below V.heap.size V W) (hr:V.heap.size≤rb) (hrb:W.heap[rb]?=some (.cells #[.int .i64 (m:Int)] 3 (0,0))) (hm:m≤1000000) :
    Calls Tryz.prog 73 #[.pointer (some ⟨b,0,none⟩),.agg #[.int .i64 (s:Int),.int .i64 (t:Int)],.pointer (some ⟨rb,0,none⟩)] W fun e w'=>e=.returned (.bool (extI ps (s:Int) (t:Int)))∧w'.heap[rb]?=some (.cells #[.int .i64 ((m+rdN ps s t:Nat):Int)] 3 (0,0))∧Below V.heap.size V w':=by
  have hsl:=(List.getElem?_eq_some_iff.1 hs).1
  have hdl:=dn_le hW hsl
  have htl:=dn_le hW (List.getElem?_eq_some_iff.1 ht).1
  have HDO:∀ w,Below V.heap.size V w→Calls Tryz.prog 82 #[.pointer (some ⟨b,0,none⟩),.int .i64 (s:Int)] w fun e w'=>(∃ v1 v2 v3,e=.returned (.agg #[v1,v2,v3])∧DspA w.heap.size ((dnL ps s).take 8) ((dnL ps s).drop 8) q.cl v1 v2 v3 w')∧Below w.heap.size w w':=fun w hb=>dof_c (h.below hb) hW s q hs
  have HIF:∀ w,Below V.heap.size V w→Calls Tryz.prog 21 #[.pointer (some ⟨b,0,none⟩),.int .i64 (t:Int)] w fun e w'=>(e=.returned (.bool (ifcI ps (t:Int))))∧Below w.heap.size w w':=fun w hb=>isIface_c (h.below hb) _
  cases hf:ifcI ps (t:Int) with
  | false =>
    rw [hf] at HIF
    have e1:rdN ps s t=1:=by rw [rdN,hf];rfl
    have e2:=ext_class hW hs ht hf
    rw [dn_len] at htl
    rw [e1,e2]
    have:=icb_1 V W b rb m s t hb hr hrb hm ((chL (ps.map nd) t).length - 1) ((dnL ps s).take 8) ((dnL ps s).drop 8) q.cl (by omega) (by rw [List.length_take];omega) (by rw [List.length_drop];omega) HIF (fun w hb=>?_) HDO
    · rw [List.take_append_drop] at this
      exact this
    · have hd:=depth_r (h.below hb) hW (t:Int)
      rw [dpI,plcI_nat,ht] at hd
      simp only [Int.toNat_natCast] at hd
      rw [show (((chL (ps.map nd) t).length - 1:Nat):Int)=((chL (ps.map nd) t).length:Int) - 1 by have:=ch_pos (ns:=ps.map nd) t;omega]
      exact hd
  | true =>
    rw [hf] at HIF
    by_cases hst:s=t
    · have e1:rdN ps s t=1:=by rw [rdN,hf,if_pos rfl,if_pos hst]
      rw [e1]
      have e2:extI ps (s:Int) (t:Int)=true:=by rw [← hst];exact ext_own hs
      rw [e2]
      exact icb_2 V W b rb m s t hb hr hrb hm hst HIF
    · have e1:rdN ps s t=lookN q.cl t+1:=by rw [rdN,hf,if_pos rfl,if_neg hst,cl_at hs]
      rw [e1,ext_iface hW hs ht hf hst]
      have:=cl_len hW hs
      exact icb_3 V W b rb m s t hb hr hrb hm _ _ q.cl (by omega) hst HIF HDO
theorem dset2 {w:World} {n:Nat} {t:TypeId} {a0 a1:Value} (h:w.heap[n]?=some (.cells #[a0,a1] t (0,0))) (v:Value):(w.setCell ⟨n,0,none⟩ v).heap[n]?=some (.cells #[v,a1] t (0,0))∧(w.setCell ⟨n,1,none⟩ v).heap[n]?=some (.cells #[a0,v] t (0,0)) :=
  ⟨(Go.Joins.block_setCell (i:=0) h v).trans (by simp),(Go.Joins.block_setCell (i:=1) h v).trans (by simp)⟩
theorem dset4 {w:World} {n:Nat} {t:TypeId} {a0 a1 a2 a3:Value} (h:w.heap[n]?=some (.cells #[a0,a1,a2,a3] t (0,0))) (v:Value):(w.setCell ⟨n,0,none⟩ v).heap[n]?=some (.cells #[v,a1,a2,a3] t (0,0))∧(w.setCell ⟨n,2,none⟩ v).heap[n]?=some (.cells #[a0,a1,v,a3] t (0,0)) :=
  ⟨(Go.Joins.block_setCell (i:=0) h v).trans (by simp),(Go.Joins.block_setCell (i:=2) h v).trans (by simp)⟩
theorem keepS {w:World} {n m i:Nat} {v:Value} {o:Option Obj} (hn:¬ n=m) (h:w.heap[n]?=o):(w.setCell ⟨m,i,none⟩ v).heap[n]?=o:=(Below.heap_setCell _ _ _ _ hn).trans h
set_option maxHeartbeats 4000000 in
theorem low_c (d1 d2 c:Nat) (s t:ByteArray) (hc:min d1 d2=c) (h1:d1≤255) (h2:d2≤255) (W:World):Calls Tryz.prog 120 #[.agg #[.int .i64 (d1:Int),.string s,.int .i64 (d2:Int),.string t]] W fun e w'=>e=.returned (.agg #[.int .i64 ((d1:Int) - (c:Int)),.string s,.int .i64 ((d2:Int) - (c:Int)),.string t])∧Below W.heap.size W w':=by
  have hmin:min (d1:Int) (d2:Int)=(c:Int):=by omega
  have hc1:c≤d1:=by omega
  have hc2:c≤d2:=by omega
  clear hc
  go_enter Tryz.func120,Tryz.ntmps120
  go_wp2
  go_loopw [12] (fun kv wr=>((kv=.int .i64 0∧Hid (wr.heap[W.heap.size]?=some (.cells #[.int .i64 (d1:Int),.string s,.int .i64 (d2:Int),.string t] 128 (0,0))))∨(kv=.int .i64 1∧Hid (wr.heap[W.heap.size]?=some (.cells #[.int .i64 ((d1:Int) - (c:Int)),.string s,.int .i64 (d2:Int),.string t] 128 (0,0))))∨(kv=.int .i64 2∧Hid (wr.heap[W.heap.size]?=some (.cells #[.int .i64 ((d1:Int) - (c:Int)),.string s,.int .i64 ((d2:Int) - (c:Int)),.string t] 128 (0,0)))))∧Hid (Below W.heap.size W wr)∧Hid (wr.heap[W.heap.size+1]?=some (.cells #[.int .i64 0,.string ⟨#[]⟩,.int .i64 0,.string ⟨#[]⟩] 128 (0,0)))) (fun kv _=>2 - (intOf kv).toNat)
  case atStart=>exact ⟨.inl ⟨rfl,hkeep (halloc1 _ _)⟩,((Below.refl _ _).alloc (Nat.le_refl _) _).alloc (by simp) _,halloc2 _ _ (by simp)⟩
  case round =>
    obtain ⟨hk,hB,rrB⟩:=hrel
    obtain ⟨rr0,rr1,rr2,rr3,rrf,rrL⟩:=rw4 rrB.out
    have rrN:¬ W.heap.size+1=W.heap.size:=by omega
    have rrN2:¬ W.heap.size=W.heap.size+1:=by omega
    rcases hk with ⟨rfl,eeB⟩|⟨rfl,eeB⟩|⟨rfl,eeB⟩
    · obtain ⟨ee0,ee1,ee2,ee3,eef,eeL⟩:=rw4 eeB.out
      go_wp2
      exact ⟨⟨.inr (.inl ⟨rfl,(dset4 eeB.out _).1⟩),hB.out.setCell (Nat.le_refl _) _,keepS rrN rrB.out⟩,by simp [intOf]⟩
    · obtain ⟨ee0,ee1,ee2,ee3,eef,eeL⟩:=rw4 eeB.out
      go_wp2
      exact ⟨⟨.inr (.inr ⟨rfl,(dset4 eeB.out _).2⟩),hB.out.setCell (Nat.le_refl _) _,keepS rrN rrB.out⟩,by simp [intOf]⟩
    · obtain ⟨ee0,ee1,ee2,ee3,eef,eeL⟩:=rw4 eeB.out
      go_wp2
      exact bodyPost_ret (v:=.agg #[.int .i64 ((d1:Int) - (c:Int)),.string s,.int .i64 ((d2:Int) - (c:Int)),.string t]) (by simp [results,Tryz.results120,go_sem, *]) rfl ⟨rfl,(((hB.out.setCell (Nat.le_succ _) _).setCell (Nat.le_succ _) _).setCell (Nat.le_succ _) _).setCell (Nat.le_succ _) _⟩
set_option maxHeartbeats 4000000 in
theorem ict_c (d:Int) (s:ByteArray) (W:World):Calls Tryz.prog 121 #[.agg #[.int .i64 d,.string s]] W fun e w'=>e=.returned (.bool (decide (d=0)&&!s.toList.isEmpty))∧Below W.heap.size W w':=by
  by_cases h0:d=0
  · subst h0
    cases he:s.toList.isEmpty
    all_goals
      go_enter Tryz.func121,Tryz.ntmps121
      go_wp2
      go_ret
      exact ⟨by first|rfl|simp_all,(by repeat (first|exact Below.refl _ _|refine Below.setCell ?_ (by simp;try omega) _|refine Below.alloc ?_ (by simp;try omega) _|refine Below.drew ?_))⟩
  · have e:(decide (d=0)&&!s.toList.isEmpty)=false:=by simp [h0]
    rw [e]
    go_enter Tryz.func121,Tryz.ntmps121
    go_wp2
    go_ret
    exact ⟨rfl,(by repeat (first|exact Below.refl _ _|refine Below.setCell ?_ (by simp;try omega) _|refine Below.alloc ?_ (by simp;try omega) _|refine Below.drew ?_))⟩
theorem idxT_0 (x y:Int) (s t:ByteArray) (w:World):(Instr.index 128 (.agg #[.int .i64 x,.string s,.int .i64 y,.string t]) (.int .i64 0)).run Tryz.prog w=.ok (.agg #[.int .i64 x,.string s]) w:=by
  simp [Instr.index,run_underlying Tryz.underlying128,go_sem,part]
theorem idxT_1 (x y:Int) (s t:ByteArray) (w:World):(Instr.index 128 (.agg #[.int .i64 x,.string s,.int .i64 y,.string t]) (.int .i64 1)).run Tryz.prog w=.ok (.agg #[.int .i64 y,.string t]) w:=by
  simp [Instr.index,run_underlying Tryz.underlying128,go_sem,part]
theorem bl4 {w:World} {n:Nat} {t:TypeId} {a0 a1 a2 a3:Value} (h:w.heap[n]?=some (.cells #[a0,a1,a2,a3] t (0,0))) (b0 b1 b2 b3:Value):((((w.setCell ⟨n,0,none⟩ b0).setCell ⟨n,1,none⟩ b1).setCell ⟨n,2,none⟩ b2).setCell ⟨n,3,none⟩ b3).heap[n]?=some (.cells #[b0,b1,b2,b3] t (0,0)):=by
  have h0:=(Go.Joins.block_setCell (i:=0) h b0).trans (by simp:_=some (.cells #[b0,a1,a2,a3] t (0,0)))
  have h1:=(Go.Joins.block_setCell (i:=1) h0 b1).trans (by simp:_=some (.cells #[b0,b1,a2,a3] t (0,0)))
  have h2:=(Go.Joins.block_setCell (i:=2) h1 b2).trans (by simp:_=some (.cells #[b0,b1,b2,a3] t (0,0)))
  exact (Go.Joins.block_setCell (i:=3) h2 b3).trans (by simp)
set_option maxHeartbeats 4000000 in
theorem itb_1 (V W:World) (b rb m:Nat) (x y X Y:Int) (s t:ByteArray) (hb:Below V.heap.size V W) (hr:V.heap.size≤rb) (hrb:W.heap[rb]?=some (.cells #[.int .i64 (m:Int)] 3 (0,0))) (hm:m≤1000000) (HLW:Hid (∀ w,Calls Tryz.prog 120 #[.agg #[.int .i64 x,.string s,.int .i64 y,.string t]] w fun e w'=>e=.returned (.agg #[.int .i64 X,.string s,.int .i64 Y,.string t])∧Below w.heap.size w w')) (R:Bool) (HIC1:Hid (∀ z u w,z=X→u=s→Calls Tryz.prog 121 #[.agg #[.int .i64 z,.string u]] w fun e w'=>e=.returned (.bool false)∧Below w.heap.size w w')) (HSB:Hid (∀ w,Below V.heap.size V w→Calls Tryz.prog 23 #[.pointer (some ⟨b,0,none⟩),.agg #[.int .i64 X,.string s],.agg #[.int .i64 Y,.string t]] w fun e w'=>e=.returned (.tuple #[.bool R,.int .i64 0])∧Below w.heap.size w w')) :
    Calls Tryz.prog 80 #[.pointer (some ⟨b,0,none⟩),.agg #[.int .i64 x,.string s,.int .i64 y,.string t],.pointer (some ⟨rb,0,none⟩)] W fun e w'=>e=.returned (.bool R)∧w'.heap[rb]?=some (.cells #[.int .i64 ((m+1:Nat):Int)] 3 (0,0))∧Below V.heap.size V w':=by
  have HB:Hid (Below V.heap.size V W):=hb
  have HR:Hid (W.heap[rb]?=some (.cells #[.int .i64 (m:Int)] 3 (0,0))):=hrb
  obtain ⟨r0,rf,rl⟩:=rw1 hrb
  have hW0:=hb.size
  have rbW:¬ rb=W.heap.size:=by omega
  have Wrb:¬ W.heap.size=rb:=by omega
  clear hb hrb
  have IX0:=idxT_0 X Y s t
  have IX1:=idxT_1 X Y s t
  go_enter Tryz.func80,Tryz.ntmps80
  go_upto_region 2 with (go_at_call 120;refine (HLW.out _).mono ?_;rintro e w1 ⟨rfl,hb⟩;have eed:=kp4 (n:=W.heap.size) hb (by first|omega|(simp;try omega)) (halloc1 _ _);(try clear eeB ee0 ee1 ee2 ee3 eef eeL eeN);obtain ⟨eeB,ee0,ee1,ee2,ee3,eef,eeL,eeN⟩:=eed;have rrd:=kp1 (n:=rb) hb (by first|omega|(simp;try omega)) (hkeep HR.out);(try clear rrB rr0 rrf rrL rrN);obtain ⟨rrB,rr0,rrf,rrL,rrN⟩:=rrd;have B1:Hid (Below V.heap.size V w1):=bstep (HB.out.alloc HB.out.size _) hb;clear hb HLW)
  have B2:Hid (Below V.heap.size V ((((w1.setCell ⟨W.heap.size,0,none⟩ (.int .i64 X)).setCell ⟨W.heap.size,1,none⟩ (.string s)).setCell ⟨W.heap.size,2,none⟩ (.int .i64 Y)).setCell ⟨W.heap.size,3,none⟩ (.string t))):=(((B1.out.setCell hW0 _).setCell hW0 _).setCell hW0 _).setCell hW0 _
  have E2:Hid (((((w1.setCell ⟨W.heap.size,0,none⟩ (.int .i64 X)).setCell ⟨W.heap.size,1,none⟩ (.string s)).setCell ⟨W.heap.size,2,none⟩ (.int .i64 Y)).setCell ⟨W.heap.size,3,none⟩ (.string t)).heap[W.heap.size]?=some (.cells #[.int .i64 X,.string s,.int .i64 Y,.string t] 128 (0,0))):=bl4 eeB.out _ _ _ _
  have R2:Hid (((((w1.setCell ⟨W.heap.size,0,none⟩ (.int .i64 X)).setCell ⟨W.heap.size,1,none⟩ (.string s)).setCell ⟨W.heap.size,2,none⟩ (.int .i64 Y)).setCell ⟨W.heap.size,3,none⟩ (.string t)).heap[rb]?=some (.cells #[.int .i64 (m:Int)] 3 (0,0))):=keepS rbW (keepS rbW (keepS rbW (keepS rbW rrB.out)))
  generalize ((((w1.setCell ⟨W.heap.size,0,none⟩ (.int .i64 X)).setCell ⟨W.heap.size,1,none⟩ (.string s)).setCell ⟨W.heap.size,2,none⟩ (.int .i64 Y)).setCell ⟨W.heap.size,3,none⟩ (.string t))=U at *
  (try clear eeB ee0 ee1 ee2 ee3 eef eeL eeN rrB rr0 rrf rrL rrN)
  have eeB:=E2
  have rrB:=R2
  obtain ⟨ee0,ee1,ee2,ee3,eef,eeL⟩:=rw4 eeB.out
  obtain ⟨rr0,rrf,rrL⟩:=rw1 rrB.out
  have eeN:¬ W.heap.size=U.heap.size:=by omega
  have rrN:¬ rb=U.heap.size:=by omega
  clear E2 R2 B1
  go_wp2_with (first
    | (go_at_call 121;refine (HIC1.out _ _ _ (by rfl) (by rfl)).mono ?_;rintro e w3 ⟨rfl,hb⟩;have eed:=kp4 (n:=W.heap.size) hb (by first|omega|(simp;try omega)) (eeB.out);(try clear eeB ee0 ee1 ee2 ee3 eef eeL eeN);obtain ⟨eeB,ee0,ee1,ee2,ee3,eef,eeL,eeN⟩:=eed;have rrd:=kp1 (n:=rb) hb (by first|omega|(simp;try omega)) (rrB.out);(try clear rrB rr0 rrf rrL rrN);obtain ⟨rrB,rr0,rrf,rrL,rrN⟩:=rrd;have B3:Hid (Below V.heap.size V w3):=bstep B2.out hb;clear hb HIC1)
    | (go_at_call 23;refine (HSB.out _ (B3.out.setCell (p:=⟨rb,0,none⟩) hr _)).mono ?_;rintro e w5 ⟨rfl,hb⟩;have R5:Hid (w5.heap[rb]?=some (.cells #[.int .i64 ((m:Int)+1)] 3 (0,0))):=(hb.block rb (by simp;omega)).trans (st1 rrB.out _);have B5:Hid (Below V.heap.size V w5):=bstep (B3.out.setCell (p:=⟨rb,0,none⟩) hr _) hb;clear hb HSB))
  exact bodyPost_ret (results_tmp rfl _ _ _) rfl ⟨rfl,R5.out,B5.out⟩
set_option maxHeartbeats 4000000 in
theorem itb_2 (V W:World) (b rb m:Nat) (x y X Y:Int) (s t:ByteArray) (hb:Below V.heap.size V W) (hr:V.heap.size≤rb) (hrb:W.heap[rb]?=some (.cells #[.int .i64 (m:Int)] 3 (0,0))) (hm:m≤1000000) (HLW:Hid (∀ w,Calls Tryz.prog 120 #[.agg #[.int .i64 x,.string s,.int .i64 y,.string t]] w fun e w'=>e=.returned (.agg #[.int .i64 X,.string s,.int .i64 Y,.string t])∧Below w.heap.size w w')) (R:Bool) (HIC1:Hid (∀ z u w,z=X→u=s→Calls Tryz.prog 121 #[.agg #[.int .i64 z,.string u]] w fun e w'=>e=.returned (.bool true)∧Below w.heap.size w w')) (HIC2:Hid (∀ z u w,z=Y→u=t→Calls Tryz.prog 121 #[.agg #[.int .i64 z,.string u]] w fun e w'=>e=.returned (.bool false)∧Below w.heap.size w w')) (HSB:Hid (∀ w,Below V.heap.size V w→Calls Tryz.prog 23 #[.pointer (some ⟨b,0,none⟩),.agg #[.int .i64 X,.string s],.agg #[.int .i64 Y,.string t]] w fun e w'=>e=.returned (.tuple #[.bool R,.int .i64 0])∧Below w.heap.size w w')) :
    Calls Tryz.prog 80 #[.pointer (some ⟨b,0,none⟩),.agg #[.int .i64 x,.string s,.int .i64 y,.string t],.pointer (some ⟨rb,0,none⟩)] W fun e w'=>e=.returned (.bool R)∧w'.heap[rb]?=some (.cells #[.int .i64 ((m+1:Nat):Int)] 3 (0,0))∧Below V.heap.size V w':=by
  have HB:Hid (Below V.heap.size V W):=hb
  have HR:Hid (W.heap[rb]?=some (.cells #[.int .i64 (m:Int)] 3 (0,0))):=hrb
  obtain ⟨r0,rf,rl⟩:=rw1 hrb
  have hW0:=hb.size
  have rbW:¬ rb=W.heap.size:=by omega
  have Wrb:¬ W.heap.size=rb:=by omega
  clear hb hrb
  have IX0:=idxT_0 X Y s t
  have IX1:=idxT_1 X Y s t
  go_enter Tryz.func80,Tryz.ntmps80
  go_upto_region 2 with (go_at_call 120;refine (HLW.out _).mono ?_;rintro e w1 ⟨rfl,hb⟩;have eed:=kp4 (n:=W.heap.size) hb (by first|omega|(simp;try omega)) (halloc1 _ _);(try clear eeB ee0 ee1 ee2 ee3 eef eeL eeN);obtain ⟨eeB,ee0,ee1,ee2,ee3,eef,eeL,eeN⟩:=eed;have rrd:=kp1 (n:=rb) hb (by first|omega|(simp;try omega)) (hkeep HR.out);(try clear rrB rr0 rrf rrL rrN);obtain ⟨rrB,rr0,rrf,rrL,rrN⟩:=rrd;have B1:Hid (Below V.heap.size V w1):=bstep (HB.out.alloc HB.out.size _) hb;clear hb HLW)
  have B2:Hid (Below V.heap.size V ((((w1.setCell ⟨W.heap.size,0,none⟩ (.int .i64 X)).setCell ⟨W.heap.size,1,none⟩ (.string s)).setCell ⟨W.heap.size,2,none⟩ (.int .i64 Y)).setCell ⟨W.heap.size,3,none⟩ (.string t))):=(((B1.out.setCell hW0 _).setCell hW0 _).setCell hW0 _).setCell hW0 _
  have E2:Hid (((((w1.setCell ⟨W.heap.size,0,none⟩ (.int .i64 X)).setCell ⟨W.heap.size,1,none⟩ (.string s)).setCell ⟨W.heap.size,2,none⟩ (.int .i64 Y)).setCell ⟨W.heap.size,3,none⟩ (.string t)).heap[W.heap.size]?=some (.cells #[.int .i64 X,.string s,.int .i64 Y,.string t] 128 (0,0))):=bl4 eeB.out _ _ _ _
  have R2:Hid (((((w1.setCell ⟨W.heap.size,0,none⟩ (.int .i64 X)).setCell ⟨W.heap.size,1,none⟩ (.string s)).setCell ⟨W.heap.size,2,none⟩ (.int .i64 Y)).setCell ⟨W.heap.size,3,none⟩ (.string t)).heap[rb]?=some (.cells #[.int .i64 (m:Int)] 3 (0,0))):=keepS rbW (keepS rbW (keepS rbW (keepS rbW rrB.out)))
  generalize ((((w1.setCell ⟨W.heap.size,0,none⟩ (.int .i64 X)).setCell ⟨W.heap.size,1,none⟩ (.string s)).setCell ⟨W.heap.size,2,none⟩ (.int .i64 Y)).setCell ⟨W.heap.size,3,none⟩ (.string t))=U at *
  (try clear eeB ee0 ee1 ee2 ee3 eef eeL eeN rrB rr0 rrf rrL rrN)
  have eeB:=E2
  have rrB:=R2
  obtain ⟨ee0,ee1,ee2,ee3,eef,eeL⟩:=rw4 eeB.out
  obtain ⟨rr0,rrf,rrL⟩:=rw1 rrB.out
  have eeN:¬ W.heap.size=U.heap.size:=by omega
  have rrN:¬ rb=U.heap.size:=by omega
  clear E2 R2 B1
  go_wp2_with (first
    | (go_at_call 121;refine (HIC1.out _ _ _ (by rfl) (by rfl)).mono ?_;rintro e w3 ⟨rfl,hb⟩;have eed:=kp4 (n:=W.heap.size) hb (by first|omega|(simp;try omega)) (eeB.out);(try clear eeB ee0 ee1 ee2 ee3 eef eeL eeN);obtain ⟨eeB,ee0,ee1,ee2,ee3,eef,eeL,eeN⟩:=eed;have rrd:=kp1 (n:=rb) hb (by first|omega|(simp;try omega)) (rrB.out);(try clear rrB rr0 rrf rrL rrN);obtain ⟨rrB,rr0,rrf,rrL,rrN⟩:=rrd;have B3:Hid (Below V.heap.size V w3):=bstep B2.out hb;clear hb HIC1)
    | (go_at_call 121;refine (HIC2.out _ _ _ (by rfl) (by rfl)).mono ?_;rintro e w4 ⟨rfl,hb⟩;have eed:=kp4 (n:=W.heap.size) hb (by first|omega|(simp;try omega)) (eeB.out);(try clear eeB ee0 ee1 ee2 ee3 eef eeL eeN);obtain ⟨eeB,ee0,ee1,ee2,ee3,eef,eeL,eeN⟩:=eed;have rrd:=kp1 (n:=rb) hb (by first|omega|(simp;try omega)) (rrB.out);(try clear rrB rr0 rrf rrL rrN);obtain ⟨rrB,rr0,rrf,rrL,rrN⟩:=rrd;have B4:Hid (Below V.heap.size V w4):=bstep B3.out hb;clear hb HIC2)
    | (go_at_call 23;refine (HSB.out _ (B4.out.setCell (p:=⟨rb,0,none⟩) hr _)).mono ?_;rintro e w5 ⟨rfl,hb⟩;have R5:Hid (w5.heap[rb]?=some (.cells #[.int .i64 ((m:Int)+1)] 3 (0,0))):=(hb.block rb (by simp;omega)).trans (st1 rrB.out _);have B5:Hid (Below V.heap.size V w5):=bstep (B4.out.setCell (p:=⟨rb,0,none⟩) hr _) hb;clear hb HSB))
  exact bodyPost_ret (results_tmp rfl _ _ _) rfl ⟨rfl,R5.out,B5.out⟩
set_option maxHeartbeats 4000000 in
theorem itb_3 (V W:World) (b rb m:Nat) (x y X Y:Int) (s t:ByteArray) (hb:Below V.heap.size V W) (hrb:W.heap[rb]?=some (.cells #[.int .i64 (m:Int)] 3 (0,0))) (HLW:Hid (∀ w,Calls Tryz.prog 120 #[.agg #[.int .i64 x,.string s,.int .i64 y,.string t]] w fun e w'=>e=.returned (.agg #[.int .i64 X,.string s,.int .i64 Y,.string t])∧Below w.heap.size w w')) (R:Bool) (n a d:Nat) (HIC1:Hid (∀ z u w,z=X→u=s→Calls Tryz.prog 121 #[.agg #[.int .i64 z,.string u]] w fun e w'=>e=.returned (.bool true)∧Below w.heap.size w w')) (HIC2:Hid (∀ z u w,z=Y→u=t→Calls Tryz.prog 121 #[.agg #[.int .i64 z,.string u]] w fun e w'=>e=.returned (.bool true)∧Below w.heap.size w w')) (HN1:Hid (∀ w,Below V.heap.size V w→Calls Tryz.prog 56 #[.pointer (some ⟨b,0,none⟩),.string s] w fun e w'=>e=.returned (.tuple #[.int .i64 (a:Int),.int .i64 0])∧Below w.heap.size w w')) (HN2:Hid (∀ w,Below V.heap.size V w→Calls Tryz.prog 56 #[.pointer (some ⟨b,0,none⟩),.string t] w fun e w'=>e=.returned (.tuple #[.int .i64 (d:Int),.int .i64 0])∧Below w.heap.size w w')) (HIB:Hid (∀ w,Below V.heap.size V w→w.heap[rb]?=some (.cells #[.int .i64 (m:Int)] 3 (0,0))→Calls Tryz.prog 73 #[.pointer (some ⟨b,0,none⟩),.agg #[.int .i64 (a:Int),.int .i64 (d:Int)],.pointer (some ⟨rb,0,none⟩)] w fun e w'=>e=.returned (.bool R)∧w'.heap[rb]?=some (.cells #[.int .i64 ((m+n:Nat):Int)] 3 (0,0))∧Below V.heap.size V w')) :
    Calls Tryz.prog 80 #[.pointer (some ⟨b,0,none⟩),.agg #[.int .i64 x,.string s,.int .i64 y,.string t],.pointer (some ⟨rb,0,none⟩)] W fun e w'=>e=.returned (.bool R)∧w'.heap[rb]?=some (.cells #[.int .i64 ((m+n:Nat):Int)] 3 (0,0))∧Below V.heap.size V w':=by
  have HB:Hid (Below V.heap.size V W):=hb
  have HR:Hid (W.heap[rb]?=some (.cells #[.int .i64 (m:Int)] 3 (0,0))):=hrb
  obtain ⟨r0,rf,rl⟩:=rw1 hrb
  have hW0:=hb.size
  have rbW:¬ rb=W.heap.size:=by omega
  have Wrb:¬ W.heap.size=rb:=by omega
  clear hb hrb
  have IX0:=idxT_0 X Y s t
  have IX1:=idxT_1 X Y s t
  go_enter Tryz.func80,Tryz.ntmps80
  go_upto_region 2 with (go_at_call 120;refine (HLW.out _).mono ?_;rintro e w1 ⟨rfl,hb⟩;have eed:=kp4 (n:=W.heap.size) hb (by first|omega|(simp;try omega)) (halloc1 _ _);(try clear eeB ee0 ee1 ee2 ee3 eef eeL eeN);obtain ⟨eeB,ee0,ee1,ee2,ee3,eef,eeL,eeN⟩:=eed;have rrd:=kp1 (n:=rb) hb (by first|omega|(simp;try omega)) (hkeep HR.out);(try clear rrB rr0 rrf rrL rrN);obtain ⟨rrB,rr0,rrf,rrL,rrN⟩:=rrd;have B1:Hid (Below V.heap.size V w1):=bstep (HB.out.alloc HB.out.size _) hb;clear hb HLW)
  have B2:Hid (Below V.heap.size V ((((w1.setCell ⟨W.heap.size,0,none⟩ (.int .i64 X)).setCell ⟨W.heap.size,1,none⟩ (.string s)).setCell ⟨W.heap.size,2,none⟩ (.int .i64 Y)).setCell ⟨W.heap.size,3,none⟩ (.string t))):=(((B1.out.setCell hW0 _).setCell hW0 _).setCell hW0 _).setCell hW0 _
  have E2:Hid (((((w1.setCell ⟨W.heap.size,0,none⟩ (.int .i64 X)).setCell ⟨W.heap.size,1,none⟩ (.string s)).setCell ⟨W.heap.size,2,none⟩ (.int .i64 Y)).setCell ⟨W.heap.size,3,none⟩ (.string t)).heap[W.heap.size]?=some (.cells #[.int .i64 X,.string s,.int .i64 Y,.string t] 128 (0,0))):=bl4 eeB.out _ _ _ _
  have R2:Hid (((((w1.setCell ⟨W.heap.size,0,none⟩ (.int .i64 X)).setCell ⟨W.heap.size,1,none⟩ (.string s)).setCell ⟨W.heap.size,2,none⟩ (.int .i64 Y)).setCell ⟨W.heap.size,3,none⟩ (.string t)).heap[rb]?=some (.cells #[.int .i64 (m:Int)] 3 (0,0))):=keepS rbW (keepS rbW (keepS rbW (keepS rbW rrB.out)))
  generalize ((((w1.setCell ⟨W.heap.size,0,none⟩ (.int .i64 X)).setCell ⟨W.heap.size,1,none⟩ (.string s)).setCell ⟨W.heap.size,2,none⟩ (.int .i64 Y)).setCell ⟨W.heap.size,3,none⟩ (.string t))=U at *
  (try clear eeB ee0 ee1 ee2 ee3 eef eeL eeN rrB rr0 rrf rrL rrN)
  have eeB:=E2
  have rrB:=R2
  obtain ⟨ee0,ee1,ee2,ee3,eef,eeL⟩:=rw4 eeB.out
  obtain ⟨rr0,rrf,rrL⟩:=rw1 rrB.out
  have eeN:¬ W.heap.size=U.heap.size:=by omega
  have rrN:¬ rb=U.heap.size:=by omega
  clear E2 R2 B1
  go_wp2_with (first
    | (go_at_call 121;refine (HIC1.out _ _ _ (by rfl) (by rfl)).mono ?_;rintro e w3 ⟨rfl,hb⟩;have eed:=kp4 (n:=W.heap.size) hb (by first|omega|(simp;try omega)) (eeB.out);(try clear eeB ee0 ee1 ee2 ee3 eef eeL eeN);obtain ⟨eeB,ee0,ee1,ee2,ee3,eef,eeL,eeN⟩:=eed;have rrd:=kp1 (n:=rb) hb (by first|omega|(simp;try omega)) (rrB.out);(try clear rrB rr0 rrf rrL rrN);obtain ⟨rrB,rr0,rrf,rrL,rrN⟩:=rrd;have B3:Hid (Below V.heap.size V w3):=bstep B2.out hb;clear hb HIC1)
    | (go_at_call 121;refine (HIC2.out _ _ _ (by rfl) (by rfl)).mono ?_;rintro e w4 ⟨rfl,hb⟩;have eed:=kp4 (n:=W.heap.size) hb (by first|omega|(simp;try omega)) (eeB.out);(try clear eeB ee0 ee1 ee2 ee3 eef eeL eeN);obtain ⟨eeB,ee0,ee1,ee2,ee3,eef,eeL,eeN⟩:=eed;have rrd:=kp1 (n:=rb) hb (by first|omega|(simp;try omega)) (rrB.out);(try clear rrB rr0 rrf rrL rrN);obtain ⟨rrB,rr0,rrf,rrL,rrN⟩:=rrd;have B4:Hid (Below V.heap.size V w4):=bstep B3.out hb;clear hb HIC2))
  have hw4:=B4.out.size
  have rbI:¬ rb=w4.heap.size:=by omega
  have Irb:¬ w4.heap.size=rb:=by omega
  go_loopw [23] (fun kv wr=>((kv=.int .i64 0∧Hid (wr.heap[w4.heap.size]?=some (.cells #[.int .i64 0,.int .i64 0] 111 (0,0))))∨(kv=.int .i64 1∧Hid (wr.heap[w4.heap.size]?=some (.cells #[.int .i64 (a:Int),.int .i64 0] 111 (0,0))))∨(kv=.int .i64 2∧Hid (wr.heap[w4.heap.size]?=some (.cells #[.int .i64 (a:Int),.int .i64 (d:Int)] 111 (0,0)))))∧Hid (Below V.heap.size V wr)∧Hid (wr.heap[rb]?=some (.cells #[.int .i64 (m:Int)] 3 (0,0)))) (fun kv _=>2 - (intOf kv).toNat)
  case atStart=>exact ⟨.inl ⟨rfl,halloc1 _ _⟩,B4.out.alloc B4.out.size _,hkeep rrB.out⟩
  case round =>
    clear eeB ee0 ee1 ee2 ee3 eef eeL eeN rrB rr0 rrf rrL rrN
    obtain ⟨hk,hB,rrB⟩:=hrel
    obtain ⟨rr0,rrf,rrL⟩:=rw1 rrB.out
    rcases hk with ⟨rfl,iiB⟩|⟨rfl,iiB⟩|⟨rfl,iiB⟩
    · obtain ⟨ii0,ii1,iif,iiL⟩:=rw2 iiB.out
      have iiN:¬ w4.heap.size=wr.heap.size:=by omega
      have rrN:¬ rb=wr.heap.size:=by omega
      go_wp2_with (go_at_call 56;refine (HN1.out _ (hB.out.alloc hB.out.size _)).mono ?_;rintro e w5 ⟨rfl,hb⟩;have iid:=kp2 (n:=w4.heap.size) hb (by first|omega|(simp;try omega)) (hkeep iiB.out);(try clear iiB ii0 ii1 iif iiL iiN);obtain ⟨iiB,ii0,ii1,iif,iiL,iiN⟩:=iid;have rrd:=kp1 (n:=rb) hb (by first|omega|(simp;try omega)) (hkeep rrB.out);(try clear rrB rr0 rrf rrL rrN);obtain ⟨rrB,rr0,rrf,rrL,rrN⟩:=rrd;have B5:Hid (Below V.heap.size V w5):=bstep (hB.out.alloc hB.out.size _) hb;clear hb)
      exact ⟨⟨.inr (.inl ⟨rfl,(dset2 iiB.out _).1⟩),B5.out.setCell hw4 _,keepS rbI rrB.out⟩,by simp [intOf]⟩
    · obtain ⟨ii0,ii1,iif,iiL⟩:=rw2 iiB.out
      have iiN:¬ w4.heap.size=wr.heap.size:=by omega
      have rrN:¬ rb=wr.heap.size:=by omega
      go_wp2_with (go_at_call 56;refine (HN2.out _ (hB.out.alloc hB.out.size _)).mono ?_;rintro e w5 ⟨rfl,hb⟩;have iid:=kp2 (n:=w4.heap.size) hb (by first|omega|(simp;try omega)) (hkeep iiB.out);(try clear iiB ii0 ii1 iif iiL iiN);obtain ⟨iiB,ii0,ii1,iif,iiL,iiN⟩:=iid;have rrd:=kp1 (n:=rb) hb (by first|omega|(simp;try omega)) (hkeep rrB.out);(try clear rrB rr0 rrf rrL rrN);obtain ⟨rrB,rr0,rrf,rrL,rrN⟩:=rrd;have B5:Hid (Below V.heap.size V w5):=bstep (hB.out.alloc hB.out.size _) hb;clear hb)
      exact ⟨⟨.inr (.inr ⟨rfl,(dset2 iiB.out _).2⟩),B5.out.setCell hw4 _,keepS rbI rrB.out⟩,by simp [intOf]⟩
    · obtain ⟨ii0,ii1,iif,iiL⟩:=rw2 iiB.out
      go_wp2_with (go_at_call 73;refine (HIB.out _ hB.out rrB.out).mono ?_;rintro e w6 ⟨rfl,hk,hb⟩;have R6:Hid (w6.heap[rb]?=some (.cells #[.int .i64 ((m+n:Nat):Int)] 3 (0,0))):=hk;have B6:Hid (Below V.heap.size V w6):=hb;clear hb hk HIB)
      exact bodyPost_ret (results_tmp rfl _ _ _) rfl ⟨rfl,R6.out,B6.out⟩
def rdT (ps:List Plc) (x:Int) (s:ByteArray) (y:Int) (t:ByteArray):Nat:=if x=y∧s.toList.isEmpty=false∧t.toList.isEmpty=false then match lookL ps s.data.toList,lookL ps t.data.toList with
    | some a,some d=>rdN ps a d
    | _,_=>1 else 1
theorem rdT_pos (ps:List Plc) (x:Int) (s:ByteArray) (y:Int) (t:ByteArray):1≤rdT ps x s y t:=by
  rw [rdT];split
  · split
    · exact rd_pos _ _ _
    · omega
  · omega
theorem ld_low {ps:List Plc} {x X:Int} {s:ByteArray} (h:ldI ps x s=0) (h0:0≤X) (h1:X≤x):ldI ps X s=0:=by
  obtain ⟨_,h2,_⟩:=ld_facts h
  unfold ldI at h ⊢
  have e:sndB X s.data.toList=sndB x s.data.toList:=by
    unfold sndB
    congr 1
    rw [decide_eq_true h0,decide_eq_true (show X≤255 by omega),decide_eq_true (show 0≤x by omega),decide_eq_true h2]
  rw [e];exact h
theorem itb_c {b:Nat} {ps:List Plc} {V W:World} (h:WAt b ps V) (hW:WI ps) (rb m:Nat) (x y:Int) (s t:ByteArray) (hs:s.size≤maxLen) (ht:t.size≤maxLen) (h1:ldI ps x s=0) (h2:ldI ps y t=0) (hb:Below V.heap.size V W) (hr:V.heap.size≤rb) (hrb:W.heap[rb]?=some (.cells #[.int .i64 (m:Int)] 3 (0,0))) (hm:m≤1000000) :
    Calls Tryz.prog 80 #[.pointer (some ⟨b,0,none⟩),.agg #[.int .i64 x,.string s,.int .i64 y,.string t],.pointer (some ⟨rb,0,none⟩)] W fun e w'=>e=.returned (.bool (subB ps x s y t))∧w'.heap[rb]?=some (.cells #[.int .i64 ((m+rdT ps x s y t:Nat):Int)] 3 (0,0))∧Below V.heap.size V w':=by
  obtain ⟨x0,x1,xk⟩:=ld_facts h1
  obtain ⟨y0,y1,yk⟩:=ld_facts h2
  obtain ⟨d1,rfl⟩:∃ d1:Nat,x=(d1:Int):=⟨x.toNat,by omega⟩
  obtain ⟨d2,rfl⟩:∃ d2:Nat,y=(d2:Int):=⟨y.toNat,by omega⟩
  obtain ⟨c,hc⟩:∃ c,min d1 d2=c:=⟨_,rfl⟩
  have HLW:=low_c d1 d2 c s t hc (by omega) (by omega)
  have HIC1:∀ z u w,z=(d1:Int) - (c:Int)→u=s→Calls Tryz.prog 121 #[.agg #[.int .i64 z,.string u]] w fun e w'=>e=.returned (.bool (decide ((d1:Int) - (c:Int)=0)&&!s.toList.isEmpty))∧Below w.heap.size w w':=fun z u w hz hu=>by rw [hz,hu];exact ict_c _ _ w
  have HIC2:∀ z u w,z=(d2:Int) - (c:Int)→u=t→Calls Tryz.prog 121 #[.agg #[.int .i64 z,.string u]] w fun e w'=>e=.returned (.bool (decide ((d2:Int) - (c:Int)=0)&&!t.toList.isEmpty))∧Below w.heap.size w w':=fun z u w hz hu=>by rw [hz,hu];exact ict_c _ _ w
  have HSB:∀ w,Below V.heap.size V w→Calls Tryz.prog 23 #[.pointer (some ⟨b,0,none⟩),.agg #[.int .i64 ((d1:Int) - (c:Int)),.string s],.agg #[.int .i64 ((d2:Int) - (c:Int)),.string t]] w fun e w'=>e=.returned (.tuple #[.bool (subB ps d1 s d2 t),.int .i64 0])∧Below w.heap.size w w':=fun w hb=>by
    have hq:=sub_c (h.below hb) hW ((d1:Int) - (c:Int)) s ((d2:Int) - (c:Int)) t hs ht
    rw [suI,if_pos (ld_low h1 (by omega) (by omega)),if_pos (ld_low h2 (by omega) (by omega))] at hq
    have e:subB ps ((d1:Int) - (c:Int)) s ((d2:Int) - (c:Int)) t=subB ps d1 s d2 t:=by
      unfold subB
      congr 1 <;> omega
    rw [e] at hq
    exact hq
  have hno:¬ ((d1:Int)=(d2:Int)∧s.toList.isEmpty=false∧t.toList.isEmpty=false)→rdT ps d1 s d2 t=1:=fun hn=>by rw [rdT,if_neg hn]
  cases e1:(decide ((d1:Int) - (c:Int)=0)&&!s.toList.isEmpty) with
  | false =>
    rw [e1] at HIC1
    have e0:rdT ps d1 s d2 t=1:=hno (fun hn=>by
      rw [hn.2.1,decide_eq_true (show (d1:Int) - (c:Int)=0 by omega)] at e1
      cases e1)
    rw [e0]
    exact itb_1 V W b rb m d1 d2 _ _ s t hb hr hrb hm HLW _ HIC1 HSB
  | true =>
    rw [e1] at HIC1
    cases e2:(decide ((d2:Int) - (c:Int)=0)&&!t.toList.isEmpty) with
    | false =>
      rw [e2] at HIC2
      have e0:rdT ps d1 s d2 t=1:=hno (fun hn=>by
        rw [hn.2.2,decide_eq_true (show (d2:Int) - (c:Int)=0 by omega)] at e2
        cases e2)
      rw [e0]
      exact itb_2 V W b rb m d1 d2 _ _ s t hb hr hrb hm HLW _ HIC1 HIC2 HSB
    | true =>
      rw [e2] at HIC2
      rw [Bool.and_eq_true,decide_eq_true_eq,Bool.not_eq_true'] at e1 e2
      obtain ⟨a,ha⟩:=xk e1.2
      obtain ⟨d,hd⟩:=yk e2.2
      obtain ⟨qa,hqa,_⟩:=look_place ha
      obtain ⟨qd,hqd,_⟩:=look_place hd
      have e0:rdT ps d1 s d2 t=rdN ps a d:=by rw [rdT,if_pos ⟨by omega,e1.2,e2.2⟩,ha,hd]
      have e3:subB ps d1 s d2 t=extI ps (a:Int) (d:Int):=by
        unfold subB
        rw [show (d1:Int).toNat - min (d1:Int).toNat (d2:Int).toNat=0 by omega,show (d2:Int).toNat - min (d1:Int).toNat (d2:Int).toNat=0 by omega,belB,intB,intB,e1.2,e2.2,ha,hd,extI,plcI_nat,plcI_nat,hqa,hqd]
        simp
      rw [e0,e3]
      exact itb_3 V W b rb m d1 d2 _ _ s t hb hrb HLW _ _ a d HIC1 HIC2 (fun w hb=>(byName_c (h.below hb) s hs).mono fun e w' zz=>⟨by rw [zz.1,ha];rfl,zz.2⟩) (fun w hb=>(byName_c (h.below hb) t ht).mono fun e w' zz=>⟨by rw [zz.1,hd];rfl,zz.2⟩) (fun w hb hk=>icb_c h hW rb m a d qa qd hqa hqd hb hr hk hm)
set_option maxHeartbeats 4000000 in
theorem tty_1 (W:World) (b:Nat) (x y E:Int) (s t:ByteArray) (hE:¬ E=0) (HS:Hid (∀ w,Below W.heap.size W w→Calls Tryz.prog 71 #[.pointer (some ⟨b,0,none⟩),.agg #[.int .i64 x,.string s]] w fun e w'=>e=.returned (.int .i64 E)∧Below w.heap.size w w')):Calls Tryz.prog 22 #[.pointer (some ⟨b,0,none⟩),.agg #[.int .i64 x,.string s],.agg #[.int .i64 y,.string t]] W fun e w'=>e=.returned (.tuple #[.bool false,.int .i64 0,.int .i64 E])∧Below W.heap.size W w':=by
  have hE2:(E == 0)=false:=by simp [hE]
  have IX0:=idxT_0 x y s t
  have IX1:=idxT_1 x y s t
  go_enter Tryz.func22,Tryz.ntmps22
  go_wp2
  go_loopw [17] (fun kv wr=>(kv=.int .i64 0)∧Hid (Below W.heap.size W wr)∧Hid (wr.heap[W.heap.size+2]?=some (.cells #[.int .i64 0] 3 (0,0)))∧Hid (wr.heap[W.heap.size+3]?=some (.cells #[.int .i64 x,.string s,.int .i64 y,.string t] 128 (0,0)))) (fun kv _=>2 - (intOf kv).toNat)
  case atStart=>exact ⟨rfl,(by repeat (first|exact Below.refl _ _|refine Below.setCell ?_ (by simp;try omega) _|refine Below.alloc ?_ (by simp;try omega) _|refine Below.drew ?_)),hkeep (halloc2 _ _ (by simp)),halloc2 _ _ (by simp)⟩
  case round =>
    obtain ⟨hk,hB,rrB,eeB⟩:=hrel
    obtain ⟨rr0,rrf,rrL⟩:=rw1 rrB.out
    obtain ⟨ee0,ee1,ee2,ee3,eef,eeL⟩:=rw4 eeB.out
    have rrN:¬ W.heap.size+2=wr.heap.size:=by omega
    have eeN:¬ W.heap.size+3=wr.heap.size:=by omega
    subst hk
    go_wp2_with (go_at_call 71;refine (HS.out _ (hB.out.alloc hB.out.size _)).mono ?_;rintro e w1 ⟨rfl,hb⟩;have eed:=kp4 (n:=W.heap.size+3) hb (by first|omega|(simp;try omega)) (hkeep eeB.out);(try clear eeB ee0 ee1 ee2 ee3 eef eeL eeN);obtain ⟨eeB,ee0,ee1,ee2,ee3,eef,eeL,eeN⟩:=eed;have rrd:=kp1 (n:=W.heap.size+2) hb (by first|omega|(simp;try omega)) (hkeep rrB.out);(try clear rrB rr0 rrf rrL rrN);obtain ⟨rrB,rr0,rrf,rrL,rrN⟩:=rrd;have B1:Hid (Below W.heap.size W w1):=bstep (hB.out.alloc hB.out.size _) hb;clear hb)
    exact bodyPost_ret (v:=.tuple #[.bool false,.int .i64 0,.int .i64 E]) (by simp [results,Tryz.results22,go_sem, *]) rfl ⟨rfl,B1.out.setCell (by simp;try omega) _⟩
set_option maxHeartbeats 4000000 in
theorem tty_2 (W:World) (b:Nat) (x y E:Int) (s t:ByteArray) (hE:¬ E=0) (HS:Hid (∀ w,Below W.heap.size W w→Calls Tryz.prog 71 #[.pointer (some ⟨b,0,none⟩),.agg #[.int .i64 x,.string s]] w fun e w'=>e=.returned (.int .i64 0)∧Below w.heap.size w w')) (HT:Hid (∀ w,Below W.heap.size W w→Calls Tryz.prog 71 #[.pointer (some ⟨b,0,none⟩),.agg #[.int .i64 y,.string t]] w fun e w'=>e=.returned (.int .i64 E)∧Below w.heap.size w w')):Calls Tryz.prog 22 #[.pointer (some ⟨b,0,none⟩),.agg #[.int .i64 x,.string s],.agg #[.int .i64 y,.string t]] W fun e w'=>e=.returned (.tuple #[.bool false,.int .i64 0,.int .i64 E])∧Below W.heap.size W w':=by
  have hE2:(E == 0)=false:=by simp [hE]
  have IX0:=idxT_0 x y s t
  have IX1:=idxT_1 x y s t
  go_enter Tryz.func22,Tryz.ntmps22
  go_wp2
  go_loopw [17] (fun kv wr=>(kv=.int .i64 0∨kv=.int .i64 1)∧Hid (Below W.heap.size W wr)∧Hid (wr.heap[W.heap.size+2]?=some (.cells #[.int .i64 0] 3 (0,0)))∧Hid (wr.heap[W.heap.size+3]?=some (.cells #[.int .i64 x,.string s,.int .i64 y,.string t] 128 (0,0)))) (fun kv _=>2 - (intOf kv).toNat)
  case atStart=>exact ⟨.inl rfl,(by repeat (first|exact Below.refl _ _|refine Below.setCell ?_ (by simp;try omega) _|refine Below.alloc ?_ (by simp;try omega) _|refine Below.drew ?_)),hkeep (halloc2 _ _ (by simp)),halloc2 _ _ (by simp)⟩
  case round =>
    obtain ⟨hk,hB,rrB,eeB⟩:=hrel
    obtain ⟨rr0,rrf,rrL⟩:=rw1 rrB.out
    obtain ⟨ee0,ee1,ee2,ee3,eef,eeL⟩:=rw4 eeB.out
    have rrN:¬ W.heap.size+2=wr.heap.size:=by omega
    have eeN:¬ W.heap.size+3=wr.heap.size:=by omega
    rcases hk with rfl|rfl
    · go_wp2_with (go_at_call 71;refine (HS.out _ (hB.out.alloc hB.out.size _)).mono ?_;rintro e w1 ⟨rfl,hb⟩;have eed:=kp4 (n:=W.heap.size+3) hb (by first|omega|(simp;try omega)) (hkeep eeB.out);(try clear eeB ee0 ee1 ee2 ee3 eef eeL eeN);obtain ⟨eeB,ee0,ee1,ee2,ee3,eef,eeL,eeN⟩:=eed;have rrd:=kp1 (n:=W.heap.size+2) hb (by first|omega|(simp;try omega)) (hkeep rrB.out);(try clear rrB rr0 rrf rrL rrN);obtain ⟨rrB,rr0,rrf,rrL,rrN⟩:=rrd;have B1:Hid (Below W.heap.size W w1):=bstep (hB.out.alloc hB.out.size _) hb;clear hb)
      refine ⟨⟨.inr rfl,B1,rrB,eeB⟩,by simp [intOf]⟩
    · go_wp2_with (go_at_call 71;refine (HT.out _ (hB.out.alloc hB.out.size _)).mono ?_;rintro e w1 ⟨rfl,hb⟩;have eed:=kp4 (n:=W.heap.size+3) hb (by first|omega|(simp;try omega)) (hkeep eeB.out);(try clear eeB ee0 ee1 ee2 ee3 eef eeL eeN);obtain ⟨eeB,ee0,ee1,ee2,ee3,eef,eeL,eeN⟩:=eed;have rrd:=kp1 (n:=W.heap.size+2) hb (by first|omega|(simp;try omega)) (hkeep rrB.out);(try clear rrB rr0 rrf rrL rrN);obtain ⟨rrB,rr0,rrf,rrL,rrN⟩:=rrd;have B1:Hid (Below W.heap.size W w1):=bstep (hB.out.alloc hB.out.size _) hb;clear hb)
      exact bodyPost_ret (v:=.tuple #[.bool false,.int .i64 0,.int .i64 E]) (by simp [results,Tryz.results22,go_sem, *]) rfl ⟨rfl,B1.out.setCell (by simp;try omega) _⟩
set_option maxHeartbeats 4000000 in
theorem tty_3 (W:World) (b:Nat) (x y:Int) (s t:ByteArray) (B:Bool) (n:Nat) (HS:Hid (∀ w,Below W.heap.size W w→Calls Tryz.prog 71 #[.pointer (some ⟨b,0,none⟩),.agg #[.int .i64 x,.string s]] w fun e w'=>e=.returned (.int .i64 0)∧Below w.heap.size w w')) (HT:Hid (∀ w,Below W.heap.size W w→Calls Tryz.prog 71 #[.pointer (some ⟨b,0,none⟩),.agg #[.int .i64 y,.string t]] w fun e w'=>e=.returned (.int .i64 0)∧Below w.heap.size w w')) (HI:Hid (∀ w,Below W.heap.size W w→w.heap[W.heap.size+2]?=some (.cells #[.int .i64 0] 3 (0,0))→Calls Tryz.prog 80 #[.pointer (some ⟨b,0,none⟩),.agg #[.int .i64 x,.string s,.int .i64 y,.string t],.pointer (some ⟨W.heap.size+2,0,none⟩)] w fun e w'=>e=.returned (.bool B)∧w'.heap[W.heap.size+2]?=some (.cells #[.int .i64 (n:Int)] 3 (0,0))∧Below W.heap.size W w')):Calls Tryz.prog 22 #[.pointer (some ⟨b,0,none⟩),.agg #[.int .i64 x,.string s],.agg #[.int .i64 y,.string t]] W fun e w'=>e=.returned (.tuple #[.bool B,.int .i64 (n:Int),.int .i64 0])∧Below W.heap.size W w':=by
  have IX0:=idxT_0 x y s t
  have IX1:=idxT_1 x y s t
  go_enter Tryz.func22,Tryz.ntmps22
  go_wp2
  go_loopw [17] (fun kv wr=>(kv=.int .i64 0∨kv=.int .i64 1∨kv=.int .i64 2)∧Hid (Below W.heap.size W wr)∧Hid (wr.heap[W.heap.size+2]?=some (.cells #[.int .i64 0] 3 (0,0)))∧Hid (wr.heap[W.heap.size+3]?=some (.cells #[.int .i64 x,.string s,.int .i64 y,.string t] 128 (0,0)))) (fun kv _=>2 - (intOf kv).toNat)
  case atStart=>exact ⟨.inl rfl,(by repeat (first|exact Below.refl _ _|refine Below.setCell ?_ (by simp;try omega) _|refine Below.alloc ?_ (by simp;try omega) _|refine Below.drew ?_)),hkeep (halloc2 _ _ (by simp)),halloc2 _ _ (by simp)⟩
  case round =>
    obtain ⟨hk,hB,rrB,eeB⟩:=hrel
    obtain ⟨rr0,rrf,rrL⟩:=rw1 rrB.out
    obtain ⟨ee0,ee1,ee2,ee3,eef,eeL⟩:=rw4 eeB.out
    have rrN:¬ W.heap.size+2=wr.heap.size:=by omega
    have eeN:¬ W.heap.size+3=wr.heap.size:=by omega
    rcases hk with rfl|rfl|rfl
    · go_wp2_with (go_at_call 71;refine (HS.out _ (hB.out.alloc hB.out.size _)).mono ?_;rintro e w1 ⟨rfl,hb⟩;have eed:=kp4 (n:=W.heap.size+3) hb (by first|omega|(simp;try omega)) (hkeep eeB.out);(try clear eeB ee0 ee1 ee2 ee3 eef eeL eeN);obtain ⟨eeB,ee0,ee1,ee2,ee3,eef,eeL,eeN⟩:=eed;have rrd:=kp1 (n:=W.heap.size+2) hb (by first|omega|(simp;try omega)) (hkeep rrB.out);(try clear rrB rr0 rrf rrL rrN);obtain ⟨rrB,rr0,rrf,rrL,rrN⟩:=rrd;have B1:Hid (Below W.heap.size W w1):=bstep (hB.out.alloc hB.out.size _) hb;clear hb)
      refine ⟨⟨.inr (.inl rfl),B1,rrB,eeB⟩,by simp [intOf]⟩
    · go_wp2_with (go_at_call 71;refine (HT.out _ (hB.out.alloc hB.out.size _)).mono ?_;rintro e w1 ⟨rfl,hb⟩;have eed:=kp4 (n:=W.heap.size+3) hb (by first|omega|(simp;try omega)) (hkeep eeB.out);(try clear eeB ee0 ee1 ee2 ee3 eef eeL eeN);obtain ⟨eeB,ee0,ee1,ee2,ee3,eef,eeL,eeN⟩:=eed;have rrd:=kp1 (n:=W.heap.size+2) hb (by first|omega|(simp;try omega)) (hkeep rrB.out);(try clear rrB rr0 rrf rrL rrN);obtain ⟨rrB,rr0,rrf,rrL,rrN⟩:=rrd;have B1:Hid (Below W.heap.size W w1):=bstep (hB.out.alloc hB.out.size _) hb;clear hb)
      refine ⟨⟨.inr (.inr rfl),B1,rrB,eeB⟩,by simp [intOf]⟩
    · go_wp2_with (go_at_call 80;refine (HI.out _ hB.out rrB.out).mono ?_;rintro e w2 ⟨rfl,hk2,hb⟩;(try clear rrB rr0 rrf rrL rrN);have rrB:Hid (w2.heap[W.heap.size+2]?=some (.cells #[.int .i64 (n:Int)] 3 (0,0))):=hk2;obtain ⟨rr0,rrf,rrL⟩:=rw1 hk2;have B2:Hid (Below W.heap.size W w2):=hb;clear hb hk2 HI)
      go_region
      all_goals go_wp2
      all_goals exact bodyPost_ret (v:=.tuple #[.bool B,.int .i64 (n:Int),.int .i64 0]) (by simp [results,Tryz.results22,go_sem, *]) rfl ⟨rfl,(B2.out.drew).setCell (by simp;try omega) _⟩
def ttyR (ps:List Plc) (x:Int) (s:ByteArray) (y:Int) (t:ByteArray):(Bool×Nat)×Int:=if ldI ps x s=0 then if ldI ps y t=0 then ((subB ps x s y t,rdT ps x s y t),0) else ((false,0),ldI ps y t) else ((false,0),ldI ps x s)
theorem tty_c {b:Nat} {ps:List Plc} {W:World} (h:WAt b ps W) (hW:WI ps) (x:Int) (s:ByteArray) (y:Int) (t:ByteArray) (hs:s.size≤maxLen) (ht:t.size≤maxLen):Calls Tryz.prog 22 #[.pointer (some ⟨b,0,none⟩),.agg #[.int .i64 x,.string s],.agg #[.int .i64 y,.string t]] W fun e w'=>e=.returned (.tuple #[.bool (ttyR ps x s y t).1.1,.int .i64 ((ttyR ps x s y t).1.2:Int),.int .i64 (ttyR ps x s y t).2])∧Below W.heap.size W w':=by
  by_cases h1:ldI ps x s=0
  · by_cases h2:ldI ps y t=0
    · have e0:ttyR ps x s y t=((subB ps x s y t,rdT ps x s y t),0):=by rw [ttyR,if_pos h1,if_pos h2]
      rw [e0]
      refine tty_3 W b x y s t (subB ps x s y t) (rdT ps x s y t) (fun w hb=>?_) (fun w hb=>?_) (fun w hb hk=>?_)
      · rw [← h1];exact loaded_c (h.below hb) _ _ hs
      · rw [← h2];exact loaded_c (h.below hb) _ _ ht
      · have:=itb_c h hW (W.heap.size+2) 0 x y s t hs ht h1 h2 hb (by omega) hk (by omega)
        rw [Nat.zero_add] at this
        exact this
    · have e0:ttyR ps x s y t=((false,0),ldI ps y t):=by rw [ttyR,if_pos h1,if_neg h2]
      rw [e0]
      refine tty_2 W b x y (ldI ps y t) s t h2 (fun w hb=>?_) (fun w hb=>loaded_c (h.below hb) _ _ ht)
      rw [← h1];exact loaded_c (h.below hb) _ _ hs
  · have e0:ttyR ps x s y t=((false,0),ldI ps x s):=by rw [ttyR,if_neg h1]
    rw [e0]
    exact tty_1 W b x y (ldI ps x s) s t h1 (fun w hb=>loaded_c (h.below hb) _ _ hs)
theorem su_tty (ps:List Plc) (x:Int) (s:ByteArray) (y:Int) (t:ByteArray):suI ps x s y t=.tuple #[.bool (ttyR ps x s y t).1.1,.int .i64 (ttyR ps x s y t).2]:=by
  rw [suI,ttyR]
  split
  · split <;> rfl
  · rfl
theorem tty_reads {ps:List Plc} {x:Int} {s:ByteArray} {y:Int} {t:ByteArray} (h:(ttyR ps x s y t).2=0):1≤(ttyR ps x s y t).1.2:=by
  rw [ttyR] at h ⊢
  split
  · split
    · exact rdT_pos _ _ _ _ _
    · rename_i h1 h2;rw [if_pos h1,if_neg h2] at h;exact absurd h h2
  · rename_i h1;rw [if_neg h1] at h;exact absurd h h1
end Go.Proofs.YtkclpcmkplbclaaGreat
