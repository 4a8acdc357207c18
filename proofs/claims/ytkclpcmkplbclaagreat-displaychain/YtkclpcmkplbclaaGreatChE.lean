import Derived.Test.YtkclpcmkplbclaaGreatDsB
import Derived.Test.YtkclpcmkplbclaaGreatHrP
import Derived.Test.YtkclpcmkplbclaaGreatWdB
import Derived.Test.YtkclpcmkplbclaaGreatSoA
import Derived.Test.YtkclpcmkplbclaaGreatOwnQ
import Derived.Test.YtkclpcmkplbclaaGreatCurA
import Derived.Test.YtkclpcmkplbclaaGreatTypesPure
import Derived.Test.YtkclpcmkplbclaaGreatFOwnA
import Derived.Test.YtkclpcmkplbclaaGreatRfX
import Derived.Test.YtkclpcmkplbclaaGreatHrT
import Derived.Test.YtkclpcmkplbclaaGreatHrH
import Derived.Test.YtkclpcmkplbclaaGreatCurD
import Derived.Test.YtkclpcmkplbclaaGreatSoD
import Derived.Test.YtkclpcmkplbclaaGreatOwnRefs
import Derived.Test.YtkclpcmkplbclaaGreatHrR
import Derived.Lib.Join
import GoSem.Op.String
import Derived.Deep.QuietTactic
import Derived.BigQuiet
import Derived.Deep.RegionHeld3
import Derived.Deep.DeepCutAuto
import Derived.Laws.IdiomStrings
import Derived.Deep.LoopGhost
import Derived.Lib.SliceRun
import Derived.Shelf.RegionOpen
import Derived.Laws.AppendOwn
import Derived.Lib.SmallJoins
import Derived.WalkSmall
import Derived.Deep.AppendLies
set_option maxRecDepth 100000
namespace Go.Proofs.YtkclpcmkplbclaaGreat
open Go.RowKit Go.Maps
theorem rw1 {w:World} {n:Nat} {t:TypeId} {a0:Value} (h:w.heap[n]?=some (.cells #[a0] t (0,0))):w.cell? ⟨n,0,none⟩=some a0∧(∀ k,w.frozen? ⟨n,k,none⟩=false)∧n<w.heap.size :=
  ⟨(cell_of_row w n 0 _ _ _ h).trans rfl,fun k=>frozen_of_row w n k _ _ h,(Array.getElem?_eq_some_iff.1 h).1⟩
theorem st1 {w:World} {n:Nat} {t:TypeId} {a0:Value} (h:w.heap[n]?=some (.cells #[a0] t (0,0))) (v:Value):(w.setCell ⟨n,0,none⟩ v).heap[n]?=some (.cells #[v] t (0,0)) :=
  (Go.Joins.block_setCell (i:=0) h v).trans (by simp)
theorem row_at {w:World} {N g cap n:Nat} {l:List Nat} (h:w.ownsRow N 3 1 (.slice (some ⟨g,0,none⟩) n cap) n (l.map numV)) {i x:Nat} (hx:l[i]?=some x):w.cell? ⟨g,i,none⟩=some (.int .i64 (x:Int)):=by
  have hl:l.length=n:=by have:=h.1;rw [List.length_map] at this;omega
  have hi:=(List.getElem?_eq_some_iff.1 hx).1
  rw [h.cellAt i (by omega),List.getElem?_map,hx];rfl
set_option maxHeartbeats 4000000 in
theorem sta_c (V W:World) (rb N m n t:Nat) (P Q:List Nat) (v1 v2:Value) (a3:Option Addr) (n3 c3:Nat) (hb:Below V.heap.size V W) (hr:V.heap.size≤rb) (hrb:W.heap[rb]?=some (.cells #[.int .i64 (m:Int)] 3 (0,0))) (hN:rb<N) (h1:W.ownsRow N 3 1 v1 P.length (P.map numV)) (h2:W.ownsRow N 3 1 v2 Q.length (Q.map numV)) (hm:m≤1000000) (hn:n≤1000000) (hP:P.length≤1000000) (hQ:Q.length≤1000000) :
    Calls Tryz.prog 114 #[.agg #[v1,v2,.slice a3 n3 c3],.int .i64 (n:Int),.int .i64 (t:Int),.pointer (some ⟨rb,0,none⟩)] W fun e w'=>e=.returned (.bool (atB (P++Q) n t))∧w'.heap[rb]?=some (.cells #[.int .i64 ((m+1:Nat):Int)] 3 (0,0))∧Below V.heap.size V w':=by
  obtain ⟨a1,c1,rfl⟩:=ownv h1
  obtain ⟨a2,c2,rfl⟩:=ownv h2
  have HB:Hid (Below V.heap.size V W):=hb
  have HR:Hid (W.heap[rb]?=some (.cells #[.int .i64 (m:Int)] 3 (0,0))):=hrb
  obtain ⟨r0,rf,rl⟩:=rw1 hrb
  have rn:¬ rb=W.heap.size:=by omega
  have rn2:¬ W.heap.size=rb:=by omega
  have FIN:Hid (∀ o,((W.setCell ⟨rb,0,none⟩ (.int .i64 ((m:Int)+1))).alloc o).heap[rb]?=some (.cells #[.int .i64 ((m:Int)+1)] 3 (0,0))∧Below V.heap.size V ((W.setCell ⟨rb,0,none⟩ (.int .i64 ((m:Int)+1))).alloc o)):=fun o=>⟨hkeep (st1 HR.out _),(HB.out.setCell (p:=⟨rb,0,none⟩) hr _).alloc (by simp;exact HB.out.size) o⟩
  by_cases hlt:n<P.length
  · obtain ⟨x,hx⟩:∃ x,P[n]?=some x:=⟨_,List.getElem?_eq_getElem hlt⟩
    have e1:atB (P++Q) n t=((x:Int) == (t:Int)):=by
      rw [atB,List.getElem?_append_left hlt,hx]
      simp only []
      rw [Bool.eq_iff_iff,beq_iff_eq,beq_iff_eq];omega
    rw [e1]
    obtain ⟨g,cap,e,hcap⟩:=own_form h1 (by omega)
    injection e with e2 _ e3
    subst e2 e3
    have hc:=row_at h1 hx
    have hgN:=(h1.lt g rfl).1
    have gn:¬ g=rb:=by omega
    have gn2:¬ rb=g:=by omega
    have gl:=(h1.lt g rfl).2
    have gn3:¬ g=W.heap.size:=by omega
    obtain ⟨K,hK⟩:∃ K,P.length=K:=⟨_,rfl⟩
    rw [hK] at hlt hP hcap ⊢
    have hI:(n:Int) - (K:Int)<0:=by omega
    have hI2:(n:Int)<(K:Int):=by omega
    clear h1 h2 hb hrb hx e1 hK
    go_enter Tryz.func114,Tryz.ntmps114
    go_wp2
    go_ret
    exact ⟨rfl,FIN.out _⟩
  · by_cases hlq:n - P.length<Q.length
    · obtain ⟨x,hx⟩:∃ x,Q[n - P.length]?=some x:=⟨_,List.getElem?_eq_getElem hlq⟩
      have e1:atB (P++Q) n t=((x:Int) == (t:Int)):=by
        rw [atB,List.getElem?_append_right (by omega),hx]
        simp only []
        rw [Bool.eq_iff_iff,beq_iff_eq,beq_iff_eq];omega
      rw [e1]
      obtain ⟨g,cap,e,hcap⟩:=own_form h2 (by omega)
      injection e with e2 _ e3
      subst e2 e3
      have hc:=row_at h2 hx
      have hgN:=(h2.lt g rfl).1
      have gn:¬ g=rb:=by omega
      have gn2:¬ rb=g:=by omega
      have gl:=(h2.lt g rfl).2
      have gn3:¬ g=W.heap.size:=by omega
      obtain ⟨K,hK⟩:∃ K,P.length=K:=⟨_,rfl⟩
      obtain ⟨L,hL⟩:∃ L,Q.length=L:=⟨_,rfl⟩
      rw [hK] at hlt hP hlq hc ⊢
      rw [hL] at hlq hQ hcap ⊢
      obtain ⟨j,hj⟩:∃ j,n - K=j:=⟨_,rfl⟩
      rw [hj] at hlq hc
      have hI:(n:Int) - (K:Int)=(j:Int):=by omega
      have hI2:¬ (j:Int)<0:=by omega
      have hI3:(j:Int)<(L:Int):=by omega
      clear h1 h2 hb hrb hx e1 hK hL hj
      go_enter Tryz.func114,Tryz.ntmps114
      go_wp2
      go_ret
      exact ⟨rfl,FIN.out _⟩
    · have e1:atB (P++Q) n t=false:=by
        rw [atB,List.getElem?_append_right (by omega),List.getElem?_eq_none (by omega)]
      rw [e1]
      obtain ⟨K,hK⟩:∃ K,P.length=K:=⟨_,rfl⟩
      obtain ⟨L,hL⟩:∃ L,Q.length=L:=⟨_,rfl⟩
      rw [hK] at hlt hP hlq ⊢
      rw [hL] at hlq hQ ⊢
      obtain ⟨j,hj⟩:∃ j,n - K=j:=⟨_,rfl⟩
      rw [hj] at hlq
      have hI:(n:Int) - (K:Int)=(j:Int):=by omega
      have hI2:¬ (j:Int)<0:=by omega
      have hI3:¬ (j:Int)<(L:Int):=by omega
      clear h1 h2 hb hrb e1 hK hL hj
      go_enter Tryz.func114,Tryz.ntmps114
      go_wp2
      go_ret
      exact ⟨rfl,FIN.out _⟩
set_option maxHeartbeats 4000000 in
theorem sse_c (V W:World) (rb N m t:Nat) (C:List Nat) (v3:Value) (a1 a2:Option Addr) (n1 c1 n2 c2:Nat) (hb:Below V.heap.size V W) (hr:V.heap.size≤rb) (hrb:W.heap[rb]?=some (.cells #[.int .i64 (m:Int)] 3 (0,0))) (hN:rb<N) (h3:W.ownsRow N 3 1 v3 C.length (C.map numV)) (hm:m≤1000000) (hC:C.length≤1000000) :
    Calls Tryz.prog 115 #[.agg #[.slice a1 n1 c1,.slice a2 n2 c2,v3],.int .i64 (t:Int),.pointer (some ⟨rb,0,none⟩)] W fun e w'=>e=.returned (.bool (C.contains t))∧w'.heap[rb]?=some (.cells #[.int .i64 ((m+(lookN C t+1):Nat):Int)] 3 (0,0))∧Below V.heap.size V w':=by
  obtain ⟨a3,c3,rfl⟩:=ownv h3
  have HB:Hid (Below V.heap.size V W):=hb
  have HR:Hid (W.heap[rb]?=some (.cells #[.int .i64 (m:Int)] 3 (0,0))):=hrb
  have H3:Hid (W.ownsRow N 3 1 (.slice a3 C.length c3) C.length (C.map numV)):=h3
  obtain ⟨r0,rf,rl⟩:=rw1 hrb
  have rn:¬ rb=W.heap.size:=by omega
  have rn2:¬ W.heap.size=rb:=by omega
  obtain ⟨K,hK⟩:∃ K,C.length=K:=⟨_,rfl⟩
  have HK:Hid (C.length=K):=hK
  obtain ⟨B0,hB0⟩:∃ B0,C.contains t=B0:=⟨_,rfl⟩
  obtain ⟨L0,hL0⟩:∃ L0,lookN C t=L0:=⟨_,rfl⟩
  have HB0:Hid (C.contains t=B0):=hB0
  have HL0:Hid (lookN C t=L0):=hL0
  rw [hK] at hC ⊢
  rw [hB0,hL0]
  clear hb hrb h3 hK hB0 hL0
  go_enter Tryz.func115,Tryz.ntmps115
  go_wp2
  go_loopw [17] (fun iv wr=>∃ (i:Nat),iv=.int .i64 i∧i≤K∧Hid (L0=i+lookN (C.drop i) t)∧Hid (B0=(C.drop i).contains t)∧Hid (wr.heap[rb]?=some (.cells #[.int .i64 ((m+(i+1):Nat):Int)] 3 (0,0)))∧Hid (Below V.heap.size V wr)∧Hid (∀ k,k<W.heap.size→k≠rb→wr.heap[k]?=W.heap[k]?)) (fun iv _=>K - (intOf iv).toNat)
  case atStart=>exact ⟨0,rfl,Nat.zero_le _,(by rw [Hid,Nat.zero_add,List.drop_zero];exact HL0.out.symm),(by rw [Hid,List.drop_zero];exact HB0.out.symm),hkeep (st1 HR.out _),(HB.out.setCell (p:=⟨rb,0,none⟩) hr _).alloc (by simp;exact HB.out.size) _,fun k hk hkr=>(Below.heap_alloc _ _ _ (by simp;exact hk)).trans (Below.heap_setCell _ _ _ _ hkr)⟩
  case round =>
    obtain ⟨i,rfl,hi,hL,hCt,hR,hB,hF⟩:=hrel
    clear r0 rf rl
    obtain ⟨r0,rf,rl⟩:=rw1 hR.out
    by_cases hlt:i<K
    · have hiI:(i:Int)<(K:Int):=by omega
      obtain ⟨x,hx⟩:∃ x,C[i]?=some x:=⟨_,List.getElem?_eq_getElem (by rw [HK.out];exact hlt)⟩
      obtain ⟨g,cap,e,hcap⟩:=own_form H3.out (by rw [HK.out];omega)
      have h3:=H3.out
      rw [e] at h3
      injection e with e2 _ e3
      subst e2 e3
      have hgN:=(h3.lt g rfl).1
      have gl:=(h3.lt g rfl).2
      have gn:¬ g=rb:=by omega
      have gn2:¬ rb=g:=by omega
      have hc:wr.cell? ⟨g,i,none⟩=some (.int .i64 (x:Int)):=(World.cell?_of_block (w:=W) (hF.out g gl gn)).trans (row_at h3 hx)
      have L1:Hid (lookN (C.drop i) t=if x=t then 1 else lookN (C.drop (i+1)) t+1):=lookN_at hx
      have L2:Hid ((C.drop i).contains t=if x=t then true else (C.drop (i+1)).contains t):=hasN_at hx
      clear hx h3
      by_cases hxt:x=t
      · subst hxt
        have A1:B0=true:=by rw [hCt.out,L2.out,if_pos rfl]
        have A2:L0=i+1:=by rw [hL.out,L1.out,if_pos rfl]
        subst A1 A2
        go_wp2
        go_ret
        refine ⟨rfl,?_,hB.out.setCell (p:=⟨rb,0,none⟩) hr _⟩
        rw [show (m:Int)+((i:Int)+1+1)=(m:Int)+((i:Int)+1)+1 by omega]
        exact st1 hR.out _
      · have hne:((x:Int) == (t:Int))=false:=by rw [← Bool.not_eq_true,beq_iff_eq];omega
        have hne2:¬ (x:Int)=(t:Int):=by omega
        go_wp2
        refine ⟨⟨i+1,by simp,by omega,?_,?_,?_,hB.out.setCell (p:=⟨rb,0,none⟩) hr _,?_⟩,by simp [intOf];omega⟩
        · rw [Hid,hL.out,L1.out,if_neg hxt];omega
        · rw [Hid,hCt.out,L2.out,if_neg hxt]
        · rw [Hid,show ((m+(i+1+1):Nat):Int)=(m:Int)+((i:Int)+1)+1 by omega]
          exact st1 hR.out _
        · exact fun k hk hkr=>(Below.heap_setCell _ _ _ _ hkr).trans (hF.out k hk hkr)
    · have e:i=K:=by omega
      subst e
      have E0:Hid (C.drop i=[]):=List.drop_eq_nil_iff.2 (by rw [HK.out];exact Nat.le_refl _)
      have A1:B0=false:=by rw [hCt.out,E0.out];rfl
      have A2:L0=i:=by rw [hL.out,E0.out];rfl
      subst A1 A2
      go_wp2
      go_ret
      exact ⟨rfl,hR.out,hB.out⟩
theorem kp1 {V w:World} {N n:Nat} {t:TypeId} {a0:Value} (hb:Below N V w) (hn:n<N) (h:V.heap[n]?=some (.cells #[a0] t (0,0))):Hid (w.heap[n]?=some (.cells #[a0] t (0,0)))∧w.cell? ⟨n,0,none⟩=some a0∧(∀ k,w.frozen? ⟨n,k,none⟩=false)∧n<w.heap.size∧¬ n=w.heap.size:=by
  have hd:=(hb.block n hn).trans h
  obtain ⟨c0,f,l⟩:=rw1 hd
  exact ⟨hd,c0,f,l,by omega⟩
theorem callDof (vs:Array Value) (w:World):(callFunc 82 vs).run Tryz.prog w=.ok (.enter 82 vs) w:=by simp [go_sem]
theorem callSta (vs:Array Value) (w:World):(callFunc 114 vs).run Tryz.prog w=.ok (.enter 114 vs) w:=by simp [go_sem]
theorem callSse (vs:Array Value) (w:World):(callFunc 115 vs).run Tryz.prog w=.ok (.enter 115 vs) w:=by simp [go_sem]
set_option maxHeartbeats 4000000 in
theorem icb_1 (V W:World) (b rb m s t:Nat) (hb:Below V.heap.size V W) (hr:V.heap.size≤rb) (hrb:W.heap[rb]?=some (.cells #[.int .i64 (m:Int)] 3 (0,0))) (hm:m≤1000000) (n:Nat) (P Q C:List Nat) (hn:n≤1000000) (hP:P.length≤1000000) (hQ:Q.length≤1000000) (HIF:Hid (∀ w,Below V.heap.size V w→Calls Tryz.prog 21 #[.pointer (some ⟨b,0,none⟩),.int .i64 (t:Int)] w fun e w'=>(e=.returned (.bool false))∧Below w.heap.size w w')) (HDP:Hid (∀ w,Below V.heap.size V w→Calls Tryz.prog 26 #[.pointer (some ⟨b,0,none⟩),.int .i64 (t:Int)] w fun e w'=>(e=.returned (.tuple #[.int .i64 (n:Int),.int .i64 0]))∧Below w.heap.size w w')) (HDO:Hid (∀ w,Below V.heap.size V w→Calls Tryz.prog 82 #[.pointer (some ⟨b,0,none⟩),.int .i64 (s:Int)] w fun e w'=>(∃ v1 v2 v3,e=.returned (.agg #[v1,v2,v3])∧DspA w.heap.size P Q C v1 v2 v3 w')∧Below w.heap.size w w')) :
    Calls Tryz.prog 73 #[.pointer (some ⟨b,0,none⟩),.agg #[.int .i64 (s:Int),.int .i64 (t:Int)],.pointer (some ⟨rb,0,none⟩)] W fun e w'=>e=.returned (.bool (atB (P++Q) n t))∧w'.heap[rb]?=some (.cells #[.int .i64 ((m+1:Nat):Int)] 3 (0,0))∧Below V.heap.size V w':=by
  have HB:Hid (Below V.heap.size V W):=hb
  have HR:Hid (W.heap[rb]?=some (.cells #[.int .i64 (m:Int)] 3 (0,0))):=hrb
  obtain ⟨r0,rf,rl⟩:=rw1 hrb
  have hW0:=hb.size
  clear hb hrb
  go_enter Tryz.func73,Tryz.ntmps73
  go_upto_region 3 with (first
    | (go_at_call 21;refine (HIF.out _ (HB.out.alloc HB.out.size _)).mono ?_;rintro e w1 ⟨rfl,hb⟩;have eed:=kp2 (n:=W.heap.size) hb (by first|omega|(simp;try omega)) (halloc1 _ _);(try clear eeB ee0 ee1 eef eeL eeN);obtain ⟨eeB,ee0,ee1,eef,eeL,eeN⟩:=eed;have rrd:=kp1 (n:=rb) hb (by first|omega|(simp;try omega)) (hkeep HR.out);(try clear rrB rr0 rrf rrL rrN);obtain ⟨rrB,rr0,rrf,rrL,rrN⟩:=rrd;have B1:Hid (Below V.heap.size V w1):=bstep (HB.out.alloc HB.out.size _) hb;clear hb HIF)
    | (go_at_call 26;refine (HDP.out _ B1.out).mono ?_;rintro e w2 ⟨rfl,hb⟩;have eed:=kp2 (n:=W.heap.size) hb (by first|omega|(simp;try omega)) (eeB.out);(try clear eeB ee0 ee1 eef eeL eeN);obtain ⟨eeB,ee0,ee1,eef,eeL,eeN⟩:=eed;have rrd:=kp1 (n:=rb) hb (by first|omega|(simp;try omega)) (rrB.out);(try clear rrB rr0 rrf rrL rrN);obtain ⟨rrB,rr0,rrf,rrL,rrN⟩:=rrd;have B2:Hid (Below V.heap.size V w2):=bstep B1.out hb;clear hb HDP))
  go_region_law (first
    | (refine stp2 rfl 82 callDof (.tmp 22) (.tmp 24) 26 3 rfl (.pointer (some ⟨b,0,none⟩)) (.int .i64 (s:Int)) (by simp [Act.eval]) (by simp [Act.eval]) (HDO.out _ B2.out.drew) ?_;rintro e w3 ⟨⟨v1,v2,v3,rfl,ho⟩,hb⟩;refine ⟨_,rfl,?_⟩;obtain ⟨a1,c1,rfl⟩:=ownv ho.rows.1;obtain ⟨a2,c2,rfl⟩:=ownv ho.rows.2.1;obtain ⟨a3,c3,rfl⟩:=ownv ho.rows.2.2;have O3:Hid (DspA w2.heap.size P Q C (.slice a1 P.length c1) (.slice a2 Q.length c2) (.slice a3 C.length c3) w3):=ho;have RL:Hid (rb<w2.heap.size):=rrL;have hb2:Below w2.heap.size w2 w3:=(Below.refl _ _).drew.trans hb;have eed:=kp2 (n:=W.heap.size) hb2 (by first|omega|(simp;try omega)) (eeB.out);(try clear eeB ee0 ee1 eef eeL eeN);obtain ⟨eeB,ee0,ee1,eef,eeL,eeN⟩:=eed;have rrd:=kp1 (n:=rb) hb2 (by first|omega|(simp;try omega)) (rrB.out);(try clear rrB rr0 rrf rrL rrN);obtain ⟨rrB,rr0,rrf,rrL,rrN⟩:=rrd;have B3:Hid (Below V.heap.size V w3):=bstep B2.out hb2;clear hb hb2 ho)
    | (refine stp4 rfl 114 callSta (.tmp 25) (.tmp 26) (.tmp 28) (.tmp 29) 47 3 3 114 rfl (.agg #[.slice a1 P.length c1,.slice a2 Q.length c2,.slice a3 C.length c3]) (.int .i64 (n:Int)) (.int .i64 (t:Int)) (.pointer (some ⟨rb,0,none⟩)) (by simp [Act.eval]) (by simp [Act.eval]) (by simp [Act.eval]) (by simp [Act.eval]) (sta_c V w3 rb _ m n t P Q _ _ a3 C.length c3 B3.out hr rrB.out RL.out O3.out.rows.1 O3.out.rows.2.1 hm hn hP hQ) ?_;rintro e w4 ⟨rfl,hk,hb⟩;refine ⟨_,rfl,?_⟩;have R4:Hid (w4.heap[rb]?=some (.cells #[.int .i64 ((m+1:Nat):Int)] 3 (0,0))):=hk;have B4:Hid (Below V.heap.size V w4):=hb;clear hb hk))
  all_goals go_wp2
  all_goals exact bodyPost_ret (results_tmp rfl _ _ _) rfl ⟨rfl,R4.out,B4.out⟩
set_option maxHeartbeats 4000000 in
theorem icb_2 (V W:World) (b rb m s t:Nat) (hb:Below V.heap.size V W) (hr:V.heap.size≤rb) (hrb:W.heap[rb]?=some (.cells #[.int .i64 (m:Int)] 3 (0,0))) (hm:m≤1000000) (hst:s=t) (HIF:Hid (∀ w,Below V.heap.size V w→Calls Tryz.prog 21 #[.pointer (some ⟨b,0,none⟩),.int .i64 (t:Int)] w fun e w'=>(e=.returned (.bool true))∧Below w.heap.size w w')) :
    Calls Tryz.prog 73 #[.pointer (some ⟨b,0,none⟩),.agg #[.int .i64 (s:Int),.int .i64 (t:Int)],.pointer (some ⟨rb,0,none⟩)] W fun e w'=>e=.returned (.bool true)∧w'.heap[rb]?=some (.cells #[.int .i64 ((m+1:Nat):Int)] 3 (0,0))∧Below V.heap.size V w':=by
  have HB:Hid (Below V.heap.size V W):=hb
  have HR:Hid (W.heap[rb]?=some (.cells #[.int .i64 (m:Int)] 3 (0,0))):=hrb
  obtain ⟨r0,rf,rl⟩:=rw1 hrb
  have hW0:=hb.size
  clear hb hrb
  subst hst
  go_enter Tryz.func73,Tryz.ntmps73
  go_wp2_with (go_at_call 21;refine (HIF.out _ (HB.out.alloc HB.out.size _)).mono ?_;rintro e w1 ⟨rfl,hb⟩;have eed:=kp2 (n:=W.heap.size) hb (by first|omega|(simp;try omega)) (halloc1 _ _);(try clear eeB ee0 ee1 eef eeL eeN);obtain ⟨eeB,ee0,ee1,eef,eeL,eeN⟩:=eed;have rrd:=kp1 (n:=rb) hb (by first|omega|(simp;try omega)) (hkeep HR.out);(try clear rrB rr0 rrf rrL rrN);obtain ⟨rrB,rr0,rrf,rrL,rrN⟩:=rrd;have B1:Hid (Below V.heap.size V w1):=bstep (HB.out.alloc HB.out.size _) hb;clear hb HIF)
  exact bodyPost_ret (results_tmp rfl _ _ _) rfl ⟨rfl,st1 rrB.out _,B1.out.setCell (p:=⟨rb,0,none⟩) hr _⟩
set_option maxHeartbeats 4000000 in
theorem icb_3 (V W:World) (b rb m s t:Nat) (hb:Below V.heap.size V W) (hr:V.heap.size≤rb) (hrb:W.heap[rb]?=some (.cells #[.int .i64 (m:Int)] 3 (0,0))) (hm:m≤1000000) (P Q C:List Nat) (hC:C.length≤1000000) (hst:¬ s=t) (HIF:Hid (∀ w,Below V.heap.size V w→Calls Tryz.prog 21 #[.pointer (some ⟨b,0,none⟩),.int .i64 (t:Int)] w fun e w'=>(e=.returned (.bool true))∧Below w.heap.size w w')) (HDO:Hid (∀ w,Below V.heap.size V w→Calls Tryz.prog 82 #[.pointer (some ⟨b,0,none⟩),.int .i64 (s:Int)] w fun e w'=>(∃ v1 v2 v3,e=.returned (.agg #[v1,v2,v3])∧DspA w.heap.size P Q C v1 v2 v3 w')∧Below w.heap.size w w')) :
    Calls Tryz.prog 73 #[.pointer (some ⟨b,0,none⟩),.agg #[.int .i64 (s:Int),.int .i64 (t:Int)],.pointer (some ⟨rb,0,none⟩)] W fun e w'=>e=.returned (.bool (C.contains t))∧w'.heap[rb]?=some (.cells #[.int .i64 ((m+(lookN C t+1):Nat):Int)] 3 (0,0))∧Below V.heap.size V w':=by
  have HB:Hid (Below V.heap.size V W):=hb
  have HR:Hid (W.heap[rb]?=some (.cells #[.int .i64 (m:Int)] 3 (0,0))):=hrb
  obtain ⟨r0,rf,rl⟩:=rw1 hrb
  have hW0:=hb.size
  clear hb hrb
  obtain ⟨B0,hB0⟩:∃ B0,C.contains t=B0:=⟨_,rfl⟩
  obtain ⟨L0,hL0⟩:∃ L0,lookN C t=L0:=⟨_,rfl⟩
  have HB0:Hid (C.contains t=B0):=hB0
  have HL0:Hid (lookN C t=L0):=hL0
  rw [hB0,hL0]
  clear hB0 hL0
  have hne:((s:Int) == (t:Int))=false:=by rw [← Bool.not_eq_true,beq_iff_eq];omega
  have hne2:¬ (s:Int)=(t:Int):=by omega
  go_enter Tryz.func73,Tryz.ntmps73
  go_upto_region 7 with (first
    | (go_at_call 21;refine (HIF.out _ (HB.out.alloc HB.out.size _)).mono ?_;rintro e w1 ⟨rfl,hb⟩;have eed:=kp2 (n:=W.heap.size) hb (by first|omega|(simp;try omega)) (halloc1 _ _);(try clear eeB ee0 ee1 eef eeL eeN);obtain ⟨eeB,ee0,ee1,eef,eeL,eeN⟩:=eed;have rrd:=kp1 (n:=rb) hb (by first|omega|(simp;try omega)) (hkeep HR.out);(try clear rrB rr0 rrf rrL rrN);obtain ⟨rrB,rr0,rrf,rrL,rrN⟩:=rrd;have B1:Hid (Below V.heap.size V w1):=bstep (HB.out.alloc HB.out.size _) hb;clear hb HIF))
  go_region_law (first
    | (refine stp2 rfl 82 callDof (.tmp 42) (.tmp 44) 26 3 rfl (.pointer (some ⟨b,0,none⟩)) (.int .i64 (s:Int)) (by simp [Act.eval]) (by simp [Act.eval]) (HDO.out _ B1.out.drew) ?_;rintro e w3 ⟨⟨v1,v2,v3,rfl,ho⟩,hb⟩;refine ⟨_,rfl,?_⟩;obtain ⟨a1,c1,rfl⟩:=ownv ho.rows.1;obtain ⟨a2,c2,rfl⟩:=ownv ho.rows.2.1;obtain ⟨a3,c3,rfl⟩:=ownv ho.rows.2.2;have O3:Hid (DspA w1.heap.size P Q C (.slice a1 P.length c1) (.slice a2 Q.length c2) (.slice a3 C.length c3) w3):=ho;have RL:Hid (rb<w1.heap.size):=rrL;have hb2:Below w1.heap.size w1 w3:=(Below.refl _ _).drew.trans hb;have eed:=kp2 (n:=W.heap.size) hb2 (by first|omega|(simp;try omega)) (eeB.out);(try clear eeB ee0 ee1 eef eeL eeN);obtain ⟨eeB,ee0,ee1,eef,eeL,eeN⟩:=eed;have rrd:=kp1 (n:=rb) hb2 (by first|omega|(simp;try omega)) (rrB.out);(try clear rrB rr0 rrf rrL rrN);obtain ⟨rrB,rr0,rrf,rrL,rrN⟩:=rrd;have B3:Hid (Below V.heap.size V w3):=bstep B1.out hb2;clear hb hb2 ho)
    | (refine step_call3 rfl 115 callSse (.tmp 45) (.tmp 47) (.tmp 48) 47 3 114 rfl (.agg #[.slice a1 P.length c1,.slice a2 Q.length c2,.slice a3 C.length c3]) (.int .i64 (t:Int)) (.pointer (some ⟨rb,0,none⟩)) (by simp [Act.eval]) (by simp [Act.eval]) (by simp [Act.eval]) (sse_c V w3 rb _ m t C _ a1 a2 P.length c1 Q.length c2 B3.out hr rrB.out RL.out O3.out.rows.2.2 hm hC) ?_;rintro e w4 ⟨he,hk,hb⟩;rw [HB0.out] at he;subst he;rw [HL0.out] at hk;refine ⟨_,rfl,?_⟩;have R4:Hid (w4.heap[rb]?=some (.cells #[.int .i64 ((m+(L0+1):Nat):Int)] 3 (0,0))):=hk;have B4:Hid (Below V.heap.size V w4):=hb;clear hb hk))
  all_goals go_wp2
  all_goals exact bodyPost_ret (results_tmp rfl _ _ _) rfl ⟨rfl,R4.out,B4.out⟩
theorem icb_c {b:Nat} {ps:List Plc} {V W:World} (h:WAt b ps V) (hW:WI ps) (rb m s t:Nat) (q r:Plc) (hs:ps[s]?=some q) (ht:ps[t]?=some r) (hb:Below V.heap.size V W) (hr:V.heap.size≤rb) (hrb:W.heap[rb]?=some (.cells #[.int .i64 (m:Int)] 3 (0,0))) (hm:m≤1000000) :
    Calls Tryz.prog 73 #[.pointer (some ⟨b,0,none⟩),.agg #[.int .i64 (s:Int),.int .i64 (t:Int)],.pointer (some ⟨rb,0,none⟩)] W fun e w'=>e=.returned (.bool (extI ps (s:Int) (t:Int)))∧w'.heap[rb]?=some (.cells #[.int .i64 ((m+rdN ps s t:Nat):Int)] 3 (0,0))∧Below V.heap.size V w':=by
  have hsl:=(List.getElem?_eq_some_iff.1 hs).1
  have hdl:=dn_le hW hsl
  have htl:=dn_le hW (List.getElem?_eq_some_iff.1 ht).1
  have HDO:∀ w,Below V.heap.size V w→Calls Tryz.prog 82 #[.pointer (some ⟨b,0,none⟩),.int .i64 (s:Int)] w fun e w'=>(∃ v1 v2 v3,e=.returned (.agg #[v1,v2,v3])∧DspA w.heap.size ((dnL ps s).take 8) ((dnL ps s).drop 8) q.cl v1 v2 v3 w')∧Below w.heap.size w w':=fun w hb=>dof_c (h.below hb) hW s q hs
  have HIF:∀ w,Below V.heap.size V w→Calls Tryz.prog 21 #[.pointer (some ⟨b,0,none⟩),.int .i64 (t:Int)] w fun e w'=>(e=.returned (.bool (ifcI ps (t:Int))))∧Below w.heap.size w w':=fun w hb=>isIface_c (h.below hb) _
  cases hf:ifcI ps (t:Int) with
  | false =>
    rw [hf] at HIF
    have e1:rdN ps s t=1:=by rw [rdN,hf];rfl
    have e2:=ext_class hW hs ht hf
    rw [dn_len] at htl
    rw [e1,e2]
    have:=icb_1 V W b rb m s t hb hr hrb hm ((chL (ps.map nd) t).length - 1) ((dnL ps s).take 8) ((dnL ps s).drop 8) q.cl (by omega) (by rw [List.length_take];omega) (by rw [List.length_drop];omega) HIF (fun w hb=>?_) HDO
    · rw [List.take_append_drop] at this
      exact this
    · have hd:=depth_r (h.below hb) hW (t:Int)
      rw [dpI,plcI_nat,ht] at hd
      simp only [Int.toNat_natCast] at hd
      rw [show (((chL (ps.map nd) t).length - 1:Nat):Int)=((chL (ps.map nd) t).length:Int) - 1 by have:=ch_pos (ns:=ps.map nd) t;omega]
      exact hd
  | true =>
    rw [hf] at HIF
    by_cases hst:s=t
    · have e1:rdN ps s t=1:=by rw [rdN,hf,if_pos rfl,if_pos hst]
      rw [e1]
      have e2:extI ps (s:Int) (t:Int)=true:=by rw [← hst];exact ext_own hs
      rw [e2]
      exact icb_2 V W b rb m s t hb hr hrb hm hst HIF
    · have e1:rdN ps s t=lookN q.cl t+1:=by rw [rdN,hf,if_pos rfl,if_neg hst,cl_at hs]
      rw [e1,ext_iface hW hs ht hf hst]
      have:=cl_len hW hs
      exact icb_3 V W b rb m s t hb hr hrb hm _ _ q.cl (by omega) hst HIF HDO
theorem idx2_0 (s t:Int) (w:World):(Instr.index 111 (.agg #[.int .i64 s,.int .i64 t]) (.int .i64 0)).run Tryz.prog w=.ok (.int .i64 s) w:=by
  simp [Instr.index,run_underlying Tryz.underlying111,go_sem,part]
theorem idx2_1 (s t:Int) (w:World):(Instr.index 111 (.agg #[.int .i64 s,.int .i64 t]) (.int .i64 1)).run Tryz.prog w=.ok (.int .i64 t) w:=by
  simp [Instr.index,run_underlying Tryz.underlying111,go_sem,part]
set_option maxHeartbeats 4000000 in
theorem tst_1 (W:World) (b:Nat) (s t E:Int) (hE:¬ E=0) (HS:Hid (∀ w,Below W.heap.size W w→Calls Tryz.prog 72 #[.pointer (some ⟨b,0,none⟩),.int .i64 s] w fun e w'=>e=.returned (.int .i64 E)∧Below w.heap.size w w')):Calls Tryz.prog 17 #[.pointer (some ⟨b,0,none⟩),.int .i64 s,.int .i64 t] W fun e w'=>e=.returned (.tuple #[.bool false,.int .i64 0,.int .i64 E])∧Below W.heap.size W w':=by
  have hE2:(E == 0)=false:=by simp [hE]
  have IX0:=idx2_0 s t
  have IX1:=idx2_1 s t
  go_enter Tryz.func17,Tryz.ntmps17
  go_wp2
  go_loopw [17] (fun kv wr=>(kv=.int .i64 0)∧Hid (Below W.heap.size W wr)∧Hid (wr.heap[W.heap.size]?=some (.cells #[.int .i64 0] 3 (0,0)))∧Hid (wr.heap[W.heap.size+1]?=some (.cells #[.int .i64 s,.int .i64 t] 111 (0,0)))) (fun kv _=>2 - (intOf kv).toNat)
  case atStart=>exact ⟨rfl,((Below.refl _ _).alloc (Nat.le_refl _) _).alloc (by simp) _,hkeep (halloc1 _ _),halloc2 _ _ (by simp)⟩
  case round =>
    obtain ⟨hk,hB,rrB,eeB⟩:=hrel
    obtain ⟨rr0,rrf,rrL⟩:=rw1 rrB.out
    obtain ⟨ee0,ee1,eef,eeL⟩:=rw2 eeB.out
    have rrN:¬ W.heap.size=wr.heap.size:=by omega
    have eeN:¬ W.heap.size+1=wr.heap.size:=by omega
    subst hk
    go_wp2_with (go_at_call 72;refine (HS.out _ hB.out).mono ?_;rintro e w1 ⟨rfl,hb⟩;have eed:=kp2 (n:=W.heap.size+1) hb (by first|omega|(simp;try omega)) (eeB.out);(try clear eeB ee0 ee1 eef eeL eeN);obtain ⟨eeB,ee0,ee1,eef,eeL,eeN⟩:=eed;have rrd:=kp1 (n:=W.heap.size) hb (by first|omega|(simp;try omega)) (rrB.out);(try clear rrB rr0 rrf rrL rrN);obtain ⟨rrB,rr0,rrf,rrL,rrN⟩:=rrd;have B1:Hid (Below W.heap.size W w1):=bstep hB.out hb;clear hb)
    exact bodyPost_ret (v:=.tuple #[.bool false,.int .i64 0,.int .i64 E]) (by simp [results,Tryz.results17,go_sem, *]) rfl ⟨rfl,B1.out.setCell (Nat.le_refl _) _⟩
set_option maxHeartbeats 4000000 in
theorem tst_2 (W:World) (b:Nat) (s t E:Int) (hE:¬ E=0) (HS:Hid (∀ w,Below W.heap.size W w→Calls Tryz.prog 72 #[.pointer (some ⟨b,0,none⟩),.int .i64 s] w fun e w'=>e=.returned (.int .i64 0)∧Below w.heap.size w w')) (HT:Hid (∀ w,Below W.heap.size W w→Calls Tryz.prog 72 #[.pointer (some ⟨b,0,none⟩),.int .i64 t] w fun e w'=>e=.returned (.int .i64 E)∧Below w.heap.size w w')):Calls Tryz.prog 17 #[.pointer (some ⟨b,0,none⟩),.int .i64 s,.int .i64 t] W fun e w'=>e=.returned (.tuple #[.bool false,.int .i64 0,.int .i64 E])∧Below W.heap.size W w':=by
  have hE2:(E == 0)=false:=by simp [hE]
  have IX0:=idx2_0 s t
  have IX1:=idx2_1 s t
  go_enter Tryz.func17,Tryz.ntmps17
  go_wp2
  go_loopw [17] (fun kv wr=>(kv=.int .i64 0∨kv=.int .i64 1)∧Hid (Below W.heap.size W wr)∧Hid (wr.heap[W.heap.size]?=some (.cells #[.int .i64 0] 3 (0,0)))∧Hid (wr.heap[W.heap.size+1]?=some (.cells #[.int .i64 s,.int .i64 t] 111 (0,0)))) (fun kv _=>2 - (intOf kv).toNat)
  case atStart=>exact ⟨.inl rfl,((Below.refl _ _).alloc (Nat.le_refl _) _).alloc (by simp) _,hkeep (halloc1 _ _),halloc2 _ _ (by simp)⟩
  case round =>
    obtain ⟨hk,hB,rrB,eeB⟩:=hrel
    obtain ⟨rr0,rrf,rrL⟩:=rw1 rrB.out
    obtain ⟨ee0,ee1,eef,eeL⟩:=rw2 eeB.out
    have rrN:¬ W.heap.size=wr.heap.size:=by omega
    have eeN:¬ W.heap.size+1=wr.heap.size:=by omega
    rcases hk with rfl|rfl
    · go_wp2_with (go_at_call 72;refine (HS.out _ hB.out).mono ?_;rintro e w1 ⟨rfl,hb⟩;have eed:=kp2 (n:=W.heap.size+1) hb (by first|omega|(simp;try omega)) (eeB.out);(try clear eeB ee0 ee1 eef eeL eeN);obtain ⟨eeB,ee0,ee1,eef,eeL,eeN⟩:=eed;have rrd:=kp1 (n:=W.heap.size) hb (by first|omega|(simp;try omega)) (rrB.out);(try clear rrB rr0 rrf rrL rrN);obtain ⟨rrB,rr0,rrf,rrL,rrN⟩:=rrd;have B1:Hid (Below W.heap.size W w1):=bstep hB.out hb;clear hb)
      refine ⟨⟨.inr rfl,B1,rrB,eeB⟩,by simp [intOf]⟩
    · go_wp2_with (go_at_call 72;refine (HT.out _ hB.out).mono ?_;rintro e w1 ⟨rfl,hb⟩;have eed:=kp2 (n:=W.heap.size+1) hb (by first|omega|(simp;try omega)) (eeB.out);(try clear eeB ee0 ee1 eef eeL eeN);obtain ⟨eeB,ee0,ee1,eef,eeL,eeN⟩:=eed;have rrd:=kp1 (n:=W.heap.size) hb (by first|omega|(simp;try omega)) (rrB.out);(try clear rrB rr0 rrf rrL rrN);obtain ⟨rrB,rr0,rrf,rrL,rrN⟩:=rrd;have B1:Hid (Below W.heap.size W w1):=bstep hB.out hb;clear hb)
      exact bodyPost_ret (v:=.tuple #[.bool false,.int .i64 0,.int .i64 E]) (by simp [results,Tryz.results17,go_sem, *]) rfl ⟨rfl,B1.out.setCell (Nat.le_refl _) _⟩
set_option maxHeartbeats 4000000 in
theorem tst_3 (W:World) (b:Nat) (s t:Int) (B:Bool) (n:Nat) (HS:Hid (∀ w,Below W.heap.size W w→Calls Tryz.prog 72 #[.pointer (some ⟨b,0,none⟩),.int .i64 s] w fun e w'=>e=.returned (.int .i64 0)∧Below w.heap.size w w')) (HT:Hid (∀ w,Below W.heap.size W w→Calls Tryz.prog 72 #[.pointer (some ⟨b,0,none⟩),.int .i64 t] w fun e w'=>e=.returned (.int .i64 0)∧Below w.heap.size w w')) (HI:Hid (∀ w,Below W.heap.size W w→w.heap[W.heap.size]?=some (.cells #[.int .i64 0] 3 (0,0))→Calls Tryz.prog 73 #[.pointer (some ⟨b,0,none⟩),.agg #[.int .i64 s,.int .i64 t],.pointer (some ⟨W.heap.size,0,none⟩)] w fun e w'=>e=.returned (.bool B)∧w'.heap[W.heap.size]?=some (.cells #[.int .i64 (n:Int)] 3 (0,0))∧Below W.heap.size W w')):Calls Tryz.prog 17 #[.pointer (some ⟨b,0,none⟩),.int .i64 s,.int .i64 t] W fun e w'=>e=.returned (.tuple #[.bool B,.int .i64 (n:Int),.int .i64 0])∧Below W.heap.size W w':=by
  have IX0:=idx2_0 s t
  have IX1:=idx2_1 s t
  go_enter Tryz.func17,Tryz.ntmps17
  go_wp2
  go_loopw [17] (fun kv wr=>(kv=.int .i64 0∨kv=.int .i64 1∨kv=.int .i64 2)∧Hid (Below W.heap.size W wr)∧Hid (wr.heap[W.heap.size]?=some (.cells #[.int .i64 0] 3 (0,0)))∧Hid (wr.heap[W.heap.size+1]?=some (.cells #[.int .i64 s,.int .i64 t] 111 (0,0)))) (fun kv _=>2 - (intOf kv).toNat)
  case atStart=>exact ⟨.inl rfl,((Below.refl _ _).alloc (Nat.le_refl _) _).alloc (by simp) _,hkeep (halloc1 _ _),halloc2 _ _ (by simp)⟩
  case round =>
    obtain ⟨hk,hB,rrB,eeB⟩:=hrel
    obtain ⟨rr0,rrf,rrL⟩:=rw1 rrB.out
    obtain ⟨ee0,ee1,eef,eeL⟩:=rw2 eeB.out
    have rrN:¬ W.heap.size=wr.heap.size:=by omega
    have eeN:¬ W.heap.size+1=wr.heap.size:=by omega
    rcases hk with rfl|rfl|rfl
    · go_wp2_with (go_at_call 72;refine (HS.out _ hB.out).mono ?_;rintro e w1 ⟨rfl,hb⟩;have eed:=kp2 (n:=W.heap.size+1) hb (by first|omega|(simp;try omega)) (eeB.out);(try clear eeB ee0 ee1 eef eeL eeN);obtain ⟨eeB,ee0,ee1,eef,eeL,eeN⟩:=eed;have rrd:=kp1 (n:=W.heap.size) hb (by first|omega|(simp;try omega)) (rrB.out);(try clear rrB rr0 rrf rrL rrN);obtain ⟨rrB,rr0,rrf,rrL,rrN⟩:=rrd;have B1:Hid (Below W.heap.size W w1):=bstep hB.out hb;clear hb)
      refine ⟨⟨.inr (.inl rfl),B1,rrB,eeB⟩,by simp [intOf]⟩
    · go_wp2_with (go_at_call 72;refine (HT.out _ hB.out).mono ?_;rintro e w1 ⟨rfl,hb⟩;have eed:=kp2 (n:=W.heap.size+1) hb (by first|omega|(simp;try omega)) (eeB.out);(try clear eeB ee0 ee1 eef eeL eeN);obtain ⟨eeB,ee0,ee1,eef,eeL,eeN⟩:=eed;have rrd:=kp1 (n:=W.heap.size) hb (by first|omega|(simp;try omega)) (rrB.out);(try clear rrB rr0 rrf rrL rrN);obtain ⟨rrB,rr0,rrf,rrL,rrN⟩:=rrd;have B1:Hid (Below W.heap.size W w1):=bstep hB.out hb;clear hb)
      refine ⟨⟨.inr (.inr rfl),B1,rrB,eeB⟩,by simp [intOf]⟩
    · go_wp2_with (go_at_call 73;refine (HI.out _ hB.out rrB.out).mono ?_;rintro e w2 ⟨rfl,hk2,hb⟩;(try clear rrB rr0 rrf rrL rrN);have rrB:Hid (w2.heap[W.heap.size]?=some (.cells #[.int .i64 (n:Int)] 3 (0,0))):=hk2;obtain ⟨rr0,rrf,rrL⟩:=rw1 hk2;have B2:Hid (Below W.heap.size W w2):=hb;clear hb hk2 HI)
      go_region
      all_goals go_wp2
      all_goals exact bodyPost_ret (v:=.tuple #[.bool B,.int .i64 (n:Int),.int .i64 0]) (by simp [results,Tryz.results17,go_sem, *]) rfl ⟨rfl,(B2.out.drew).setCell (Nat.le_refl _) _⟩
def tstR (ps:List Plc) (s t:Int):(Bool×Nat)×Int:=if ckI ps s=0 then if ckI ps t=0 then ((extI ps s t,rdN ps s.toNat t.toNat),0) else ((false,0),3) else ((false,0),3)
theorem tst_c {b:Nat} {ps:List Plc} {W:World} (h:WAt b ps W) (hW:WI ps) (s t:Int):Calls Tryz.prog 17 #[.pointer (some ⟨b,0,none⟩),.int .i64 s,.int .i64 t] W fun e w'=>e=.returned (.tuple #[.bool (tstR ps s t).1.1,.int .i64 ((tstR ps s t).1.2:Int),.int .i64 (tstR ps s t).2])∧Below W.heap.size W w':=by
  by_cases hs:ckI ps s=0
  · by_cases ht:ckI ps t=0
    · obtain ⟨x,q,rfl,hq⟩:=ck_zero hs
      obtain ⟨y,r,rfl,hr⟩:=ck_zero ht
      have e0:tstR ps (x:Int) (y:Int)=((extI ps (x:Int) (y:Int),rdN ps x y),0):=by rw [tstR,if_pos hs,if_pos ht];rfl
      rw [e0]
      refine tst_3 W b x y (extI ps (x:Int) (y:Int)) (rdN ps x y) (fun w hb=>?_) (fun w hb=>?_) (fun w hb hk=>?_)
      · rw [← hs];exact dck_c (h.below hb) _
      · rw [← ht];exact dck_c (h.below hb) _
      · have:=icb_c h hW W.heap.size 0 x y q r hq hr hb (Nat.le_refl _) hk (by omega)
        rw [Nat.zero_add] at this
        exact this
    · have e1:=ck_three ht
      have e0:tstR ps s t=((false,0),3):=by rw [tstR,if_pos hs,if_neg ht]
      rw [e0]
      refine tst_2 W b s t 3 (by decide) (fun w hb=>?_) (fun w hb=>?_)
      · rw [← hs];exact dck_c (h.below hb) _
      · rw [← e1];exact dck_c (h.below hb) _
  · have e1:=ck_three hs
    have e0:tstR ps s t=((false,0),3):=by rw [tstR,if_neg hs]
    rw [e0]
    refine tst_1 W b s t 3 (by decide) (fun w hb=>?_)
    rw [← e1];exact dck_c (h.below hb) _
theorem clss_kp {w w':World} {v:Value} {l:List Cls} (h:IsClss w v l) (hb:Below w.heap.size w w'):IsClss w' v l:=by
  obtain ⟨ao,cap,rfl,h1,h2,h3⟩:=h
  refine ⟨ao,cap,rfl,h1,h2,fun hne=>?_⟩
  obtain ⟨bk,o,e,hlt,hc⟩:=h3 hne
  refine ⟨bk,o,e,Nat.lt_of_lt_of_le hlt hb.size,fun k c hk=>?_⟩
  obtain ⟨vi,vm,h4,h5⟩:=hc k c hk
  exact ⟨vi,vm,fun j u hj=>(hb.cell hlt).trans (h4 j u hj),h5.keep hb⟩
theorem tst3:tstR P3 1 0=((true,1),0):=by kernel_rfl
theorem awake15_n (W:World) (HN:Hid (∀ w:World,Calls Tryz.prog 38 #[] w fun e w'=>∃ b,e=.returned (.pointer (some ⟨b,0,none⟩))∧WAt b P3 w'∧Below w.heap.size w w')) (HM:Hid (∀ (w:World) (b:Nat),WAt b P3 w→Calls Tryz.prog 17 #[.pointer (some ⟨b,0,none⟩),.int .i64 1,.int .i64 0] w fun e w'=>e=.returned (.tuple #[.bool true,.int .i64 1,.int .i64 0])∧Below w.heap.size w w')):Calls Tryz.prog 15 #[] W fun e w'=>e=.returned (.bool true)∧Below W.heap.size W w':=by
  go_enter Tryz.func15,Tryz.ntmps15
  go_wp2_with (first
    | (go_at_call 38;refine (HN.out _).mono ?_;rintro e w1 ⟨b,rfl,hw,hb⟩;have H1:Hid (WAt b P3 w1):=hw;have B1:Hid (Below W.heap.size W w1):=hb;clear hw hb HN)
    | (go_at_call 17;refine (HM.out _ _ H1.out).mono ?_;rintro e w2 ⟨rfl,hb⟩;have B2:Hid (Below W.heap.size W w2):=bstep B1.out hb;clear hb HM))
  all_goals exact bodyPost_ret (results_tmp rfl _ _ _) rfl ⟨rfl,B2.out⟩
theorem awake15_c (W:World):Calls Tryz.prog 15 #[] W fun e w'=>e=.returned (.bool true)∧Below W.heap.size W w' :=
  awake15_n W (fun w=>(new_any w).mono fun e w' zz=>⟨_,zz.1,by obtain ⟨vp,pv,hw⟩:=zz.2.1;exact hw.wat,zz.2.2⟩) (fun w b h=>(tst_c h wi3 1 0).mono fun e w' zz=>⟨by rw [zz.1,tst3];rfl,zz.2⟩)
set_option maxHeartbeats 4000000 in
theorem built15_c (v:Value) (l:List Cls) (W:World) (h:IsClss W v l):Calls Tryz.prog 16 #[v] W fun e w'=>(∃ b,e=.returned (.pointer (some ⟨b,0,none⟩))∧WAt b (wld l) w')∧Below W.heap.size W w':=by
  have hCW:=clss_w h
  obtain ⟨ao,cap,rfl,h1,h2,h3⟩:=h
  unfold maxLen at h2
  obtain ⟨L,hL⟩:∃ L,l.length=L:=⟨_,rfl⟩
  have HL:Hid (l.length=L):=hL
  have HI:Hid _:=h3
  have HCW:Hid (∀ c∈l,ClsW c):=hCW
  rw [hL] at h1 ⊢
  clear hL h3 hCW
  have HN:Hid (∀ w:World,Calls Tryz.prog 38 #[] w fun e w'=>e=.returned (.pointer (some ⟨w.heap.size+1,0,none⟩))∧(∃ vp pv,HW w' w.heap.size (w.heap.size+1) w.heap.size P3 vp pv)∧Below w.heap.size w w'):=new_any
  go_enter Tryz.func16,Tryz.ntmps16
  go_wp2_with (first
    | (go_at_call 38;refine (HN.out _).mono ?_;rintro e w2 ⟨rfl,hw,hb⟩;have H2:Hid (∃ vp pv,HW w2 W.heap.size (W.heap.size+1) W.heap.size P3 vp pv):=hw;have B2:Hid (Below W.heap.size W w2):=hb;clear hb hw HN))
  go_loopw [4] (fun iv wr=>∃ (i:Nat),iv=.int .i64 i∧i≤L∧Hid (∃ vp pv,HW wr W.heap.size (W.heap.size+1) W.heap.size (wld (l.take i)) vp pv)∧Hid (Below W.heap.size W wr)) (fun iv _=>L - (intOf iv).toNat)
  case atStart=>exact ⟨0,rfl,Nat.zero_le _,H2,B2⟩
  case round =>
    clear H2 B2
    obtain ⟨i,rfl,hi,hHW,hB⟩:=hrel
    by_cases hlt:i<L
    · obtain ⟨c,hc⟩:∃ c,l[i]?=some c:=⟨_,List.getElem?_eq_getElem (by rw [HL.out];exact hlt)⟩
      obtain ⟨bk,o,rfl,hbk,hcl⟩:=HI.out (fun e=>by rw [e] at hc;simp at hc)
      obtain ⟨vi,vm,hcell,hin⟩:=hcl i c hc
      have bel:Below W.heap.size W wr:=hB.out
      have p0:wr.cell? ⟨bk,o+i * 6,none⟩=some (.string c.nm):=(bel.cell (p:=⟨bk,o+i * 6,none⟩) hbk).trans (hcell 0 _ rfl)
      have p1:wr.cell? ⟨bk,o+i * 6+1,none⟩=some (.string c.su):=(bel.cell (p:=⟨bk,o+i * 6+1,none⟩) hbk).trans (hcell 1 _ rfl)
      have p2:wr.cell? ⟨bk,o+i * 6+2,none⟩=some vi:=(bel.cell (p:=⟨bk,o+i * 6+2,none⟩) hbk).trans (hcell 2 _ rfl)
      have p3:wr.cell? ⟨bk,o+i * 6+3,none⟩=some (.int .i64 c.fl):=(bel.cell (p:=⟨bk,o+i * 6+3,none⟩) hbk).trans (hcell 3 _ rfl)
      have p4:wr.cell? ⟨bk,o+i * 6+4,none⟩=some (.int .i64 c.ld):=(bel.cell (p:=⟨bk,o+i * 6+4,none⟩) hbk).trans (hcell 4 _ rfl)
      have p5:wr.cell? ⟨bk,o+i * 6+5,none⟩=some vm:=(bel.cell (p:=⟨bk,o+i * 6+5,none⟩) hbk).trans (hcell 5 _ rfl)
      have hWI:WI (wld (l.take i)):=wld_wi _ (fun c hc=>HCW.out c (List.mem_of_mem_take hc))
      have HD:Hid (Calls Tryz.prog 40 #[.pointer (some ⟨W.heap.size+1,0,none⟩),.agg #[.string c.nm,.string c.su,vi,.int .i64 c.fl,.int .i64 c.ld,vm]] wr fun e w'=>(∃ u,e=.returned u)∧Hid (∃ vp pv,HW w' W.heap.size (W.heap.size+1) W.heap.size (wld (l.take (i+1))) vp pv)∧Hid (Below W.heap.size W w')):=by
        obtain ⟨vp,pv,hw⟩:=hHW.out
        refine (define_any W.heap.size (W.heap.size+1) W.heap.size _ vp pv c vi vm wr hw hB.out.size (hin.keep bel) hWI.nm).mono ?_
        rintro e w' ⟨rfl,hw',hb',_⟩
        rw [wld_at hc]
        exact ⟨⟨_,rfl⟩,hw',hB.out.trans hb'⟩
      clear hcl hcell hin hc bel hWI hHW hB HI
      go_wp2_with (go_at_call 40;refine HD.out.mono ?_;rintro e w3 ⟨⟨u3,rfl⟩,hw3,hb3⟩;clear HD)
      go_roundw
      case rel=>exact ⟨i+1,by go_num,by omega,hw3,hb3⟩
      case measure=>simp [intOf];omega
    · have e:i=L:=by omega
      subst e
      have HF:Hid (WAt (W.heap.size+1) (wld l) wr):=by
        obtain ⟨vp,pv,hw⟩:=hHW.out
        rw [List.take_of_length_le (by rw [HL.out];exact Nat.le_refl _)] at hw
        exact hw.wat
      clear hHW HI
      go_wp2
      exact bodyPost_ret (results_tmp rfl _ _ _) rfl ⟨⟨_,rfl,HF.out⟩,hB.out⟩
set_option maxHeartbeats 4000000 in
theorem sameNums_rds (l:List Nat) (v1 v2:Value) (W:World) (h1:Rds W v1 l.length 1 (l.map numV)) (h2:Rds W v2 l.length 1 (l.map numV)) (hn:l.length≤1000000000):Calls Tryz.prog 28 #[v1,v2] W fun e w'=>e=.returned (.bool true)∧Below W.heap.size W w':=by
  have HC:Hid (∀ (v:Value),Rds W v l.length 1 (l.map numV)→(∃ a c,v=.slice a l.length c∧∀ (i x:Nat),l[i]?=some x→∃ bk o,a=some ⟨bk,o,none⟩∧bk<W.heap.size∧W.cell? ⟨bk,o+i,none⟩=some (.int .i64 (x:Int)))):=by
    intro v h
    rcases h.val with ⟨e1,e⟩|⟨bk,o,cap,e1,_,_,h3,h4⟩
    · refine ⟨none,0,by rw [e1,e],fun i x hx=>?_⟩
      rw [List.length_eq_zero_iff.1 e] at hx;simp at hx
    · exact ⟨some ⟨bk,o,none⟩,cap,e1,fun i x hx=>⟨bk,o,rfl,h3,h4 i _ (by rw [List.getElem?_map,hx];rfl)⟩⟩
  obtain ⟨a1,c1,rfl,k1⟩:=HC.out v1 h1
  obtain ⟨a2,c2,rfl,k2⟩:=HC.out v2 h2
  obtain ⟨K,hK⟩:∃ K,l.length=K:=⟨_,rfl⟩
  have HK:Hid (l.length=K):=hK
  have K1:Hid _:=k1
  have K2:Hid _:=k2
  rw [hK] at hn ⊢
  clear h1 h2 hK HC k1 k2
  go_enter Tryz.func28,Tryz.ntmps28
  go_wp2
  go_loopw [5] (fun iv wr=>∃ i:Nat,iv=.int .i64 i∧i≤K∧Hid (Below W.heap.size W wr)) (fun iv _=>K - (intOf iv).toNat)
  case atStart=>exact ⟨0,rfl,Nat.zero_le _,Below.refl _ _⟩
  case round =>
    obtain ⟨i,rfl,hi,hb⟩:=hrel
    by_cases hlt:i<K
    · obtain ⟨x,hx⟩:∃ x,l[i]?=some x:=⟨_,List.getElem?_eq_getElem (by rw [HK.out];exact hlt)⟩
      obtain ⟨g1,o1,rfl,l1,q1⟩:=K1.out i x hx
      obtain ⟨g2,o2,rfl,l2,q2⟩:=K2.out i x hx
      have hiI:(i:Int)<(K:Int):=by omega
      obtain ⟨σ,V,hne,V1,V2⟩:=class_of' (fun w'=>Below W.heap.size W w') ⟨_,Below.refl _ _⟩
      have kp:∀ (s:σ) (bb j:Nat) (v:Value),bb<W.heap.size→W.cell? ⟨bb,j,none⟩=some v→(V s).cell? ⟨bb,j,none⟩=some v:=fun s bb j v hl h=>((V1.out s).cell (p:=⟨bb,j,none⟩) hl).trans h
      replace q1:=fun s=>kp s _ _ _ l1 q1
      replace q2:=fun s=>kp s _ _ _ l2 q2
      clear hx K1 K2 kp
      go_wp2
      refine wp_region_class (C:=fun w'=>∃ s,w'=V s) (by kernel_rfl) (by kernel_rfl) (V2.out _ (hb.out.drew)) ?_
      repeat (go_big_quiet_step (fail))
      refine wpQuiet_nil ?_
      intro w9 hw9
      obtain ⟨s9,rfl⟩:=hw9
      have B9:Hid (Below W.heap.size W (V s9)):=V1.out s9
      go_wp2
      go_roundw
      case rel=>exact ⟨i+1,by go_num,by omega,B9⟩
      case measure=>simp [intOf];omega
    · have hiI:¬ (i:Int)<(K:Int):=by omega
      go_wp2
      exact bodyPost_ret (results_tmp rfl _ _ _) rfl ⟨rfl,hb.out⟩
def supI (ps:List Plc) (d:Int):Int×Int:=match plcI ps d with
  | some q=>if d=0 then (0,6) else ((q.sp:Int),0)
  | none=>(0,3)
theorem sup_c {b:Nat} {ps:List Plc} {W:World} (h:WAt b ps W) (d:Int):Calls Tryz.prog 27 #[.pointer (some ⟨b,0,none⟩),.int .i64 d] W fun e w'=>e=.returned (.tuple #[.int .i64 (supI ps d).1,.int .i64 (supI ps d).2])∧w'=W:=by
  obtain ⟨N,mb,vp,pv,h⟩:=h
  rcases plcI_cases ps d with ⟨h1,h2⟩|⟨k,q,rfl,h2,h1⟩
  · have e:supI ps d=(0,3):=by rw [supI,h1]
    rw [e];exact super_no N b mb ps vp pv d W h h2
  · have e:supI ps (k:Int)=if (k:Int)=0 then (0,6) else ((q.sp:Int),0):=by rw [supI,h1]
    refine (super_yes N b mb ps vp pv k q W h h2).mono fun e2 w' zz=>⟨?_,zz.2⟩
    rw [zz.1,e]
    by_cases h0:k=0
    · subst h0;rfl
    · rw [if_neg h0,if_neg (by omega)]
end Go.Proofs.YtkclpcmkplbclaaGreat
