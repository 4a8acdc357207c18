import Derived.Test.YtmafkabjjibcbaaGreatRpA
set_option maxHeartbeats 8000000
set_option maxRecDepth 100000
namespace Go.Proofs.YtmafkabjjibcbaaGreat
open Go.RowKit Go.Maps
theorem r12up_w (W:World) (b:Nat) (c:Int) (nm ds:ByteArray) (fl lo st:Int) (sa:Option Addr) (sk so:Nat) (l:List Nat) (K:Nat) (hK:K≤1000000) (HLK:Hid (l.length=K)) (ps:List Plc) (R:(Int×Int)×Bool) (HR0:Hid (uppI ps nm ds l=R))
 (HC:Hid (∀ w,Bw W w→Calls Tryz.prog 50 #[.pointer (some ⟨b,0,none⟩),.int .i64 c] w fun e w'=>(∃ v,e=.returned (.tuple #[v,.int .i64 0])∧w'.ownsRow w.heap.size 3 1 v K (l.map numV))∧Bw w w'))
 (HFA:Hid (∀ (k:Nat) w,Bw W w→Calls Tryz.prog 86 #[.pointer (some ⟨b,0,none⟩),.int .i64 (k:Int),.string nm,.string ds] w fun e w'=>e=.returned (.tuple #[.int .i64 (fndI ps k nm ds).1,.int .i64 (fndI ps k nm ds).2])∧Bw w w'))
 (HLA:Hid (∀ (k:Nat) (i:Int) (x:HM) w,Zo ps (k:Int) i=some x→Bw W w→Calls Tryz.prog 69 #[.pointer (some ⟨b,0,none⟩),.agg #[.int .i64 (k:Int),.int .i64 i]] w fun e w'=>e=.returned (.int .i64 x.fl)∧Bw w w')) :
 Calls Tryz.prog 75 #[.pointer (some ⟨b,0,none⟩),.int .i64 c,.agg #[.string nm,.string ds,.int .i64 fl,.int .i64 lo,.int .i64 st,.slice sa sk so]] W fun e w'=>e=.returned (idB R)∧Bw W w':=by
 go_enter Tryz.func75,Tryz.ntmps75
 go_wp2_with (first
  | (go_at_call 50;refine (HC.out _ sqR).mono ?_;rintro e w1 ⟨⟨v,rfl,ho⟩,hb⟩;obtain ⟨ca,cc,rfl⟩:=ownv ho;have O1:Hid (w1.ownsRow W.heap.size 3 1 (.slice ca K cc) K (l.map numV)):=Go.Joins.ownsRow_le ho (by simp;try omega);have yd:w1.heap[W.heap.size]?=some (.cells #[.string nm,.string ds,.int .i64 fl,.int .i64 lo,.int .i64 st,.slice sa sk so] 87 (0,0)):=(hb.block (W.heap.size) (by first|omega|(simp;try omega))).trans (Zg (Zm _ _));(try clear yB y0 y1 y2 y3 y4 y5 yf yL yN);have yB:Hid _:=yd;obtain ⟨y0,y1,y2,y3,y4,y5,yf,yL⟩:=rw6 yd;have yN:¬ W.heap.size=w1.heap.size:=(by omega);clear yd;have zd:w1.heap[W.heap.size+1]?=some (.cells #[.int .i64 0,.int .i64 0] 38 (0,0)):=(hb.block (W.heap.size+1) (by first|omega|(simp;try omega))).trans (Zd _ _ (by simp));(try clear zB z0 z1 zf zL zN);have zB:Hid _:=zd;obtain ⟨z0,z1,zf,zL⟩:=rw2 zd;have zN:¬ W.heap.size+1=w1.heap.size:=(by omega);clear zd;have B1:Hid (Bw W w1):=Za sqR hb;clear ho hb HC))
 have YB:Hid (w1.heap[W.heap.size]?=some (.cells #[.string nm,.string ds,.int .i64 fl,.int .i64 lo,.int .i64 st,.slice sa sk so] 87 (0,0))):=yB.out
 have ZB:Hid (w1.heap[W.heap.size+1]?=some (.cells #[.int .i64 0,.int .i64 0] 38 (0,0))):=zB.out
 have HZL:Hid (W.heap.size+1<w1.heap.size):=zL
 obtain ⟨σ,V,hne,V1,V2⟩:=class_of' (fun w'=>Bw w1 w') ⟨_,Below.refl _ _⟩
 have HV:Hid (∀ s0,Bw W (V s0)):=fun s0=>B1.out.trans ((V1.out s0).mono B1.out.size)
 have q0:∀ s0,(V s0).cell? ⟨W.heap.size,0,none⟩=some (.string nm):=fun s0=>((V1.out s0).cell (p:=⟨W.heap.size,0,none⟩) yL).trans y0
 have q1:∀ s0,(V s0).cell? ⟨W.heap.size,1,none⟩=some (.string ds):=fun s0=>((V1.out s0).cell (p:=⟨W.heap.size,1,none⟩) yL).trans y1
 clear yB y0 y1 y2 y3 y4 y5 yf yL yN zB z0 z1 zf zL zN
 go_loopw [10] (fun kv wr=>∃ (j:Nat),kv=.int .i64 j∧j≤K∧Hid (uppI ps nm ds (l.drop j)=R)∧Hid (Bw w1 wr)) (fun kv _=>K - (intOf kv).toNat)
 case atStart=>exact ⟨0,rfl,Nat.zero_le _,HR0,Below.refl _ _⟩
 case round =>
  obtain ⟨j,rfl,hj,hU,hB⟩:=hrel
  by_cases hlt:j<K
  ·have hjI:(j:Int)<(K:Int):=by omega
   obtain ⟨k,hk⟩:∃ k,l[j]?=some k:=⟨_,List.getElem?_eq_getElem (by rw [HLK.out];exact hlt)⟩
   obtain ⟨gc,c2,hform⟩:=Go.Joins.ownsRow_form O1.out (by omega)
   injection hform with hca _ hcc
   subst hca hcc
   obtain ⟨k0,kL⟩:=Ze7 O1.out hk
   have HK0:Hid (w1.cell? ⟨gc,j,none⟩=some (.int .i64 (k:Int))):=k0
   replace k0:=fun s0=>((V1.out s0).cell (p:=⟨gc,j,none⟩) kL).trans k0
   have hst:=Zj5 (ps:=ps) (nm:=nm) (ds:=ds) hk
   rw [hU.out] at hst
   have HQ:Hid (∀ s0,Calls Tryz.prog 86 #[.pointer (some ⟨b,0,none⟩),.int .i64 (k:Int),.string nm,.string ds] (V s0) fun e w''=>e=.returned (.tuple #[.int .i64 (fndI ps k nm ds).1,.int .i64 (fndI ps k nm ds).2])∧∃ s',w''=V s'):=fun s0=>(HFA.out k (V s0) (HV.out s0)).mono fun e w'' zz=>⟨zz.1,V2.out _ (Za (V1.out s0) zz.2)⟩
   have hmx:(fndI ps (k:Int) nm ds).2=0→∃ x,Zo ps (k:Int) (fndI ps (k:Int) nm ds).1=some x:=fun h0=>by
    obtain ⟨⟨x,hx,_⟩,_⟩:=J4 h0
    exact ⟨x,hx⟩
   have hsm:∀ x,Zo ps (k:Int) (fndI ps (k:Int) nm ds).1=some x→hasS ps (k:Int) (fndI ps (k:Int) nm ds).1 8=hasI x.fl 8:=fun x hx=>Zlk hx 8
   have HLX:Hid (∀ (x:HM) w,Zo ps (k:Int) (fndI ps (k:Int) nm ds).1=some x→Bw W w→Calls Tryz.prog 69 #[.pointer (some ⟨b,0,none⟩),.agg #[.int .i64 (k:Int),.int .i64 (fndI ps (k:Int) nm ds).1]] w fun e w'=>e=.returned (.int .i64 x.fl)∧Bw w w'):=fun x w hx hb=>HLA.out k _ x w hx hb
   have HST:Hid _:=hst
   have HMX:Hid _:=hmx
   have HSM:Hid _:=hsm
   generalize fndI ps (k:Int) nm ds=F at *
   obtain ⟨F1,F2⟩:=F
   simp only at HQ HST HMX HSM HLX
   clear hst hU hk hmx hsm HFA HLA
   by_cases hF:F2=0
   ·subst hF
    obtain ⟨x,hx⟩:=HMX.out rfl
    have HS:Hid (∀ w:World,Calls Tryz.prog 62 #[.int .i64 x.fl,.int .i64 8] w fun e w'=>e=.returned (.bool (hasI x.fl 8))∧w'=w):=Zw x.fl 8
    have HL:Hid (∀ w,Bw W w→Calls Tryz.prog 69 #[.pointer (some ⟨b,0,none⟩),.agg #[.int .i64 (k:Int),.int .i64 F1]] w fun e w'=>e=.returned (.int .i64 x.fl)∧Bw w w'):=fun w hb=>HLX.out x w hx hb
    have HST2:Hid (R=if hasI x.fl 8=false then (((k:Int),F1),true) else uppI ps nm ds (l.drop (j+1))):=by
     have h1:=HST.out
     rw [HSM.out x hx] at h1
     rw [Hid,h1]
     simp
    clear HST HMX HSM HLX hx
    generalize hasI x.fl 8=S at *
    cases S
    case false =>
     have eR:R=(((k:Int),F1),true):=by rw [HST2.out,if_pos rfl]
     subst eR
     clear HST2 HR0
     go_wp2
     refine Ze (C:=fun w'=>∃ s,w'=V s) (by kernel_rfl) (by kernel_rfl) (V2.out _ (hB.out.drew)) ?_
     repeat (go_big_quiet_step ((go_at_call 86;exact HQ.out _)))
     refine wpQuiet_nil ?_
     intro w2 hw2
     obtain ⟨s2,hw2⟩:=hw2
     have B2:Hid (Bw w1 w2):=by rw [hw2];exact V1.out s2
     have BW2:Hid (Bw W w2):=B1.out.trans (B2.out.mono B1.out.size)
     have k2:=(B2.out.cell (p:=⟨gc,j,none⟩) kL).trans HK0.out
     clear hw2
     go_wp2_with (first
      | (go_at_call 69;refine (HL.out _ (sqE BW2)).mono ?_;rintro e w3 ⟨rfl,hb⟩;have idd:=kp2 (n:=w2.heap.size) hb (by simp) (Zm _ _);obtain ⟨idB0,id0,id1,idf,idL,idN⟩:=idd;have zbd:=kp2 (n:=W.heap.size+1) hb (by have:=B2.out.size;have:=HZL.out;simp;omega) (Zg ((B2.out.block (W.heap.size+1) HZL.out).trans ZB.out));obtain ⟨zbB,zb0,zb1,zbf,zbL,zbN⟩:=zbd;have BW3:Hid (Bw W w3):=Za (sqE BW2) hb;clear hb HL)
      | (go_at_call 62;refine (HS.out _).mono ?_;rintro e w9 ⟨rfl,hw9⟩;rw [hw9];clear hw9 w9 HS))
     exact bodyPost_ret (v:=idB (((k:Int),F1),true)) (by simp [results,Tryz.results75,go_sem,idB, *]) rfl ⟨rfl,(sqE BW3)⟩
    case true =>
     have HNX:Hid (uppI ps nm ds (l.drop (j+1))=R):=by rw [Hid,HST2.out,if_neg (by simp)]
     clear HST2
     go_wp2
     refine Ze (C:=fun w'=>∃ s,w'=V s) (by kernel_rfl) (by kernel_rfl) (V2.out _ (hB.out.drew)) ?_
     repeat (go_big_quiet_step ((go_at_call 86;exact HQ.out _)))
     refine wpQuiet_nil ?_
     intro w2 hw2
     obtain ⟨s2,hw2⟩:=hw2
     have B2:Hid (Bw w1 w2):=by rw [hw2];exact V1.out s2
     have BW2:Hid (Bw W w2):=B1.out.trans (B2.out.mono B1.out.size)
     have k2:=(B2.out.cell (p:=⟨gc,j,none⟩) kL).trans HK0.out
     clear hw2
     go_wp2_with (first
      | (go_at_call 69;refine (HL.out _ (sqE BW2)).mono ?_;rintro e w3 ⟨rfl,hb⟩;have B3:Hid (Bw w1 w3):=(B2.out.alloc B2.out.size _).trans (hb.mono (by have:=B2.out.size;simp;omega));clear hb HL)
      | (go_at_call 62;refine (HS.out _).mono ?_;rintro e w9 ⟨rfl,hw9⟩;rw [hw9];clear hw9 w9 HS))
     go_roundw
     case rel=>exact ⟨j+1,by go_num,by omega,HNX,B3⟩
     case measure=>simp [intOf];omega
   ·have HNX:Hid (uppI ps nm ds (l.drop (j+1))=R):=by rw [Hid,HST.out,if_neg (fun h=>hF h.1)]
    clear HST HMX HSM HLX
    go_wp2
    refine Ze (C:=fun w'=>∃ s,w'=V s) (by kernel_rfl) (by kernel_rfl) (V2.out _ (hB.out.drew)) ?_
    repeat (go_big_quiet_step ((go_at_call 86;exact HQ.out _)))
    refine wpQuiet_nil ?_
    intro w2 hw2
    obtain ⟨s2,hw2⟩:=hw2
    have B2:Hid (Bw w1 w2):=by rw [hw2];exact V1.out s2
    have k2:=(B2.out.cell (p:=⟨gc,j,none⟩) kL).trans HK0.out
    clear hw2
    go_wp2
    go_roundw
    case rel=>exact ⟨j+1,by go_num,by omega,HNX,B2.out.alloc B2.out.size _⟩
    case measure=>simp [intOf];omega
  ·have e:j=K:=by omega
   subst e
   have eR:R=((0,0),false):=by
    have h1:=hU.out
    rw [List.drop_of_length_le (by rw [HLK.out];exact Nat.le_refl _)] at h1
    exact h1.symm
   subst eR
   have BW:Hid (Bw W wr):=B1.out.trans (hB.out.mono B1.out.size)
   obtain ⟨z0,z1,zf,zL⟩:=rw2 ((hB.out.block (W.heap.size+1) HZL.out).trans ZB.out)
   clear hU HR0
   go_wp2
   exact bodyPost_ret (v:=idB ((0,0),false)) (by simp [results,Tryz.results75,go_sem,idB, *]) rfl ⟨rfl,(sqE BW)⟩
theorem r12up_c {b:Nat} {cs:List Cls} {ps:List Plc} {W:World} (h:RAt b cs W) (ht:TwW cs ps) (k:Nat) (hk:k<ps.length) (nm ds:ByteArray) (fl lo st:Int) (sa:Option Addr) (sk so:Nat):Calls Tryz.prog 75 #[.pointer (some ⟨b,0,none⟩),.int .i64 (k:Int),.agg #[.string nm,.string ds,.int .i64 fl,.int .i64 lo,.int .i64 st,.slice sa sk so]] W fun e w'=>e=.returned (idB (uppI ps nm ds (chL (ps.map nd) k)))∧Bw W w' :=
 r12up_w W b (k:Int) nm ds fl lo st sa sk so (chL (ps.map nd) k) (chL (ps.map nd) k).length (Zew ht.wi hk) rfl ps _ rfl (fun _ hb=>Zak (h.below hb) ht k hk) (fun j _ hb=>Zgy (h.below hb) ht j nm ds) (fun j i x _ hx hb=>Zbw (h.below hb) ht j i x hx)
def lst0 (l:List (Int×Int)):Int×Int:=l.getLast?.getD (0,0)
theorem Zlf (l:List (Int×Int)) (x:Int×Int):lst0 (l++[x])=x:=by simp [lst0]
theorem Ze6 {W w:World} {c d:Value} {i:Nat} {T:TypeId} (h:w.heap[i]?=some (.cells #[c,d] T (0,0))):w.cell? ⟨i,0,none⟩=some c∧w.cell? ⟨i,1,none⟩=some d∧w.frozen? ⟨i,0,none⟩=false∧w.frozen? ⟨i,1,none⟩=false∧i<w.heap.size∧W=W :=
 ⟨(cell_of_row w i 0 _ _ _ h).trans rfl,(cell_of_row w i 1 _ _ _ h).trans rfl,frozen_of_row w i 0 _ _ h,frozen_of_row w i 1 _ _ h,(Array.getElem?_eq_some_iff.1 h).1,rfl⟩
theorem rOne_yes {b:Nat} {cs:List Cls} {ps:List Plc} {W:World} (h:RAt b cs W) (ht:TwW cs ps) (hJ:WJ ps) (k:Nat) (q:Plc) (hq:ps[k]?=some q) (nm ds:ByteArray):Calls Tryz.prog 72 #[.pointer (some ⟨b,0,none⟩),.int .i64 (k:Int),.string nm,.string ds] W fun e w'=>e=.returned (idE (oneV ps (Zv ps nm ds q.cl)))∧Bw W w':=by
 have hcb:(Zv ps nm ds q.cl).length≤300:=Nat.le_trans (Qt ps nm ds q.cl) (Nat.le_trans (wi_cl ht.wi hq) ht.wi.hi)
 have HW0:Hid (RAt b cs W):=h
 have HTW:Hid (TwW cs ps):=ht
 have HQ:Hid (∀ w,Bw W w→Calls Tryz.prog 127 #[.pointer (some ⟨b,0,none⟩),.int .i64 (k:Int),.string nm,.string ds] w fun e w'=>(∃ v,e=.returned (.tuple #[v,.int .i64 0])∧w'.ownsRow w.heap.size 38 2 v (maxL ps (Zv ps nm ds q.cl)).length (Zf (maxL ps (Zv ps nm ds q.cl))))∧Bw w w'):=fun w hb=>Zh0 (h.below hb) ht hJ k 0 nm ds _ hcb fun w' hb'=>Zku ((h.below hb).below hb') ht hJ k q hq nm ds
 have HCF:Hid (∀ m∈maxL ps (Zv ps nm ds q.cl),∃ (i:Nat) (x:HM),m.1=(i:Int)∧Zo ps (i:Int) m.2=some x):=fun m hm=>by
  obtain ⟨⟨i,h1,_⟩,_,_,x,h2,_⟩:=Zjt ht.wi hq (max_mem hm)
  exact ⟨i,x,h1,by rw [← h1];exact h2⟩
 have HOV:Hid (oneV ps (Zv ps nm ds q.cl)=match (maxL ps (Zv ps nm ds q.cl)).filter (fun m=>!hasS ps m.1 m.2 1024) with | []=>((0,0),24) | [m]=>(m,0)|_=>((0,0),23)):=rfl
 have hmb:(maxL ps (Zv ps nm ds q.cl)).length≤300:=Nat.le_trans (List.length_filter_le _ _) hcb
 generalize oneV ps (Zv ps nm ds q.cl)=R at *
 generalize maxL ps (Zv ps nm ds q.cl)=M at *
 obtain ⟨K,hK⟩:∃ K,M.length=K:=⟨_,rfl⟩
 have HK:Hid (M.length=K):=hK
 rw [hK] at hmb
 clear h ht hJ hq hcb hK
 go_enter Tryz.func72,Tryz.ntmps72
 go_wp2_with (first
  | (go_at_call 127;refine (HQ.out _ sqR).mono ?_;rintro e w1 ⟨⟨v,rfl,ho⟩,hb⟩;rw [HK.out] at ho;obtain ⟨ca,cc,rfl⟩:=ownv ho;have O1:Hid (w1.ownsRow W.heap.size 38 2 (.slice ca K cc) K (Zf M)):=Go.Joins.ownsRow_le ho (by simp);have zd:w1.heap[W.heap.size]?=some (.cells #[.int .i64 0,.int .i64 0] 38 (0,0)):=(hb.block (W.heap.size) (by first|omega|(simp;try omega))).trans (by first|exact zB.out|exact Zg zB.out|exact Zg (Zg zB.out)|exact Zd _ _ rfl|exact heap_alloc2_old _ _ _|exact heap_alloc2_new _ _ _|exact Zg (Zd _ _ rfl)|exact Zg (Zg (Zd _ _ rfl))|exact Zd _ _ (by simp;done));(try clear zB zL zN z0 z1 zf0 zf1);have zB:Hid (w1.heap[W.heap.size]?=some (.cells #[.int .i64 0,.int .i64 0] 38 (0,0))):=zd;have z0:w1.cell? ⟨W.heap.size,0,none⟩=some (.int .i64 0):=(cell_of_row w1 (W.heap.size) 0 _ _ _ zd).trans rfl;have zf0:=frozen_of_row w1 (W.heap.size) 0 _ _ zd;have z1:w1.cell? ⟨W.heap.size,1,none⟩=some (.int .i64 0):=(cell_of_row w1 (W.heap.size) 1 _ _ _ zd).trans rfl;have zf1:=frozen_of_row w1 (W.heap.size) 1 _ _ zd;have zL:W.heap.size<w1.heap.size:=(Array.getElem?_eq_some_iff.1 zd).1;have zN:¬ W.heap.size=w1.heap.size:=(by omega);clear zd;have hWw:W.heap.size<w1.heap.size:=zL;have hWn:¬ W.heap.size=w1.heap.size:=(by omega);have hWm:¬ w1.heap.size=W.heap.size:=(by omega);have B1:Hid (Bw W w1):=Za sqR hb;have HW1:Hid (RAt b cs w1):=HW0.out.below B1.out;clear ho hb HQ))
 go_loopw [12,14] (fun nv iv wr=>∃ (i:Nat),iv=.int .i64 i∧i≤K∧nv=.int .i64 (((M.take i).filter fun m=>!hasS ps m.1 m.2 1024).length:Int)∧Hid (wr.heap[w1.heap.size]?=some (.cells #[.int .i64 (lst0 ((M.take i).filter fun m=>!hasS ps m.1 m.2 1024)).1,.int .i64 (lst0 ((M.take i).filter fun m=>!hasS ps m.1 m.2 1024)).2] 38 (0,0)))∧Hid (Bw w1 wr)) (fun _ iv _=>K - (intOf iv).toNat)
 case atStart=>exact ⟨0,rfl,Nat.zero_le _,rfl,Zd _ _ rfl,(Below.refl _ _).alloc (Nat.le_refl _) _⟩
 case round =>
  obtain ⟨i,rfl,hi,rfl,hR,hB⟩:=hrel
  have hb:=hB.out
  have zd:wr.heap[W.heap.size]?=some (.cells #[.int .i64 0,.int .i64 0] 38 (0,0)):=(hb.block (W.heap.size) (by first|omega|(simp;try omega))).trans (by first|exact zB.out|exact Zg zB.out|exact Zg (Zg zB.out)|exact Zd _ _ rfl|exact heap_alloc2_old _ _ _|exact heap_alloc2_new _ _ _|exact Zg (Zd _ _ rfl)|exact Zg (Zg (Zd _ _ rfl))|exact Zd _ _ (by simp;done));(try clear zB zL zN z0 z1 zf0 zf1);have zB:Hid (wr.heap[W.heap.size]?=some (.cells #[.int .i64 0,.int .i64 0] 38 (0,0))):=zd;have z0:wr.cell? ⟨W.heap.size,0,none⟩=some (.int .i64 0):=(cell_of_row wr (W.heap.size) 0 _ _ _ zd).trans rfl;have zf0:=frozen_of_row wr (W.heap.size) 0 _ _ zd;have z1:wr.cell? ⟨W.heap.size,1,none⟩=some (.int .i64 0):=(cell_of_row wr (W.heap.size) 1 _ _ _ zd).trans rfl;have zf1:=frozen_of_row wr (W.heap.size) 1 _ _ zd;have zL:W.heap.size<wr.heap.size:=(Array.getElem?_eq_some_iff.1 zd).1;have zN:¬ W.heap.size=wr.heap.size:=(by omega);clear zd
  clear hb
  by_cases hlt:i<K
  ·have hiM:i<M.length:=by rw [HK.out];exact hlt
   obtain ⟨x,hx⟩:∃ x,M[i]?=some x:=⟨_,List.getElem?_eq_getElem hiM⟩
   have hst:=Zgk (p:=fun m=>!hasS ps m.1 m.2 1024) hx
   obtain ⟨g,c2,hform⟩:=Go.Joins.ownsRow_form O1.out (by omega)
   have HROW:Hid (w1.ownsRow W.heap.size 38 2 (.slice (some ⟨g,0,none⟩) M.length cc) M.length (Zf M)):=by
    have hrow:=O1.out
    injection hform with hca _ _
    rw [Hid,HK.out,← hca];exact hrow
   injection hform with hca _ hcc
   subst hca
   obtain ⟨e0,e1,hgl⟩:=Yc HROW.out hx
   have hgr:g<wr.heap.size:=Nat.lt_of_lt_of_le hgl hB.out.size
   replace e0:=(hB.out.cell (p:=⟨g,i * 2,none⟩) hgl).trans e0
   replace e1:=(hB.out.cell (p:=⟨g,i * 2+1,none⟩) hgl).trans e1
   obtain ⟨ix,X,hx1,hxm⟩:=HCF.out x (List.mem_of_getElem? hx)
   have hhs:hasS ps x.1 x.2 1024=hasI X.fl 1024:=by rw [hasS,hx1,hxm]
   obtain ⟨x1,x2⟩:=x
   simp only at e0 e1 hx1 hxm hhs hst
   subst hx1
   rw [hhs] at hst
   have HRr:Hid (RAt b cs wr):=HW1.out.below hB.out
   obtain ⟨g9,cap9,bk9,o9,n9,cm9,j9,rfl,c91,c92,c93,c94,c95,c96,c97,c98⟩:=HRr.out.flag HTW.out hxm
   have H4:Hid (∀ w:World,Calls Tryz.prog 62 #[.int .i64 X.fl,.int .i64 1024] w fun e w'=>e=.returned (.bool (hasI X.fl 1024))∧w'=w):=Zw X.fl 1024
   generalize hasI X.fl 1024=ab at *
   generalize X.fl=fl at *
   obtain ⟨P,hP⟩:∃ P,((M.take i).filter fun m=>!hasS ps m.1 m.2 1024)=P:=⟨_,rfl⟩
   rw [hP] at hst hR
   rw [hP]
   have hPb:P.length≤300:=by rw [← hP];exact Nat.le_trans (Zij i) (by rw [HK.out];exact hmb)
   have HST:Hid (List.filter (fun m=>!hasS ps m.1 m.2 1024) (List.take (i+1) M)=P++if !ab then [((ix:Int),(j9:Int))] else []):=hst
   obtain ⟨r0,r1,rf0,rf1,rL,_⟩:=Ze6 (W:=W) hR.out
   have hgn:¬ g=w1.heap.size:=by omega
   clear hst hP hx hiM hcc hxm hhs HROW
   cases ab with
   | true =>
     have hst2:List.filter (fun m=>!hasS ps m.1 m.2 1024) (List.take (i+1) M)=P:=by rw [HST.out];simp
     clear HST
     go_wp2
     go_quiet ((go_at_call 62;refine Calls.quiet_of_same (H4.out _)))
     go_wp2
     refine ⟨⟨i+1,by simp,by omega,by rw [hst2],?_,below_drewN hB.out _⟩,by simp [intOf];omega⟩
     rw [hst2];exact ((below_drewN (Below.refl wr.heap.size wr) nq).block w1.heap.size rL).trans hR.out
   | false =>
     have hst2:List.filter (fun m=>!hasS ps m.1 m.2 1024) (List.take (i+1) M)=P++[((ix:Int),(j9:Int))]:=by rw [HST.out];simp
     clear HST
     go_wp2
     go_quiet ((go_at_call 62;refine Calls.quiet_of_same (H4.out _)))
     go_wp2
     have hD:(wr.drewN nq).heap[w1.heap.size]?=some (.cells #[.int .i64 (lst0 P).1,.int .i64 (lst0 P).2] 38 (0,0)):=((below_drewN (Below.refl wr.heap.size wr) nq).block w1.heap.size rL).trans hR.out
     refine ⟨⟨i+1,by simp,by omega,by rw [hst2];simp,?_,((below_drewN hB.out _).setCell (by simp) _).setCell (by simp) _⟩,by simp [intOf];omega⟩
     rw [hst2,Zlf,Hid,heap_setCell_same _ _ _ #[.int .i64 (ix:Int),.int .i64 (lst0 P).2] 38 _ (by rw [heap_setCell_same _ _ _ _ _ _ hD];rfl)]
     rfl
  ·have e:i=K:=by omega
   subst e
   have HE:Hid (((M.take i).filter fun m=>!hasS ps m.1 m.2 1024)=M.filter fun m=>!hasS ps m.1 m.2 1024):=by rw [Hid,List.take_of_length_le (by rw [HK.out];exact Nat.le_refl _)]
   rw [HE.out] at hR ⊢
   have BB:Hid (Bw W wr):=B1.out.trans (hB.out.mono B1.out.size)
   obtain ⟨r0,r1,rf0,rf1,rL,_⟩:=Ze6 (W:=W) hR.out
   have HF:Hid (R=match (M.filter fun m=>!hasS ps m.1 m.2 1024) with | []=>((0,0),24) | [m]=>(m,0)|_=>((0,0),23)):=HOV
   clear HE HOV hR HCF
   generalize (M.filter fun m=>!hasS ps m.1 m.2 1024)=F at *
   match F with
   | [] =>
     have eR:R=((0,0),24):=HF.out
     subst eR
     clear HF
     go_wp2
     exact bodyPost_ret (v:=idE ((0,0),24)) (by simp [results,Tryz.results72,go_sem,idE, *]) rfl ⟨rfl,(by repeat (first|exact BB.out|exact Below.refl _ _|refine Below.setCell ?_ (by simp;try omega) _|refine Below.alloc ?_ (by have:=BB.out.size;simp;try omega) _|refine Below.drew ?_))⟩
   | [m] =>
     have eR:R=(m,0):=HF.out
     subst eR
     clear HF
     obtain ⟨m1,m2⟩:=m
     have hl:lst0 [(m1,m2)]=(m1,m2):=rfl
     rw [hl] at r0 r1
     go_wp2
     exact bodyPost_ret (v:=idE ((m1,m2),0)) (by simp [results,Tryz.results72,go_sem,idE, *]) rfl ⟨rfl,(by repeat (first|exact BB.out|exact Below.refl _ _|refine Below.setCell ?_ (by simp;try omega) _|refine Below.alloc ?_ (by have:=BB.out.size;simp;try omega) _|refine Below.drew ?_))⟩
   | m::m'::r =>
     have eR:R=((0,0),23):=HF.out
     subst eR
     have hl2:(m::m'::r).length=r.length+2:=rfl
     clear HF r0 r1
     generalize (m::m'::r)=ol at *
     have n1:¬ (ol.length:Int)=0:=by omega
     have n2:(1:Int)<(ol.length:Int):=by omega
     clear hl2
     go_wp2
     exact bodyPost_ret (v:=idE ((0,0),23)) (by simp [results,Tryz.results72,go_sem,idE, *]) rfl ⟨rfl,(by repeat (first|exact BB.out|exact Below.refl _ _|refine Below.setCell ?_ (by simp;try omega) _|refine Below.alloc ?_ (by have:=BB.out.size;simp;try omega) _|refine Below.drew ?_))⟩
theorem rOne_no {b:Nat} {cs:List Cls} {ps:List Plc} {W:World} (h:RAt b cs W) (ht:TwW cs ps) (hJ:WJ ps) (c:Int) (hc:plcI ps c=none) (nm ds:ByteArray):Calls Tryz.prog 72 #[.pointer (some ⟨b,0,none⟩),.int .i64 c,.string nm,.string ds] W fun e w'=>e=.returned (idE ((0,0),3))∧Bw W w':=by
 have HQ:Hid (∀ w,Bw W w→Calls Tryz.prog 127 #[.pointer (some ⟨b,0,none⟩),.int .i64 c,.string nm,.string ds] w fun e w'=>(∃ v,e=.returned (.tuple #[v,.int .i64 3])∧w'.ownsRow w.heap.size 38 2 v 0 [])∧Bw w w'):=fun w hb=>Zh0 (h.below hb) ht hJ c 3 nm ds [] (by simp) fun w' hb'=>(rCand_no ((h.below hb).below hb') ht c hc nm ds).mono fun e w'' zz=>⟨⟨_,zz.1,World.ownsRow_nil _ _ _ _⟩,zz.2⟩
 clear h ht hJ hc
 go_enter Tryz.func72,Tryz.ntmps72
 go_wp2_with (first
  | (go_at_call 127;refine (HQ.out _ sqR).mono ?_;rintro e w1 ⟨⟨v,rfl,ho⟩,hb⟩;obtain ⟨ca,cc,rfl⟩:=ownv ho;have zd:w1.heap[W.heap.size]?=some (.cells #[.int .i64 0,.int .i64 0] 38 (0,0)):=(hb.block (W.heap.size) (by first|omega|(simp;try omega))).trans (by first|exact zB.out|exact Zg zB.out|exact Zg (Zg zB.out)|exact Zd _ _ rfl|exact heap_alloc2_old _ _ _|exact heap_alloc2_new _ _ _|exact Zg (Zd _ _ rfl)|exact Zg (Zg (Zd _ _ rfl))|exact Zd _ _ (by simp;done));(try clear zB zL zN z0 z1 zf0 zf1);have zB:Hid (w1.heap[W.heap.size]?=some (.cells #[.int .i64 0,.int .i64 0] 38 (0,0))):=zd;have z0:w1.cell? ⟨W.heap.size,0,none⟩=some (.int .i64 0):=(cell_of_row w1 (W.heap.size) 0 _ _ _ zd).trans rfl;have zf0:=frozen_of_row w1 (W.heap.size) 0 _ _ zd;have z1:w1.cell? ⟨W.heap.size,1,none⟩=some (.int .i64 0):=(cell_of_row w1 (W.heap.size) 1 _ _ _ zd).trans rfl;have zf1:=frozen_of_row w1 (W.heap.size) 1 _ _ zd;have zL:W.heap.size<w1.heap.size:=(Array.getElem?_eq_some_iff.1 zd).1;have zN:¬ W.heap.size=w1.heap.size:=(by omega);clear zd;have B1:Hid (Bw W w1):=Za sqR hb;clear ho hb HQ))
 exact bodyPost_ret (v:=idE ((0,0),3)) (by simp [results,Tryz.results72,go_sem,idE, *]) rfl ⟨rfl,(by repeat (first|exact B1.out|refine Below.setCell ?_ (by simp;try omega) _|refine Below.alloc ?_ (by have:=B1.out.size;simp;try omega) _|refine Below.drew ?_))⟩
theorem r12V_1 (W:World) (b:Nat) (r c i:Int) (inr ism:Bool) (hno:(inr&&ism)=false) (HI:Hid (∀ w,Bw W w→Calls Tryz.prog 68 #[.pointer (some ⟨b,0,none⟩),.int .i64 r] w fun e w'=>e=.returned (.bool inr)∧w'=w)) (HJ:Hid (∀ w,Bw W w→Calls Tryz.prog 63 #[.pointer (some ⟨b,0,none⟩),.agg #[.int .i64 c,.int .i64 i]] w fun e w'=>e=.returned (.bool ism)∧Bw w w')):Calls Tryz.prog 26 #[.pointer (some ⟨b,0,none⟩),.int .i64 r,.agg #[.int .i64 c,.int .i64 i]] W fun e w'=>e=.returned (idE ((0,0),3))∧Bw W w':=by
 have BB:Hid (Bw W W):=Below.refl _ _
 cases inr
 case false =>
  clear HJ hno
  go_enter Tryz.func26,Tryz.ntmps26
  go_wp2_with (first
   | (go_at_call 68;refine (HI.out _ (sqE BB)).mono ?_;rintro e w9 ⟨rfl,hw9⟩;rw [hw9];clear hw9 w9 HI))
  exact bodyPost_ret (v:=idE ((0,0),3)) (by simp [results,Tryz.results26,go_sem,idE, *]) rfl ⟨rfl,(sqE BB)⟩
 case true =>
  obtain rfl:ism=false:=by simpa using hno
  clear hno
  go_enter Tryz.func26,Tryz.ntmps26
  go_wp2_with (first
   | (go_at_call 68;refine (HI.out _ (sqE BB)).mono ?_;rintro e w9 ⟨rfl,hw9⟩;rw [hw9];clear hw9 w9 HI)
   | (go_at_call 63;refine (HJ.out _ (sqE BB)).mono ?_;rintro e w1 ⟨rfl,hb⟩;have abd:=kp2 (n:=W.heap.size) hb;(try clear abB ab0 ab1 abf abL abN);obtain ⟨abB,ab0,ab1,abf,abL,abN⟩:=abd;have zbd:=kp2 (n:=W.heap.size+1) hb;(try clear zbB zb0 zb1 zbf zbL zbN);obtain ⟨zbB,zb0,zb1,zbf,zbL,zbN⟩:=zbd;have BB2:Bw W w1:=Za (sqE BB) hb;clear BB;have BB:Hid (Bw W w1):=BB2;clear HJ;clear BB2 hb))
  exact bodyPost_ret (v:=idE ((0,0),3)) (by simp [results,Tryz.results26,go_sem,idE, *]) rfl ⟨rfl,(sqE BB)⟩
theorem r12V_2 (W:World) (b:Nat) (r c i:Int) (HI:Hid (∀ w,Bw W w→Calls Tryz.prog 68 #[.pointer (some ⟨b,0,none⟩),.int .i64 r] w fun e w'=>e=.returned (.bool true)∧w'=w)) (HJ:Hid (∀ w,Bw W w→Calls Tryz.prog 63 #[.pointer (some ⟨b,0,none⟩),.agg #[.int .i64 c,.int .i64 i]] w fun e w'=>e=.returned (.bool true)∧Bw w w')) (HF:Hid (∀ w,Bw W w→Calls Tryz.prog 61 #[.pointer (some ⟨b,0,none⟩),.int .i64 r] w fun e w'=>e=.returned (.bool true)∧w'=w)):Calls Tryz.prog 26 #[.pointer (some ⟨b,0,none⟩),.int .i64 r,.agg #[.int .i64 c,.int .i64 i]] W fun e w'=>e=.returned (idE ((0,0),2))∧Bw W w':=by
 have BB:Hid (Bw W W):=Below.refl _ _
 go_enter Tryz.func26,Tryz.ntmps26
 go_wp2_with (first
  | (go_at_call 68;refine (HI.out _ (sqE BB)).mono ?_;rintro e w9 ⟨rfl,hw9⟩;rw [hw9];clear hw9 w9 HI)
  | (go_at_call 63;refine (HJ.out _ (sqE BB)).mono ?_;rintro e w1 ⟨rfl,hb⟩;have abd:=kp2 (n:=W.heap.size) hb;(try clear abB ab0 ab1 abf abL abN);obtain ⟨abB,ab0,ab1,abf,abL,abN⟩:=abd;have zbd:=kp2 (n:=W.heap.size+1) hb;(try clear zbB zb0 zb1 zbf zbL zbN);obtain ⟨zbB,zb0,zb1,zbf,zbL,zbN⟩:=zbd;have BB2:Bw W w1:=Za (sqE BB) hb;clear BB;have BB:Hid (Bw W w1):=BB2;clear HJ;clear BB2 hb)
  | (go_at_call 61;refine (HF.out _ (sqE BB)).mono ?_;rintro e w9 ⟨rfl,hw9⟩;rw [hw9];clear hw9 w9 HF))
 exact bodyPost_ret (v:=idE ((0,0),2)) (by simp [results,Tryz.results26,go_sem,idE, *]) rfl ⟨rfl,(sqE BB)⟩
theorem r12V_3 (W:World) (b:Nat) (r c i:Int) (fl:Int) (HI:Hid (∀ w,Bw W w→Calls Tryz.prog 68 #[.pointer (some ⟨b,0,none⟩),.int .i64 r] w fun e w'=>e=.returned (.bool true)∧w'=w)) (HJ:Hid (∀ w,Bw W w→Calls Tryz.prog 63 #[.pointer (some ⟨b,0,none⟩),.agg #[.int .i64 c,.int .i64 i]] w fun e w'=>e=.returned (.bool true)∧Bw w w')) (HF:Hid (∀ w,Bw W w→Calls Tryz.prog 61 #[.pointer (some ⟨b,0,none⟩),.int .i64 r] w fun e w'=>e=.returned (.bool false)∧w'=w)) (HL:Hid (∀ w,Bw W w→Calls Tryz.prog 69 #[.pointer (some ⟨b,0,none⟩),.agg #[.int .i64 c,.int .i64 i]] w fun e w'=>e=.returned (.int .i64 fl)∧Bw w w')) (H8:Hid (∀ w:World,Calls Tryz.prog 62 #[.int .i64 fl,.int .i64 8] w fun e w'=>e=.returned (.bool true)∧w'=w)):Calls Tryz.prog 26 #[.pointer (some ⟨b,0,none⟩),.int .i64 r,.agg #[.int .i64 c,.int .i64 i]] W fun e w'=>e=.returned (idE ((0,0),23))∧Bw W w':=by
 have BB:Hid (Bw W W):=Below.refl _ _
 go_enter Tryz.func26,Tryz.ntmps26
 go_wp2_with (first
  | (go_at_call 68;refine (HI.out _ (sqE BB)).mono ?_;rintro e w9 ⟨rfl,hw9⟩;rw [hw9];clear hw9 w9 HI)
  | (go_at_call 63;refine (HJ.out _ (sqE BB)).mono ?_;rintro e w1 ⟨rfl,hb⟩;have abd:=kp2 (n:=W.heap.size) hb;(try clear abB ab0 ab1 abf abL abN);obtain ⟨abB,ab0,ab1,abf,abL,abN⟩:=abd;have zbd:=kp2 (n:=W.heap.size+1) hb;(try clear zbB zb0 zb1 zbf zbL zbN);obtain ⟨zbB,zb0,zb1,zbf,zbL,zbN⟩:=zbd;have BB2:Bw W w1:=Za (sqE BB) hb;clear BB;have BB:Hid (Bw W w1):=BB2;clear HJ;clear BB2 hb)
  | (go_at_call 61;refine (HF.out _ (sqE BB)).mono ?_;rintro e w9 ⟨rfl,hw9⟩;rw [hw9];clear hw9 w9 HF)
  | (go_at_call 69;refine (HL.out _ (sqE BB)).mono ?_;rintro e w2 ⟨rfl,hb⟩;have abd:=kp2 (n:=W.heap.size) hb;(try clear abB ab0 ab1 abf abL abN);obtain ⟨abB,ab0,ab1,abf,abL,abN⟩:=abd;have zbd:=kp2 (n:=W.heap.size+1) hb;(try clear zbB zb0 zb1 zbf zbL zbN);obtain ⟨zbB,zb0,zb1,zbf,zbL,zbN⟩:=zbd;have BB2:Bw W w2:=Za (sqE BB) hb;clear BB;have BB:Hid (Bw W w2):=BB2;clear HL;clear BB2 hb)
  | (go_at_call 62;refine (H8.out _).mono ?_;rintro e w9 ⟨rfl,hw9⟩;rw [hw9];clear hw9 w9 H8))
 exact bodyPost_ret (v:=idE ((0,0),23)) (by simp [results,Tryz.results26,go_sem,idE, *]) rfl ⟨rfl,(sqE BB)⟩
theorem r12V_4 (W:World) (b:Nat) (r c i:Int) (fl:Int) (HI:Hid (∀ w,Bw W w→Calls Tryz.prog 68 #[.pointer (some ⟨b,0,none⟩),.int .i64 r] w fun e w'=>e=.returned (.bool true)∧w'=w)) (HJ:Hid (∀ w,Bw W w→Calls Tryz.prog 63 #[.pointer (some ⟨b,0,none⟩),.agg #[.int .i64 c,.int .i64 i]] w fun e w'=>e=.returned (.bool true)∧Bw w w')) (HF:Hid (∀ w,Bw W w→Calls Tryz.prog 61 #[.pointer (some ⟨b,0,none⟩),.int .i64 r] w fun e w'=>e=.returned (.bool false)∧w'=w)) (HL:Hid (∀ w,Bw W w→Calls Tryz.prog 69 #[.pointer (some ⟨b,0,none⟩),.agg #[.int .i64 c,.int .i64 i]] w fun e w'=>e=.returned (.int .i64 fl)∧Bw w w')) (H8:Hid (∀ w:World,Calls Tryz.prog 62 #[.int .i64 fl,.int .i64 8] w fun e w'=>e=.returned (.bool false)∧w'=w)) (f1 f2 u1 u2 u3:Int) (HG:Hid (∀ w,Bw W w→Calls Tryz.prog 70 #[.pointer (some ⟨b,0,none⟩),.int .i64 r,.agg #[.int .i64 c,.int .i64 i]] w fun e w'=>e=.returned (.tuple #[.agg #[.int .i64 f1,.int .i64 f2],.int .i64 0])∧Bw w w')) (HD:Hid (∀ w,Bw W w→Calls Tryz.prog 71 #[.pointer (some ⟨b,0,none⟩),.agg #[.int .i64 f1,.int .i64 f2]] w fun e w'=>e=.returned (.tuple #[.agg #[.int .i64 u1,.int .i64 u2],.int .i64 u3])∧Bw w w')):Calls Tryz.prog 26 #[.pointer (some ⟨b,0,none⟩),.int .i64 r,.agg #[.int .i64 c,.int .i64 i]] W fun e w'=>e=.returned (idE ((u1,u2),u3))∧Bw W w':=by
 have BB:Hid (Bw W W):=Below.refl _ _
 go_enter Tryz.func26,Tryz.ntmps26
 go_wp2_with (first
  | (go_at_call 68;refine (HI.out _ (sqE BB)).mono ?_;rintro e w9 ⟨rfl,hw9⟩;rw [hw9];clear hw9 w9 HI)
  | (go_at_call 63;refine (HJ.out _ (sqE BB)).mono ?_;rintro e w1 ⟨rfl,hb⟩;have abd:=kp2 (n:=W.heap.size) hb;(try clear abB ab0 ab1 abf abL abN);obtain ⟨abB,ab0,ab1,abf,abL,abN⟩:=abd;have zbd:=kp2 (n:=W.heap.size+1) hb;(try clear zbB zb0 zb1 zbf zbL zbN);obtain ⟨zbB,zb0,zb1,zbf,zbL,zbN⟩:=zbd;have BB2:Bw W w1:=Za (sqE BB) hb;clear BB;have BB:Hid (Bw W w1):=BB2;clear HJ;clear BB2 hb)
  | (go_at_call 61;refine (HF.out _ (sqE BB)).mono ?_;rintro e w9 ⟨rfl,hw9⟩;rw [hw9];clear hw9 w9 HF)
  | (go_at_call 69;refine (HL.out _ (sqE BB)).mono ?_;rintro e w2 ⟨rfl,hb⟩;have abd:=kp2 (n:=W.heap.size) hb;(try clear abB ab0 ab1 abf abL abN);obtain ⟨abB,ab0,ab1,abf,abL,abN⟩:=abd;have zbd:=kp2 (n:=W.heap.size+1) hb;(try clear zbB zb0 zb1 zbf zbL zbN);obtain ⟨zbB,zb0,zb1,zbf,zbL,zbN⟩:=zbd;have BB2:Bw W w2:=Za (sqE BB) hb;clear BB;have BB:Hid (Bw W w2):=BB2;clear HL;clear BB2 hb)
  | (go_at_call 62;refine (H8.out _).mono ?_;rintro e w9 ⟨rfl,hw9⟩;rw [hw9];clear hw9 w9 H8)
  | (go_at_call 70;refine (HG.out _ (sqE BB)).mono ?_;rintro e w3 ⟨rfl,hb⟩;have abd:=kp2 (n:=W.heap.size) hb;(try clear abB ab0 ab1 abf abL abN);obtain ⟨abB,ab0,ab1,abf,abL,abN⟩:=abd;have zbd:=kp2 (n:=W.heap.size+1) hb;(try clear zbB zb0 zb1 zbf zbL zbN);obtain ⟨zbB,zb0,zb1,zbf,zbL,zbN⟩:=zbd;have BB2:Bw W w3:=Za (sqE BB) hb;clear BB;have BB:Hid (Bw W w3):=BB2;clear HG;clear BB2 hb)
  | (go_at_call 71;refine (HD.out _ (sqE BB)).mono ?_;rintro e w4 ⟨rfl,hb⟩;have zbd:=kp2 (n:=W.heap.size+1) hb;(try clear zbB zb0 zb1 zbf zbL zbN);obtain ⟨zbB,zb0,zb1,zbf,zbL,zbN⟩:=zbd;have BB2:Bw W w4:=Za (sqE BB) hb;clear BB;have BB:Hid (Bw W w4):=BB2;clear HD;clear BB2 hb))
 exact bodyPost_ret (v:=idE ((u1,u2),u3)) (by simp [results,Tryz.results26,go_sem,idE, *]) rfl ⟨rfl,(sqE BB)⟩
theorem r12V_5 {cs:List Cls} {ps:List Plc} (x:HM) (W:World) (b:Nat) (r c i:Int) (fl:Int) (HI:Hid (∀ w,Bw W w→Calls Tryz.prog 68 #[.pointer (some ⟨b,0,none⟩),.int .i64 r] w fun e w'=>e=.returned (.bool true)∧w'=w)) (HJ:Hid (∀ w,Bw W w→Calls Tryz.prog 63 #[.pointer (some ⟨b,0,none⟩),.agg #[.int .i64 c,.int .i64 i]] w fun e w'=>e=.returned (.bool true)∧Bw w w')) (HF:Hid (∀ w,Bw W w→Calls Tryz.prog 61 #[.pointer (some ⟨b,0,none⟩),.int .i64 r] w fun e w'=>e=.returned (.bool false)∧w'=w)) (HL:Hid (∀ w,Bw W w→Calls Tryz.prog 69 #[.pointer (some ⟨b,0,none⟩),.agg #[.int .i64 c,.int .i64 i]] w fun e w'=>e=.returned (.int .i64 fl)∧Bw w w')) (H8:Hid (∀ w:World,Calls Tryz.prog 62 #[.int .i64 fl,.int .i64 8] w fun e w'=>e=.returned (.bool false)∧w'=w)) (f1 f2 f3 o1 o2 o3:Int) (hf:¬ f3=0) (HG:Hid (∀ w,Bw W w→Calls Tryz.prog 70 #[.pointer (some ⟨b,0,none⟩),.int .i64 r,.agg #[.int .i64 c,.int .i64 i]] w fun e w'=>e=.returned (.tuple #[.agg #[.int .i64 f1,.int .i64 f2],.int .i64 f3])∧Bw w w')) (HO:Hid (∀ w,Bw W w→Calls Tryz.prog 72 #[.pointer (some ⟨b,0,none⟩),.int .i64 r,.string x.nm,.string x.ds] w fun e w'=>e=.returned (.tuple #[.agg #[.int .i64 o1,.int .i64 o2],.int .i64 o3])∧Bw w w')) (HR:Hid (RAt b cs W)) (HT:Hid (TwW cs ps)) (HX:Hid (Zo ps c i=some x)):Calls Tryz.prog 26 #[.pointer (some ⟨b,0,none⟩),.int .i64 r,.agg #[.int .i64 c,.int .i64 i]] W fun e w'=>e=.returned (idE ((o1,o2),o3))∧Bw W w':=by
 have BB:Hid (Bw W W):=Below.refl _ _
 obtain ⟨kc,q,hck,_,_,_⟩:=Yo HX.out
 subst hck
 go_enter Tryz.func26,Tryz.ntmps26
 go_upto_region 10 with (first
  | (go_at_call 68;refine (HI.out _ (sqE BB)).mono ?_;rintro e w9 ⟨rfl,hw9⟩;rw [hw9];clear hw9 w9 HI)
  | (go_at_call 63;refine (HJ.out _ (sqE BB)).mono ?_;rintro e w1 ⟨rfl,hb⟩;have abd:=kp2 (n:=W.heap.size) hb;(try clear abB ab0 ab1 abf abL abN);obtain ⟨abB,ab0,ab1,abf,abL,abN⟩:=abd;have zbd:=kp2 (n:=W.heap.size+1) hb;(try clear zbB zb0 zb1 zbf zbL zbN);obtain ⟨zbB,zb0,zb1,zbf,zbL,zbN⟩:=zbd;have BB2:Bw W w1:=Za (sqE BB) hb;clear BB;have BB:Hid (Bw W w1):=BB2;clear HJ;clear BB2 hb)
  | (go_at_call 61;refine (HF.out _ (sqE BB)).mono ?_;rintro e w9 ⟨rfl,hw9⟩;rw [hw9];clear hw9 w9 HF)
  | (go_at_call 69;refine (HL.out _ (sqE BB)).mono ?_;rintro e w2 ⟨rfl,hb⟩;have abd:=kp2 (n:=W.heap.size) hb;(try clear abB ab0 ab1 abf abL abN);obtain ⟨abB,ab0,ab1,abf,abL,abN⟩:=abd;have zbd:=kp2 (n:=W.heap.size+1) hb;(try clear zbB zb0 zb1 zbf zbL zbN);obtain ⟨zbB,zb0,zb1,zbf,zbL,zbN⟩:=zbd;have BB2:Bw W w2:=Za (sqE BB) hb;clear BB;have BB:Hid (Bw W w2):=BB2;clear HL;clear BB2 hb)
  | (go_at_call 62;refine (H8.out _).mono ?_;rintro e w9 ⟨rfl,hw9⟩;rw [hw9];clear hw9 w9 H8)
  | (go_at_call 70;refine (HG.out _ (sqE BB)).mono ?_;rintro e w3 ⟨rfl,hb⟩;have abd:=kp2 (n:=W.heap.size) hb;(try clear abB ab0 ab1 abf abL abN);obtain ⟨abB,ab0,ab1,abf,abL,abN⟩:=abd;have zbd:=kp2 (n:=W.heap.size+1) hb;(try clear zbB zb0 zb1 zbf zbL zbN);obtain ⟨zbB,zb0,zb1,zbf,zbL,zbN⟩:=zbd;have BB2:Bw W w3:=Za (sqE BB) hb;clear BB;have BB:Hid (Bw W w3):=BB2;clear HG;clear BB2 hb))
 obtain ⟨g,cap,bk,n,cm,j,ac,cc,hij,b0,hlt,hgl,hkI,c5,hbk,hjn,e0,e1,e2,e3,e4,e5,_,_,_⟩:=RAt.meth (HR.out.below BB.out) HT.out HX.out
 subst hij
 have bx1:¬ bk=w3.heap.size:=by omega
 have bx2:¬ g=w3.heap.size:=by omega
 have bx3:¬ b=w3.heap.size:=by omega
 clear HR HT HX
 go_region
 go_wp2_with (first
  | (go_at_call 72;refine (HO.out _ (sqE BB)).mono ?_;rintro e w4 ⟨rfl,hb⟩;have zbd:=kp2 (n:=W.heap.size+1) hb;(try clear zbB zb0 zb1 zbf zbL zbN);obtain ⟨zbB,zb0,zb1,zbf,zbL,zbN⟩:=zbd;have BB2:Bw W w4:=Za (sqE BB) hb;clear BB;have BB:Hid (Bw W w4):=BB2;clear HO;clear BB2 hb))
 exact bodyPost_ret (v:=idE ((o1,o2),o3)) (by simp [results,Tryz.results26,go_sem,idE, *]) rfl ⟨rfl,(sqE BB)⟩
theorem rOn_c {b:Nat} {cs:List Cls} {ps:List Plc} {W:World} (h:RAt b cs W) (ht:TwW cs ps) (hJ:WJ ps) (c:Int) (nm ds:ByteArray):Calls Tryz.prog 72 #[.pointer (some ⟨b,0,none⟩),.int .i64 c,.string nm,.string ds] W fun e w'=>e=.returned (idE (onI ps c nm ds))∧Bw W w':=by
 rcases Zl ps c with ⟨h1,_⟩|⟨k,q,rfl,h2,h1⟩
 ·have e:onI ps c nm ds=((0,0),3):=by rw [onI,h1]
  rw [e];exact rOne_no h ht hJ c h1 nm ds
 ·have e:onI ps (k:Int) nm ds=oneV ps (Zv ps nm ds q.cl):=by rw [onI,h1]
  rw [e];exact rOne_yes h ht hJ k q h2 nm ds
theorem r12vir_c {b:Nat} {cs:List Cls} {ps:List Plc} {W:World} (h:RAt b cs W) (ht:TwW cs ps) (hJ:WJ ps) (hS:SndI ps) (hU:UnqM ps) (hz:∀ c∈cs,c.nm.size≤maxLen) (r c i:Int):Calls Tryz.prog 26 #[.pointer (some ⟨b,0,none⟩),.int .i64 r,.agg #[.int .i64 c,.int .i64 i]] W fun e w'=>e=.returned (idE (virI ps r (c,i)))∧Bw W w':=by
 have hIN:=fun w (hb:Bw W w)=>Zbs (h.below hb) ht r
 have hIS:=fun w (hb:Bw W w)=>Zfh (h.below hb) ht c i
 cases hp:plcI ps r with
 | none =>
   have e:virI ps r (c,i)=((0,0),3):=by simp [virI,rfrI,crdI,hp]
   rw [e]
   exact r12V_1 W b r c i _ _ (by rw [hp];rfl) hIN hIS
 | some q =>
   cases hx:Zo ps c i with
   | none =>
     have e:virI ps r (c,i)=((0,0),3):=by simp [virI,rfrI,crdI,hp,hx]
     rw [e]
     exact r12V_1 W b r c i _ _ (by rw [hx];simp) hIN hIS
   | some x =>
     rw [hp] at hIN
     rw [hx] at hIS
     have hIF:=fun w (hb:Bw W w)=>(Y4 (h.below hb) r).mono fun e w' zz=>(⟨by rw [zz.1,Zaq ht],zz.2⟩:e=.returned (.bool (ifcI ps r))∧w'=w)
     have hFL:=fun w (hb:Bw W w)=>Zbw (h.below hb) ht c i x hx
     have hH8:=fun w:World=>Zw x.fl 8 w
     cases hf:ifcI ps r with
     | true =>
       have e:virI ps r (c,i)=((0,0),2):=by simp [virI,rfrI,crdI,hp,hx,hf]
       rw [e]
       rw [hf] at hIF
       exact r12V_2 W b r c i hIN hIS hIF
     | false =>
       rw [hf] at hIF
       have e:virI ps r (c,i)=if stB x.fl then ((0,0),23) else if (firI ps r (c,i)).2=0 then unaI ps (firI ps r (c,i)).1 else onI ps r x.nm x.ds:=by simp [virI,rfrI,crdI,hp,hx,hf]
       rw [e]
       have hst:stB x.fl=hasI x.fl 8:=rfl
       rw [hst]
       cases h8:hasI x.fl 8 with
       | true =>
         rw [h8] at hH8
         exact r12V_3 W b r c i x.fl hIN hIS hIF hFL hH8
       | false =>
         rw [h8] at hH8
         have hFI:=fun w (hb:Bw W w)=>Zky (h.below hb) ht hJ hS hU hz r c i
         rw [if_neg (by simp)]
         by_cases h0:(firI ps r (c,i)).2=0
         ·rw [if_pos h0]
          obtain ⟨kq,q2,rfl,hq2,_⟩:∃ (k:Nat) (q:Plc),r=(k:Int)∧ps[k]?=some q∧plcI ps r=some q:=by
           rcases Zl ps r with ⟨h1,_⟩|h1
           ·rw [h1] at hp;cases hp
           ·exact h1
          have hov:∃ y,Zo ps (firI ps (kq:Int) (c,i)).1.1 (firI ps (kq:Int) (c,i)).1.2=some y:=by
           have hc:=Zgh ht.wi hU (a:=(c,i)) hx hq2
           rw [hc] at h0 ⊢
           rw [firD] at h0 ⊢
           split at h0
           ·rename_i j hj
            obtain ⟨n,hn⟩:=(Zam ht.wi hU (a:=(c,i)) hx).1 (List.find?_some hj)
            obtain ⟨y,hy,_⟩:=Yp ht.wi (a:=(c,i)) hx n _ hn
            exact ⟨y,hy⟩
           ·cases h0
          obtain ⟨y,hy⟩:=hov
          rw [idE] at hFI
          simp only [h0] at hFI
          exact r12V_4 W b kq c i x.fl hIN hIS hIF hFL hH8 _ _ _ _ _ hFI (fun w hb=>Zk1 (h.below hb) ht _ _ y hy)
         ·rw [if_neg h0]
          exact r12V_5 x W b r c i x.fl hIN hIS hIF hFL hH8 _ _ _ _ _ _ h0 hFI (fun w hb=>rOn_c (h.below hb) ht hJ r x.nm x.ds) h ht hx
end Go.Proofs.YtmafkabjjibcbaaGreat
