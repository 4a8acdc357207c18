import Derived.Test.YtmafkabjjibcbaaGreatOvK
set_option maxHeartbeats 16000000
set_option maxRecDepth 100000
namespace Go.Proofs.YtmafkabjjibcbaaGreat
open Go.RowKit Go.Maps
theorem Jp {b:Nat} {cs:List Cls} {ps:List Plc} {W:World} (h:RAt b cs W) (ht:TwW cs ps) (c i:Int) (x:HM) (hx:Zo ps c i=some x):Calls Tryz.prog 188 #[.pointer (some ⟨b,0,none⟩),.agg #[.int .i64 c,.int .i64 i]] W fun e w'=>(∃ a n s,e=.returned (.agg #[.string x.nm,.string x.ds,.int .i64 x.fl,.int .i64 x.lo,.int .i64 x.st,.slice a n s]))∧Bw W w':=by
 obtain ⟨k,q,rfl,hq,_,_⟩:=Yo hx
 obtain ⟨g,cap,bk,n,cm,j,ac,cc,rfl,b0,hlt,hgl,hkI,c5,hbk,hjn,e0,e1,e2,e3,e4,e5,_,_,_⟩:=h.meth ht hx
 clear h ht hx hq
 have hB:Bw W ((W.alloc (.cells #[.int .i64 (k:Int),.int .i64 (j:Int)] 38)).alloc (.cells #[.string ⟨#[]⟩,.string ⟨#[]⟩,.int .i64 0,.int .i64 0,.int .i64 0,.slice none 0 0] 87)):=((Below.refl _ W).alloc (Nat.le_refl _) _).alloc (by simp) _
 have hA:((W.alloc (.cells #[.int .i64 (k:Int),.int .i64 (j:Int)] 38)).alloc (.cells #[.string ⟨#[]⟩,.string ⟨#[]⟩,.int .i64 0,.int .i64 0,.int .i64 0,.slice none 0 0] 87)).heap[W.heap.size]?=some (.cells #[.int .i64 (k:Int),.int .i64 (j:Int)] 38 (0,0)):=Zg (Zm _ _)
 have hZ:((W.alloc (.cells #[.int .i64 (k:Int),.int .i64 (j:Int)] 38)).alloc (.cells #[.string ⟨#[]⟩,.string ⟨#[]⟩,.int .i64 0,.int .i64 0,.int .i64 0,.slice none 0 0] 87)).heap[W.heap.size+1]?=some (.cells #[.string ⟨#[]⟩,.string ⟨#[]⟩,.int .i64 0,.int .i64 0,.int .i64 0,.slice none 0 0] 87 (0,0)):=Zd _ _ (by simp)
 replace b0:=(hB.cell (p:=⟨b,0,none⟩) hlt).trans b0
 replace c5:=(hB.cell (p:=⟨g,k * 6+5,none⟩) hgl).trans c5
 replace e0:=(hB.cell (p:=⟨bk,j * 6,none⟩) hbk).trans e0
 replace e1:=(hB.cell (p:=⟨bk,j * 6+1,none⟩) hbk).trans e1
 replace e2:=(hB.cell (p:=⟨bk,j * 6+2,none⟩) hbk).trans e2
 replace e3:=(hB.cell (p:=⟨bk,j * 6+3,none⟩) hbk).trans e3
 replace e4:=(hB.cell (p:=⟨bk,j * 6+4,none⟩) hbk).trans e4
 replace e5:=(hB.cell (p:=⟨bk,j * 6+5,none⟩) hbk).trans e5
 obtain ⟨a0,a1,af,aL⟩:=rw2 hA
 obtain ⟨z0,z1,z2,z3,z4,z5,zf,zL⟩:=rw6 hZ
 have HBH:Hid _:=hB
 have y1:¬ bk=W.heap.size+1:=by omega
 have y2:¬ g=W.heap.size+1:=by omega
 have y3:¬ b=W.heap.size+1:=by omega
 clear hA hZ hB
 go_enter Tryz.func188,Tryz.ntmps188
 go_wp2
 generalize ((W.alloc (.cells #[.int .i64 (k:Int),.int .i64 (j:Int)] 38)).alloc (.cells #[.string ⟨#[]⟩,.string ⟨#[]⟩,.int .i64 0,.int .i64 0,.int .i64 0,.slice none 0 0] 87))=U at *
 go_region
 go_wp2
 refine bodyPost_ret (v:=.agg #[.string x.nm,.string x.ds,.int .i64 x.fl,.int .i64 x.lo,.int .i64 x.st,.slice ac x.n cc]) (by simp [results,Tryz.results188,go_sem, *]) rfl ⟨⟨_,_,_,rfl⟩,?_⟩
 repeat (first|refine Below.setCell ?_ (by simp;try omega) _|refine Below.drew ?_|exact HBH.out)
theorem Zh1 (nm ds:ByteArray) (fl lo st:Int) (a:Option Addr) (n s:Nat) (W:World):Calls Tryz.prog 236 #[.agg #[.string nm,.string ds,.int .i64 fl,.int .i64 lo,.int .i64 st,.slice a n s]] W fun e w'=>e=.returned (.bool (freB fl nm))∧Bw W w':=by
 have HF:Hid (∀ w:World,Calls Tryz.prog 62 #[.int .i64 fl,.int .i64 8] w fun e w'=>e=.returned (.bool (hasI fl 8))∧w'=w):=Zw fl 8
 have e:freB fl nm=(!hasI fl 8&&!(nm.toList == [60,105,110,105,116,62])):=rfl
 rw [e]
 generalize hasI fl 8=F at *
 cases F
 all_goals
  go_enter Tryz.func236,Tryz.ntmps236
  go_wp2_with (go_at_call 62;refine (HF.out _).mono ?_;rintro e w9 ⟨rfl,hw9⟩;rw [hw9];clear hw9 w9)
 all_goals go_ret
 all_goals exact ⟨retB (by simp),sqR⟩
theorem r9is_no {b:Nat} {cs:List Cls} {ps:List Plc} {W:World} (h:RAt b cs W) (ht:TwW cs ps) (c i:Int) (hm:plcI ps c=none):Calls Tryz.prog 63 #[.pointer (some ⟨b,0,none⟩),.agg #[.int .i64 c,.int .i64 i]] W fun e w'=>e=.returned (.bool false)∧Bw W w':=by
 obtain ⟨σ,V,hne,V1,V2⟩:=class_of' (fun w'=>Below (W.heap.size+1) (W.alloc (.cells #[.int .i64 c,.int .i64 i] 38)) w') ⟨_,Below.refl _ _⟩
 have hBV:∀ s0,Bw W (V s0):=fun s0=>((Below.refl _ W).alloc (Nat.le_refl _) _).trans ((V1.out s0).mono (by omega))
 have HI:Hid (∀ s0,Calls Tryz.prog 68 #[.pointer (some ⟨b,0,none⟩),.int .i64 c] (V s0) fun e w''=>e=.returned (.bool false)∧∃ s',w''=V s'):=fun s0=>(Zbs (h.below (hBV s0)) ht c).mono fun e w'' zz=>⟨by rw [zz.1,hm];rfl,s0,zz.2⟩
 have m0:∀ s0,(V s0).cell? ⟨W.heap.size,0,none⟩=some (.int .i64 c):=fun s0=>((V1.out s0).cell (p:=⟨W.heap.size,0,none⟩) (show W.heap.size<W.heap.size+1 by omega)).trans (by simp [go_sem])
 have HBV:Hid (∀ s0,Bw W (V s0)):=hBV
 have VD:Hid (∃ s1,(W.alloc (.cells #[.int .i64 c,.int .i64 i] 38)).drew=V s1):=V2.out _ ((Below.refl _ _).drew)
 clear h ht hm hBV V1 V2
 go_enter Tryz.func63,Tryz.ntmps63
 go_wp2
 refine Ze (C:=fun w'=>∃ s0,w'=V s0) (by kernel_rfl) (by kernel_rfl) VD.out ?_
 repeat (go_big_quiet_step ((go_at_call 68;exact HI.out _)))
 refine wpQuiet_nil ?_
 intro w9 hw9
 obtain ⟨s9,rfl⟩:=hw9
 go_wp2
 exact bodyPost_ret (results_tmp rfl _ _ _) rfl ⟨rfl,HBV.out s9⟩
theorem r9is_yes {b:Nat} {cs:List Cls} {ps:List Plc} {W:World} (h:RAt b cs W) (ht:TwW cs ps) (k:Nat) (q:Plc) (hq:ps[k]?=some q) (i:Int):Calls Tryz.prog 63 #[.pointer (some ⟨b,0,none⟩),.agg #[.int .i64 (k:Int),.int .i64 i]] W fun e w'=>e=.returned (.bool (Y6 q i).isSome)∧Bw W w':=by
 obtain ⟨c0,hc,hcq⟩:=ht.tw.at' hq
 obtain ⟨c,hcI⟩:∃ c:Int,c=(k:Int):=⟨_,rfl⟩
 rw [← hcI]
 obtain ⟨σ,V,hne,V1,V2⟩:=class_of' (fun w'=>Below (W.heap.size+1) (W.alloc (.cells #[.int .i64 c,.int .i64 i] 38)) w') ⟨_,Below.refl _ _⟩
 have hBV:∀ s0,Bw W (V s0):=fun s0=>((Below.refl _ W).alloc (Nat.le_refl _) _).trans ((V1.out s0).mono (by omega))
 have HI:Hid (∀ s0,Calls Tryz.prog 68 #[.pointer (some ⟨b,0,none⟩),.int .i64 c] (V s0) fun e w''=>e=.returned (.bool true)∧∃ s',w''=V s'):=fun s0=>(Zbs (h.below (hBV s0)) ht c).mono fun e w'' zz=>⟨by rw [zz.1,hcI,Z6,hq];rfl,s0,zz.2⟩
 have m0:∀ s0,(V s0).cell? ⟨W.heap.size,0,none⟩=some (.int .i64 c):=fun s0=>((V1.out s0).cell (p:=⟨W.heap.size,0,none⟩) (show W.heap.size<W.heap.size+1 by omega)).trans (by simp [go_sem])
 have m1:∀ s0,(V s0).cell? ⟨W.heap.size,1,none⟩=some (.int .i64 i):=fun s0=>((V1.out s0).cell (p:=⟨W.heap.size,1,none⟩) (show W.heap.size<W.heap.size+1 by omega)).trans (by simp [go_sem])
 have HBV:Hid (∀ s0,Bw W (V s0)):=hBV
 have VD:Hid (∃ s1,(W.alloc (.cells #[.int .i64 c,.int .i64 i] 38)).drew=V s1):=V2.out _ ((Below.refl _ _).drew)
 obtain ⟨g,cap,vi,vm,b0,hlt,hgl,_,_,_,_,_,c5,_,hMs⟩:=RAt.cells h hc
 obtain ⟨am,cm,rfl⟩:=X0 hMs
 have kp:∀ (s0:σ) (bb j:Nat) (v:Value),bb<W.heap.size→W.cell? ⟨bb,j,none⟩=some v→(V s0).cell? ⟨bb,j,none⟩=some v:=fun s0 bb j v hl h=>((hBV s0).cell (p:=⟨bb,j,none⟩) hl).trans h
 replace b0:=fun s0=>kp s0 _ _ _ hlt b0
 replace c5:=fun s0=>kp s0 _ _ _ hgl c5
 have hkI:(k:Int)<(cs.length:Int):=by have:=(List.getElem?_eq_some_iff.1 hc).1;omega
 have hlen:q.c.ms.length=c0.ms.length:=by rw [hcq];simp [hcOf]
 have hml:(i<0∧(Y6 q i).isSome=false)∨(0≤i∧(c0.ms.length:Int)≤i∧(Y6 q i).isSome=false)∨(0≤i∧i<(c0.ms.length:Int)∧(Y6 q i).isSome=true):=by
  rcases Int.lt_or_le i 0 with h0|h0
  ·exact .inl ⟨h0,by rw [Y6,if_neg (by omega)];rfl⟩
  ·rcases Int.lt_or_le i (c0.ms.length:Int) with h1|h1
   ·exact .inr (.inr ⟨h0,h1,by rw [Y6,if_pos h0,List.getElem?_eq_getElem (by omega)];rfl⟩)
   ·exact .inr (.inl ⟨h0,h1,by rw [Y6,if_pos h0,List.getElem?_eq_none (by omega)];rfl⟩)
 generalize c0.ms.length=n at *
 generalize (Y6 q i).isSome=R at *
 subst hcI
 clear h ht hBV V1 V2 kp hMs hq hc hcq hlen
 have hml2:(R=false∧decide (0≤i)=false)∨(R=false∧decide (0≤i)=true∧decide (i<(n:Int))=false)∨(R=true∧decide (0≤i)=true∧decide (i<(n:Int))=true):=by
  rcases hml with ⟨h0,h1⟩|⟨h0,h1,h2⟩|⟨h0,h1,h2⟩
  ·exact .inl ⟨h1,by simpa using h0⟩
  ·exact .inr (.inl ⟨h2,by simpa using h0,by simpa using h1⟩)
  ·exact .inr (.inr ⟨h2,by simpa using h0,by simpa using h1⟩)
 clear hml
 rcases hml2 with ⟨rfl,hi1⟩|⟨rfl,hi1,hi2⟩|⟨rfl,hi1,hi2⟩
 all_goals
  go_enter Tryz.func63,Tryz.ntmps63
  go_wp2
  refine Ze (C:=fun w'=>∃ s0,w'=V s0) (by kernel_rfl) (by kernel_rfl) VD.out ?_
  repeat (go_big_quiet_step ((go_at_call 68;exact HI.out _)))
  refine wpQuiet_nil ?_
  intro w9 hw9
  obtain ⟨s9,rfl⟩:=hw9
  go_wp2
  exact bodyPost_ret (results_tmp rfl _ _ _) rfl ⟨by simp [*],HBV.out s9⟩
theorem Zfh {b:Nat} {cs:List Cls} {ps:List Plc} {W:World} (h:RAt b cs W) (ht:TwW cs ps) (c i:Int):Calls Tryz.prog 63 #[.pointer (some ⟨b,0,none⟩),.agg #[.int .i64 c,.int .i64 i]] W fun e w'=>e=.returned (.bool (Zo ps c i).isSome)∧Bw W w':=by
 rcases Zl ps c with ⟨h1,_⟩|⟨k,q,rfl,h2,h1⟩
 ·have e:(Zo ps c i).isSome=false:=by rw [Zo,h1];rfl
  rw [e];exact r9is_no h ht c i h1
 ·have e:Zo ps (k:Int) i=Y6 q i:=by rw [Zo,h1];rfl
  rw [e];exact r9is_yes h ht k q h2 i
theorem spC_eq {cs:List Cls} {ps:List Plc} (ht:TwW cs ps) (a b:Int):spC cs a b=spI ps a b:=by
 unfold spC spI
 rcases ht.tw.clsI a with ⟨h1,h2⟩|⟨k,c,q,rfl,hc,hq,hcq,h1,h2⟩
 ·rw [h1,h2]
 ·rw [h1,h2]
  rcases ht.tw.clsI b with ⟨g1,g2⟩|⟨k',c',q',rfl,hc',hq',hcq',g1,g2⟩
  ·rw [g1,g2]
  ·rw [g1,g2]
   show togB c c'=Zay q q'
   unfold togB Zay
   rw [hcq,hcq'];rfl
theorem Zaq {cs:List Cls} {ps:List Plc} (ht:TwW cs ps) (a:Int):ifcC cs a=ifcI ps a:=by
 unfold ifcC ifcI
 rcases ht.tw.clsI a with ⟨h1,h2⟩|⟨k,c,q,rfl,hc,hq,hcq,h1,h2⟩
 ·rw [h1,h2]
 ·rw [h1,h2]
  simp only
  rw [hcq];rfl
theorem rOpen3_c (f:Int) (W:World):Calls Tryz.prog 215 #[.int .i64 f] W fun e w'=>e=.returned (.int .i64 (Xa f))∧w'=W:=by
 have H1:Hid (∀ (z:Int) (w:World),z=1→Calls Tryz.prog 62 #[.int .i64 f,.int .i64 z] w fun e w'=>e=.returned (.bool (hasI f 1))∧w'=w):=fun z w hz=>by rw [hz];exact Zw f 1 w
 have H4:Hid (∀ (z:Int) (w:World),z=4→Calls Tryz.prog 62 #[.int .i64 f,.int .i64 z] w fun e w'=>e=.returned (.bool (hasI f 4))∧w'=w):=fun z w hz=>by rw [hz];exact Zw f 4 w
 have H2:Hid (∀ (z:Int) (w:World),z=2→Calls Tryz.prog 62 #[.int .i64 f,.int .i64 z] w fun e w'=>e=.returned (.bool (hasI f 2))∧w'=w):=fun z w hz=>by rw [hz];exact Zw f 2 w
 unfold Xa
 generalize hasI f 1=a1 at *
 generalize hasI f 4=a4 at *
 generalize hasI f 2=a2 at *
 cases a1 <;> cases a4 <;> cases a2
 all_goals
  go_enter Tryz.func215,Tryz.ntmps215
  go_wp2_with (first
   | (go_at_call 62;refine (H1.out _ _ (by rfl)).mono ?_;rintro e w9 ⟨rfl,hw9⟩;rw [hw9];clear hw9 w9)
   | (go_at_call 62;refine (H4.out _ _ (by rfl)).mono ?_;rintro e w9 ⟨rfl,hw9⟩;rw [hw9];clear hw9 w9)
   | (go_at_call 62;refine (H2.out _ _ (by rfl)).mono ?_;rintro e w9 ⟨rfl,hw9⟩;rw [hw9];clear hw9 w9))
  exact bodyPost_ret (results_tmp rfl _ _ _) rfl ⟨rfl,rfl⟩
def SndI (ps:List Plc):Prop:=∀ q∈ps,∀ m∈q.c.ms,∃ n,chkM m.fl (ifB q.c.fl) n=0
theorem sndI3:SndI P3:=by
 intro q hq m hm
 simp only [P3,List.mem_cons,List.not_mem_nil,or_false] at hq
 rcases hq with rfl|rfl|rfl
 ·simp only [objH,objMs,List.mem_cons,List.not_mem_nil,or_false] at hm
  rcases hm with rfl|rfl|rfl <;> exact ⟨false,by decide⟩
 ·simp only [cloH,List.not_mem_nil] at hm
 ·simp only [serH,List.not_mem_nil] at hm
theorem sndI_wld (l:List Cls) (hl:∀ c∈l,ClsW c):SndI (wld l):=by
 refine Zad sndI3 (fun ps c h _=>?_) l hl
 cases hd:defN ps c with
 | error e=>exact h
 | ok p =>
   obtain ⟨hB,_,_,s,l,_,_,rfl⟩:=Zcb hd
   intro q hq m hm
   rcases List.mem_append.1 (show q∈ps++[_] from hq) with hq|hq
   ·exact h q hq m hm
   ·rw [List.mem_singleton] at hq
    subst hq
    obtain ⟨m0,hm0,rfl⟩:=List.mem_map.1 (show m∈c.ms.map hmOf from hm)
    rw [clsB,Bool.and_eq_true] at hB
    have hmb:=Zc2 hB.2 m0 hm0
    simp only [mthB,Bool.and_eq_true,beq_iff_eq] at hmb
    exact ⟨_,hmb.1.1.1.2⟩
theorem Ze0 {ps:List Plc} {nm ds:ByteArray}:∀ {l:List Nat} {b:Int×Int},uppI ps nm ds l=(b,true)→∃ i∈l,b.1=(i:Int)∧FndF ps nm ds b∧hasS ps b.1 b.2 8=false
 | [],b,h=>by simp [uppI] at h
 | i::r,b,h=>by
   rw [uppI] at h
   split at h
   ·rename_i hh
    simp only [Prod.mk.injEq,and_true] at h
    subst h
    exact ⟨i,List.mem_cons_self,rfl,(J4 hh.1).1,hh.2⟩
   ·obtain ⟨j,hj,h2⟩:=Ze0 h
    exact ⟨j,List.mem_cons_of_mem _ hj,h2⟩
theorem r9pw (W:World) (b:Nat) (c1 c2 a1 a2:Int) (xn xd:ByteArray) (xf xl xs:Int) (yn yd:ByteArray) (yf yl ys:Int) (f1 f2 p2 ic ex ia sp R:Bool) (o:Int)
 (hR:(f1=false∧R=false)∨(f1=true∧f2=false∧R=false)∨(f1=true∧f2=true∧(xn.toList == yn.toList)=false∧R=false)∨(f1=true∧f2=true∧(xn.toList == yn.toList)=true∧(xd.toList == yd.toList)=false∧R=false)∨(f1=true∧f2=true∧(xn.toList == yn.toList)=true∧(xd.toList == yd.toList)=true∧p2=true∧R=false)∨(f1=true∧f2=true∧(xn.toList == yn.toList)=true∧(xd.toList == yd.toList)=true∧p2=false∧ic=true∧R=false)∨(f1=true∧f2=true∧(xn.toList == yn.toList)=true∧(xd.toList == yd.toList)=true∧p2=false∧ic=false∧(c1 == a1)=true∧R=false)∨(f1=true∧f2=true∧(xn.toList == yn.toList)=true∧(xd.toList == yd.toList)=true∧p2=false∧ic=false∧(c1 == a1)=false∧ex=false∧R=false)∨(f1=true∧f2=true∧(xn.toList == yn.toList)=true∧(xd.toList == yd.toList)=true∧p2=false∧ic=false∧(c1 == a1)=false∧ex=true∧ia=true∧o=2∧R=false)∨(f1=true∧f2=true∧(xn.toList == yn.toList)=true∧(xd.toList == yd.toList)=true∧p2=false∧ic=false∧(c1 == a1)=false∧ex=true∧ia=true∧o=1∧R=true)∨(f1=true∧f2=true∧(xn.toList == yn.toList)=true∧(xd.toList == yd.toList)=true∧p2=false∧ic=false∧(c1 == a1)=false∧ex=true∧ia=true∧o=4∧R=true)∨(f1=true∧f2=true∧(xn.toList == yn.toList)=true∧(xd.toList == yd.toList)=true∧p2=false∧ic=false∧(c1 == a1)=false∧ex=true∧ia=true∧o=0∧R=true)∨(f1=true∧f2=true∧(xn.toList == yn.toList)=true∧(xd.toList == yd.toList)=true∧p2=false∧ic=false∧(c1 == a1)=false∧ex=true∧ia=false∧o=1∧R=true)∨(f1=true∧f2=true∧(xn.toList == yn.toList)=true∧(xd.toList == yd.toList)=true∧p2=false∧ic=false∧(c1 == a1)=false∧ex=true∧ia=false∧o=4∧R=true)∨(f1=true∧f2=true∧(xn.toList == yn.toList)=true∧(xd.toList == yd.toList)=true∧p2=false∧ic=false∧(c1 == a1)=false∧ex=true∧ia=false∧o=2∧R=false)∨(f1=true∧f2=true∧(xn.toList == yn.toList)=true∧(xd.toList == yd.toList)=true∧p2=false∧ic=false∧(c1 == a1)=false∧ex=true∧ia=false∧o=0∧sp=true∧R=true)∨(f1=true∧f2=true∧(xn.toList == yn.toList)=true∧(xd.toList == yd.toList)=true∧p2=false∧ic=false∧(c1 == a1)=false∧ex=true∧ia=false∧o=0∧sp=false∧R=false))
 (HM1:Hid (∀ w,Bw W w→Calls Tryz.prog 188 #[.pointer (some ⟨b,0,none⟩),.agg #[.int .i64 c1,.int .i64 c2]] w fun e w'=>(∃ a n s,e=.returned (.agg #[.string xn,.string xd,.int .i64 xf,.int .i64 xl,.int .i64 xs,.slice a n s]))∧Bw w w'))
 (HM2:Hid (∀ w,Bw W w→Calls Tryz.prog 188 #[.pointer (some ⟨b,0,none⟩),.agg #[.int .i64 a1,.int .i64 a2]] w fun e w'=>(∃ a n s,e=.returned (.agg #[.string yn,.string yd,.int .i64 yf,.int .i64 yl,.int .i64 ys,.slice a n s]))∧Bw w w'))
 (HF1:Hid (∀ a n s w,Bw W w→Calls Tryz.prog 236 #[.agg #[.string xn,.string xd,.int .i64 xf,.int .i64 xl,.int .i64 xs,.slice a n s]] w fun e w'=>(e=.returned (.bool f1))∧Bw w w'))
 (HF2:Hid (∀ a n s w,Bw W w→Calls Tryz.prog 236 #[.agg #[.string yn,.string yd,.int .i64 yf,.int .i64 yl,.int .i64 ys,.slice a n s]] w fun e w'=>(e=.returned (.bool f2))∧Bw w w'))
 (HH:Hid (∀ w,Calls Tryz.prog 62 #[.int .i64 xf,.int .i64 2] w fun e w'=>(e=.returned (.bool p2))∧w'=w))
 (HI1:Hid (∀ w,Bw W w→Calls Tryz.prog 61 #[.pointer (some ⟨b,0,none⟩),.int .i64 c1] w fun e w'=>(e=.returned (.bool ic))∧w'=w))
 (HI2:Hid (∀ w,Bw W w→Calls Tryz.prog 61 #[.pointer (some ⟨b,0,none⟩),.int .i64 a1] w fun e w'=>(e=.returned (.bool ia))∧w'=w))
 (HE:Hid (∀ w,Bw W w→Calls Tryz.prog 84 #[.pointer (some ⟨b,0,none⟩),.int .i64 c1,.int .i64 a1] w fun e w'=>(e=.returned (.bool ex))∧Bw w w'))
 (HO:Hid (∀ w,Calls Tryz.prog 215 #[.int .i64 yf] w fun e w'=>(e=.returned (.int .i64 o))∧w'=w))
 (HS:Hid (∀ w,Bw W w→Calls Tryz.prog 214 #[.pointer (some ⟨b,0,none⟩),.int .i64 c1,.int .i64 a1] w fun e w'=>(e=.returned (.bool sp))∧Bw w w')):Calls Tryz.prog 191 #[.pointer (some ⟨b,0,none⟩),.agg #[.int .i64 c1,.int .i64 c2],.agg #[.int .i64 a1,.int .i64 a2]] W fun e w'=>e=.returned (.bool R)∧Bw W w':=by
 have BB:Hid (Bw W W):=Below.refl _ _
 rcases hR with ⟨rfl,rfl⟩|⟨rfl,rfl,rfl⟩|⟨rfl,rfl,hen,rfl⟩|⟨rfl,rfl,hen,hed,rfl⟩|⟨rfl,rfl,hen,hed,rfl,rfl⟩|⟨rfl,rfl,hen,hed,rfl,rfl,rfl⟩|⟨rfl,rfl,hen,hed,rfl,rfl,hce,rfl⟩|⟨rfl,rfl,hen,hed,rfl,rfl,hce,rfl,rfl⟩|⟨rfl,rfl,hen,hed,rfl,rfl,hce,rfl,rfl,rfl,rfl⟩|⟨rfl,rfl,hen,hed,rfl,rfl,hce,rfl,rfl,rfl,rfl⟩|⟨rfl,rfl,hen,hed,rfl,rfl,hce,rfl,rfl,rfl,rfl⟩|⟨rfl,rfl,hen,hed,rfl,rfl,hce,rfl,rfl,rfl,rfl⟩|⟨rfl,rfl,hen,hed,rfl,rfl,hce,rfl,rfl,rfl,rfl⟩|⟨rfl,rfl,hen,hed,rfl,rfl,hce,rfl,rfl,rfl,rfl⟩|⟨rfl,rfl,hen,hed,rfl,rfl,hce,rfl,rfl,rfl,rfl⟩|⟨rfl,rfl,hen,hed,rfl,rfl,hce,rfl,rfl,rfl,rfl,rfl⟩|⟨rfl,rfl,hen,hed,rfl,rfl,hce,rfl,rfl,rfl,rfl,rfl⟩
 all_goals
  go_enter Tryz.func191,Tryz.ntmps191
  go_wp2_with (first
   | (go_at_call 188;refine (HM1.out _ (sqE BB)).mono ?_;rintro e w1 ⟨⟨xa,xk,xo,rfl⟩,hb⟩;have cbd:=kp2 (n:=W.heap.size) hb;(try clear cbB cb0 cb1 cbf cbL cbN);obtain ⟨cbB,cb0,cb1,cbf,cbL,cbN⟩:=cbd;have abd:=kp2 (n:=W.heap.size+1) hb;(try clear abB ab0 ab1 abf abL abN);obtain ⟨abB,ab0,ab1,abf,abL,abN⟩:=abd;have BB2:Bw W w1:=Za (sqE BB) hb;clear BB;have BB:Hid (Bw W w1):=BB2;clear HM1;clear BB2 hb)
   | (go_at_call 188;refine (HM2.out _ (sqE BB)).mono ?_;rintro e w2 ⟨⟨ya,yk,yo,rfl⟩,hb⟩;have cbd:=kp2 (n:=W.heap.size) hb;(try clear cbB cb0 cb1 cbf cbL cbN);obtain ⟨cbB,cb0,cb1,cbf,cbL,cbN⟩:=cbd;have abd:=kp2 (n:=W.heap.size+1) hb;(try clear abB ab0 ab1 abf abL abN);obtain ⟨abB,ab0,ab1,abf,abL,abN⟩:=abd;have mxd:=kp6 (n:=w1.heap.size) hb;(try clear mxB mx0 mx1 mx2 mx3 mx4 mx5 mxf mxL mxN);obtain ⟨mxB,mx0,mx1,mx2,mx3,mx4,mx5,mxf,mxL,mxN⟩:=mxd;have BB2:Bw W w2:=Za (sqE BB) hb;clear BB;have BB:Hid (Bw W w2):=BB2;clear HM2;clear BB2 hb)
   | (go_at_call 236;refine (HF1.out _ _ _ _ (sqE BB)).mono ?_;rintro e w3 ⟨rfl,hb⟩;have cbd:=kp2 (n:=W.heap.size) hb;(try clear cbB cb0 cb1 cbf cbL cbN);obtain ⟨cbB,cb0,cb1,cbf,cbL,cbN⟩:=cbd;have abd:=kp2 (n:=W.heap.size+1) hb;(try clear abB ab0 ab1 abf abL abN);obtain ⟨abB,ab0,ab1,abf,abL,abN⟩:=abd;have mxd:=kp6 (n:=w1.heap.size) hb;(try clear mxB mx0 mx1 mx2 mx3 mx4 mx5 mxf mxL mxN);obtain ⟨mxB,mx0,mx1,mx2,mx3,mx4,mx5,mxf,mxL,mxN⟩:=mxd;have myd:=kp6 (n:=w2.heap.size) hb;(try clear myB my0 my1 my2 my3 my4 my5 myf myL myN);obtain ⟨myB,my0,my1,my2,my3,my4,my5,myf,myL,myN⟩:=myd;have BB2:Bw W w3:=Za (sqE BB) hb;clear BB;have BB:Hid (Bw W w3):=BB2;clear HF1;clear BB2 hb)
   | (go_at_call 236;refine (HF2.out _ _ _ _ (sqE BB)).mono ?_;rintro e w4 ⟨rfl,hb⟩;have cbd:=kp2 (n:=W.heap.size) hb;(try clear cbB cb0 cb1 cbf cbL cbN);obtain ⟨cbB,cb0,cb1,cbf,cbL,cbN⟩:=cbd;have abd:=kp2 (n:=W.heap.size+1) hb;(try clear abB ab0 ab1 abf abL abN);obtain ⟨abB,ab0,ab1,abf,abL,abN⟩:=abd;have mxd:=kp6 (n:=w1.heap.size) hb;(try clear mxB mx0 mx1 mx2 mx3 mx4 mx5 mxf mxL mxN);obtain ⟨mxB,mx0,mx1,mx2,mx3,mx4,mx5,mxf,mxL,mxN⟩:=mxd;have myd:=kp6 (n:=w2.heap.size) hb;(try clear myB my0 my1 my2 my3 my4 my5 myf myL myN);obtain ⟨myB,my0,my1,my2,my3,my4,my5,myf,myL,myN⟩:=myd;have BB2:Bw W w4:=Za (sqE BB) hb;clear BB;have BB:Hid (Bw W w4):=BB2;clear HF2;clear BB2 hb)
   | (go_at_call 62;refine (HH.out _).mono ?_;rintro e w9 ⟨rfl,hw9⟩;rw [hw9];clear hw9 w9)
   | (go_at_call 61;refine (HI1.out _ (sqE BB)).mono ?_;rintro e w9 ⟨rfl,hw9⟩;rw [hw9];clear hw9 w9;clear HI1)
   | (go_at_call 61;refine (HI2.out _ (sqE BB)).mono ?_;rintro e w9 ⟨rfl,hw9⟩;rw [hw9];clear hw9 w9)
   | (go_at_call 84;refine (HE.out _ (sqE BB)).mono ?_;rintro e w5 ⟨rfl,hb⟩;have cbd:=kp2 (n:=W.heap.size) hb;(try clear cbB cb0 cb1 cbf cbL cbN);obtain ⟨cbB,cb0,cb1,cbf,cbL,cbN⟩:=cbd;have abd:=kp2 (n:=W.heap.size+1) hb;(try clear abB ab0 ab1 abf abL abN);obtain ⟨abB,ab0,ab1,abf,abL,abN⟩:=abd;have myd:=kp6 (n:=w2.heap.size) hb;(try clear myB my0 my1 my2 my3 my4 my5 myf myL myN);obtain ⟨myB,my0,my1,my2,my3,my4,my5,myf,myL,myN⟩:=myd;have BB2:Bw W w5:=Za (sqE BB) hb;clear BB;have BB:Hid (Bw W w5):=BB2;clear HE;clear BB2 hb)
   | (go_at_call 215;refine (HO.out _).mono ?_;rintro e w9 ⟨rfl,hw9⟩;rw [hw9];clear hw9 w9)
   | (go_at_call 214;refine (HS.out _ (sqE BB)).mono ?_;rintro e w6 ⟨rfl,hb⟩;have BB2:Bw W w6:=Za (sqE BB) hb;clear BB;have BB:Hid (Bw W w6):=BB2;clear HS;clear BB2 hb))
 all_goals go_ret
 all_goals exact ⟨retB (by simp [*]),(sqE BB)⟩
theorem SndI.priv {ps:List Plc} (h:SndI ps) {c i:Int} {m:HM} (hm:Zo ps c i=some m):hasI m.fl 2=(Xa m.fl == 2):=by
 obtain ⟨k,q,_,hq,hp,h4⟩:=Yo hm
 have hmem:m∈q.c.ms:=by
  rw [Y6] at h4
  split at h4
  ·exact List.mem_of_getElem? h4
  ·cases h4
 obtain ⟨n,hc⟩:=h q (List.mem_of_getElem? hq) m hmem
 cases e:hasI m.fl 2 with
 | true=>rw [(Zk2 hc e).1];rfl
 | false =>
   rw [Xa,e]
   cases hasI m.fl 1 <;> cases hasI m.fl 4 <;> rfl
theorem Zkw {b:Nat} {cs:List Cls} {ps:List Plc} {W:World} (h:RAt b cs W) (ht:TwW cs ps) (hJ:WJ ps) (hS:SndI ps) (hz:∀ c∈cs,c.nm.size≤maxLen) (c1 c2 a1 a2:Int) (x y:HM) (hx:Zo ps c1 c2=some x) (hy:Zo ps a1 a2=some y):Calls Tryz.prog 191 #[.pointer (some ⟨b,0,none⟩),.agg #[.int .i64 c1,.int .i64 c2],.agg #[.int .i64 a1,.int .i64 a2]] W fun e w'=>e=.returned (.bool (plI ps (c1,c2) (a1,a2)))∧Bw W w':=by
 have eR:plI ps (c1,c2) (a1,a2)=plnB ps x.nm x.ds x.fl c1 y.nm y.ds y.fl a1:=by rw [plI];simp only [hx,hy]
 rw [eR]
 refine r9pw W b c1 c2 a1 a2 x.nm x.ds x.fl x.lo x.st y.nm y.ds y.fl y.lo y.st (freB x.fl x.nm) (freB y.fl y.nm) (hasI x.fl 2) (ifcI ps c1) (extI ps c1 a1) (ifcI ps a1) (spI ps c1 a1) _ (Xa y.fl) ?_ (fun w hb=>Jp (h.below hb) ht c1 c2 x hx) (fun w hb=>Jp (h.below hb) ht a1 a2 y hy) (fun a n s w hb=>Zh1 _ _ _ _ _ a n s w) (fun a n s w hb=>Zh1 _ _ _ _ _ a n s w) (fun w=>Zw x.fl 2 w) (fun w hb=>?_) (fun w hb=>?_) (fun w hb=>Zcx (h.below hb) ht hJ c1 a1) (fun w=>rOpen3_c y.fl w) (fun w hb=>?_)
 ·rw [plnB,bloB,← hS.priv hx,reaB]
  have ho:=Zc1 y.fl
  generalize freB x.fl x.nm=f1 at *
  generalize freB y.fl y.nm=f2 at *
  generalize (x.nm.toList == y.nm.toList)=en at *
  generalize (x.ds.toList == y.ds.toList)=ed at *
  generalize hasI x.fl 2=p2 at *
  generalize ifcI ps c1=ic at *
  generalize (c1 == a1)=ce at *
  generalize extI ps c1 a1=ex at *
  generalize ifcI ps a1=ia at *
  generalize spI ps c1 a1=sp at *
  generalize Xa y.fl=o at *
  clear eR hx hy
  cases f1
  ·exact .inl (by simp)
  refine .inr ?_
  cases f2
  ·exact .inl (by simp)
  refine .inr ?_
  cases en
  ·exact .inl (by simp)
  refine .inr ?_
  cases ed
  ·exact .inl (by simp)
  refine .inr ?_
  cases p2
  rotate_left
  ·exact .inl (by simp)
  refine .inr ?_
  cases ic
  rotate_left
  ·exact .inl (by simp)
  refine .inr ?_
  cases ce
  rotate_left
  ·exact .inl (by simp)
  refine .inr ?_
  cases ex
  ·exact .inl (by simp)
  refine .inr ?_
  cases ia <;> cases sp <;> rcases ho with rfl|rfl|rfl|rfl <;> simp
 ·exact (Y4 (h.below hb) c1).mono fun e w' zz=>⟨by rw [zz.1,Zaq ht],zz.2⟩
 ·exact (Y4 (h.below hb) a1).mono fun e w' zz=>⟨by rw [zz.1,Zaq ht],zz.2⟩
 ·exact (rSame_c (h.below hb) hz c1 a1).mono fun e w' zz=>⟨by rw [zz.1,spC_eq ht],zz.2⟩
theorem Zgk {p:Int×Int→Bool} {A:List (Int×Int)} {i:Nat} {x:Int×Int} (h:A[i]?=some x):(A.take (i+1)).filter p=(A.take i).filter p++if p x then [x] else []:=by
 rw [List.take_add_one,h,List.filter_append]
 congr 1
 simp [List.filter]
 cases p x <;> rfl
theorem Zin {p:Int×Int→Bool} {A:List (Int×Int)} {i:Nat} {x:Int×Int} (h:A[i]?=some x):(A.take (i+1)).any p=((A.take i).any p||p x):=by
 rw [List.take_add_one,h,List.any_append]
 simp
theorem Zij {p:Int×Int→Bool} {A:List (Int×Int)} (i:Nat):((A.take i).filter p).length≤A.length:=Nat.le_trans (List.length_filter_le _ _) (by rw [List.length_take];omega)
theorem Zh0 {b:Nat} {cs:List Cls} {ps:List Plc} {W:World} (h:RAt b cs W) (ht:TwW cs ps) (hJ:WJ ps) (c E:Int) (nm ds:ByteArray) (A:List (Int×Int)) (hA:A.length≤300)
 (hC:∀ w,Bw W w→Calls Tryz.prog 192 #[.pointer (some ⟨b,0,none⟩),.int .i64 c,.string nm,.string ds] w fun e w'=>(∃ v,e=.returned (.tuple #[v,.int .i64 E])∧w'.ownsRow w.heap.size 38 2 v A.length (Zf A))∧Bw w w') :
 Calls Tryz.prog 127 #[.pointer (some ⟨b,0,none⟩),.int .i64 c,.string nm,.string ds] W fun e w'=>(∃ v,e=.returned (.tuple #[v,.int .i64 E])∧w'.ownsRow W.heap.size 38 2 v (maxL ps A).length (Zf (maxL ps A)))∧Bw W w':=by
 obtain ⟨i0,hi0,hz0,hz1,hz2⟩:=info_parts Tryz.hinfoD
 have HW0:Hid (RAt b cs W):=h
 have HTW:Hid (TwW cs ps):=ht
 have HWJ:Hid (WJ ps):=hJ
 obtain ⟨K,hK⟩:∃ K,A.length=K:=⟨_,rfl⟩
 have HK:Hid (A.length=K):=hK
 have HC:Hid (∀ w,Bw W w→Calls Tryz.prog 192 #[.pointer (some ⟨b,0,none⟩),.int .i64 c,.string nm,.string ds] w fun e w'=>(∃ v,e=.returned (.tuple #[v,.int .i64 E])∧w'.ownsRow w.heap.size 38 2 v A.length (Zf A))∧Bw w w'):=hC
 have HML:Hid (maxL ps A=A.filter fun m=>!Xv ps A m):=rfl
 rw [hK] at hA
 clear h ht hJ hK hC
 go_enter Tryz.func127,Tryz.ntmps127
 go_wp2_with (first
  | (go_at_call 192;refine (HC.out _ (Below.refl _ _)).mono ?_;rintro e w1 ⟨⟨v,rfl,ho⟩,hb⟩;rw [HK.out] at ho;obtain ⟨ca,cc,rfl⟩:=ownv ho;have O1:Hid (w1.ownsRow W.heap.size 38 2 (.slice ca K cc) K (Zf A)):=ho;have B1:Hid (Bw W w1):=hb;have HW1:Hid (RAt b cs w1):=HW0.out.below hb;clear ho hb HC))
 go_loopw [12,13] (fun sv kv wr=>∃ (i:Nat),kv=.int .i64 i∧i≤K∧Hid (wr.ownsRow w1.heap.size 38 2 sv ((A.take i).filter fun m=>!Xv ps A m).length (Zf ((A.take i).filter fun m=>!Xv ps A m)))∧Hid (Bw w1 wr)) (fun _ kv _=>K - (intOf kv).toNat)
 case atStart=>exact ⟨0,rfl,Nat.zero_le _,World.ownsRow_nil _ _ _ _,Below.refl _ _⟩
 case round =>
  obtain ⟨i,rfl,hi,hO,hB⟩:=hrel
  by_cases hlt:i<K
  ·have hiA:i<A.length:=by rw [HK.out];exact hlt
   obtain ⟨x,hx⟩:∃ x,A[i]?=some x:=⟨_,List.getElem?_eq_getElem hiA⟩
   have hst:=Zgk (p:=fun m=>!Xv ps A m) hx
   have hal:((A.take i).filter fun m=>!Xv ps A m).length≤300:=Nat.le_trans (Zij i) (by rw [HK.out];exact hA)
   obtain ⟨g,c2,hform⟩:=Go.Joins.ownsRow_form O1.out (by omega)
   have HROW:Hid (w1.ownsRow W.heap.size 38 2 (.slice (some ⟨g,0,none⟩) A.length cc) A.length (Zf A)):=by
    have hrow:=O1.out
    injection hform with hca _ _
    rw [Hid,HK.out,← hca];exact hrow
   injection hform with hca _ hcc
   subst hca
   obtain ⟨e0,e1,hgl⟩:=Yc HROW.out hx
   have hgr:g<wr.heap.size:=Nat.lt_of_lt_of_le hgl hB.out.size
   replace e0:=(hB.out.cell (p:=⟨g,i * 2,none⟩) hgl).trans e0
   replace e1:=(hB.out.cell (p:=⟨g,i * 2+1,none⟩) hgl).trans e1
   obtain ⟨L,hL⟩:∃ L,((A.take i).filter fun m=>!Xv ps A m)=L:=⟨_,rfl⟩
   rw [hL] at hst hal hO
   obtain ⟨va,vn,rfl⟩:=ownv hO.out
   have HRr:Hid (RAt b cs wr):=HW1.out.below hB.out
   have HST:Hid (List.filter (fun m=>!Xv ps A m) (List.take (i+1) A)=L++if !Xv ps A x then [x] else []):=hst
   have HOV:Hid (Xv ps A x=A.any (Js ps x)):=overB_eq ps A x
   obtain ⟨x1,x2⟩:=x
   have HXI:Hid (A[i]?=some (x1,x2)):=hx
   simp only at e0 e1
   clear hst hL hx hiA hcc
   obtain ⟨wo,hwo⟩:∃ x,x=wr:=⟨_,rfl⟩
   subst hwo
   go_wp2
   obtain ⟨σ,V,hne,V1,V2⟩:=class_of' (fun w'=>Bw wo w') ⟨_,Below.refl _ _⟩
   have kp:∀ (s:σ) (bb j:Nat) (v:Value),bb<wo.heap.size→wo.cell? ⟨bb,j,none⟩=some v→(V s).cell? ⟨bb,j,none⟩=some v:=fun s bb j v hl h=>((V1.out s).cell (p:=⟨bb,j,none⟩) hl).trans h
   have KP:Hid _:=kp
   have e0s:=fun s=>kp s _ _ _ hgr e0
   clear kp
   have hiI:(i:Int)<(K:Int):=by omega
   go_loopw [14,15] (fun lv jv wr=>∃ (j:Nat),jv=.int .i64 j∧j≤K∧lv=.bool (!((A.take j).any (Js ps (x1,x2))))∧Hid (Bw wo wr)) (fun _ jv _=>K - (intOf jv).toNat)
   case atStart=>exact ⟨0,rfl,Nat.zero_le _,rfl,Below.refl _ _⟩
   case round =>
    obtain ⟨j,rfl,hj,rfl,hB2⟩:=hrel
    by_cases hlj:j<K
    ·have hjA:j<A.length:=by rw [HK.out];exact hlj
     obtain ⟨y,hy⟩:∃ y,A[j]?=some y:=⟨_,List.getElem?_eq_getElem hjA⟩
     obtain ⟨d0,_,_⟩:=Yc HROW.out hy
     replace d0:=(hB.out.cell (p:=⟨g,j * 2,none⟩) hgl).trans d0
     have d0s:=fun s=>KP.out s _ _ _ hgr d0
     have hat:=Zin (p:=Js ps (x1,x2)) hy
     obtain ⟨y1,y2⟩:=y
     have HAT:Hid (List.any (List.take (j+1) A) (Js ps (x1,x2))=(List.any (List.take j A) (Js ps (x1,x2))||(!(y1 == x1)&&extI ps y1 x1))):=hat
     generalize List.any (List.take j A) (Js ps (x1,x2))=z at *
     have hjI:(j:Int)<(K:Int):=by omega
     simp only at d0s
     have HE:Hid (∀ s,Calls Tryz.prog 84 #[.pointer (some ⟨b,0,none⟩),.int .i64 y1,.int .i64 x1] (V s) fun e w''=>e=.returned (.bool (extI ps y1 x1))∧∃ s',w''=V s'):=fun s=>(Zcx (HRr.out.below (V1.out s)) HTW.out HWJ.out y1 x1).mono fun e w'' zz=>⟨zz.1,V2.out _ (Za (V1.out s) zz.2)⟩
     generalize extI ps y1 x1=ex at *
     clear hy hjA hat d0 HST HOV HXI hO O1 e0 e1
     by_cases hxy:y1=x1
     ·subst hxy
      have hnn:(y1 != y1)=false:=by simp
      have HNX:Hid (List.any (List.take (j+1) A) (Js ps (y1,x2))=z):=by rw [Hid,HAT.out];simp
      clear HAT
      go_wp2
      refine Ze (C:=fun w'=>∃ s,w'=V s) (by kernel_rfl) (by kernel_rfl) (V2.out _ (hB2.out.drew)) ?_
      repeat (go_big_quiet_step ((go_at_call 0;skip)))
      refine wpQuiet_nil ?_
      intro w9 hw9
      obtain ⟨s9,rfl⟩:=hw9
      have B9:Hid (Bw wo (V s9)):=V1.out s9
      go_wp2
      go_roundw
      case rel=>exact ⟨j+1,by go_num,by omega,by rw [HNX.out],B9⟩
      case measure=>simp [intOf];omega
     ·have hnn:(y1 != x1)=true:=by simpa using hxy
      have HNX:Hid (List.any (List.take (j+1) A) (Js ps (x1,x2))=(z||ex)):=by rw [Hid,HAT.out,beq_false_of_ne hxy];simp
      clear HAT hxy
      cases ex
      all_goals
       go_wp2
       refine Ze (C:=fun w'=>∃ s,w'=V s) (by kernel_rfl) (by kernel_rfl) (V2.out _ (hB2.out.drew)) ?_
       repeat (go_big_quiet_step ((go_at_call 84;exact HE.out _)))
       refine wpQuiet_nil ?_
       intro w9 hw9
       obtain ⟨s9,rfl⟩:=hw9
       have B9:Hid (Bw wo (V s9)):=V1.out s9
       go_wp2
       go_roundw
       case rel=>exact ⟨j+1,by go_num,by omega,by rw [HNX.out];simp,B9⟩
       case measure=>simp [intOf];omega
    ·have e:j=K:=by omega
     subst e
     have HAL:Hid (List.any (List.take j A) (Js ps (x1,x2))=Xv ps A (x1,x2)):=by rw [Hid,HOV.out,List.take_of_length_le (by rw [HK.out];exact Nat.le_refl _)]
     rw [HAL.out]
     have f0:=(hB2.out.cell (p:=⟨g,i * 2,none⟩) hgr).trans e0
     have f1:=(hB2.out.cell (p:=⟨g,i * 2+1,none⟩) hgr).trans e1
     have O2:Hid (wr.ownsRow w1.heap.size 38 2 (.slice va L.length vn) L.length (Zf L)):=Zb hO.out hB2.out
     have B2:Hid (Bw w1 wr):=Za hB.out hB2.out
     have hgw:g<wr.heap.size:=Nat.lt_of_lt_of_le hgr hB2.out.size
     have hgn:¬ g=wr.heap.size:=by omega
     clear HAL HOV e0 e1 e0s hO KP V1 V2 hB hB2
     generalize Xv ps A (x1,x2)=ov at *
     cases ov with
     | true =>
       have hst2:List.filter (fun m=>!Xv ps A m) (List.take (i+1) A)=L:=by rw [HST.out];simp
       clear HST
       go_wp2
       refine ⟨⟨i+1,by simp,by omega,?_,B2⟩,by simp [intOf];omega⟩
       rw [hst2];exact O2
     | false =>
       have hst2:List.filter (fun m=>!Xv ps A m) (List.take (i+1) A)=L++[(x1,x2)]:=by rw [HST.out];simp
       clear HST
       go_wp2_with (first
        | (at_builtin;refine wpList_append_own _ rfl _ _ 30 rfl w1.heap.size 38 i0 (.agg #[.int .i64 0,.int .i64 0]) 2 16 Tryz.underlying30 hi0 hz0 hz1 hz2 rfl (by decide) (.slice va L.length vn) L.length (Zf L) rfl (O2.out.alloc _) ⟨wr.heap.size,0,none⟩ 1 1 [.int .i64 x1,.int .i64 x2] rfl rfl ?c1 ?c2 ?c3 ?c4 ?c5 ?_))
       case c1=>intro jj u hj;rw [addr_add];match jj,hj with
        | 0,hj=>simp at hj;subst hj;simp [go_sem]
        | 1,hj=>simp at hj;subst hj;simp [go_sem]
        | (jj+2),hj=>simp at hj
       case c2=>intro u hu;simp at hu;rcases hu with rfl|rfl <;> rfl
       case c3=>unfold maxLen;omega
       case c4=>omega
       case c5=>have:=B2.out.size;simp;omega
       intro v' w4 hown hgrow _
       obtain ⟨va2,vn2,rfl⟩:=ownv hown
       have B4:Hid (Bw w1 w4):=by
        have hb1:Bw w1 (wr.alloc (.cells #[.int .i64 x1,.int .i64 x2] 38)):=B2.out.alloc B2.out.size _
        refine hb1.grown hgrow hb1.size (fun x hx=>?_)
        have:=(O2.out.lt x hx).1
        omega
       have O4:Hid (w4.ownsRow w1.heap.size 38 2 (.slice va2 (L.length+1) vn2) (L++[(x1,x2)]).length (Zf (L++[(x1,x2)]))):=by
        rw [Hid,List.length_append,Y2];exact hown
       go_wp2
       refine ⟨⟨i+1,by simp,by omega,?_,B4⟩,by simp [intOf];omega⟩
       rw [hst2];exact O4
  ·have e:i=K:=by omega
   subst e
   have HE:Hid (((A.take i).filter fun m=>!Xv ps A m)=maxL ps A):=by rw [Hid,HML.out,List.take_of_length_le (by rw [HK.out];exact Nat.le_refl _)]
   rw [HE.out] at hO
   obtain ⟨va,vn,rfl⟩:=ownv hO.out
   go_wp2
   exact bodyPost_ret (results_tmp2 rfl _ _ _) rfl ⟨⟨_,rfl,Go.Joins.ownsRow_le hO.out B1.out.size⟩,B1.out.trans (hB.out.mono B1.out.size)⟩
theorem r9in_c {W:World} {N:Nat} (A:List (Int×Int)) (hA:A.length≤1000000) (v:Value) (hO:W.ownsRow N 38 2 v A.length (Zf A)) (m1 m2:Int):Calls Tryz.prog 190 #[v,.agg #[.int .i64 m1,.int .i64 m2]] W fun e w'=>e=.returned (.bool (A.any fun x=>(x.1 == m1)&&(x.2 == m2)))∧Bw W w':=by
 obtain ⟨K,hK⟩:∃ K,A.length=K:=⟨_,rfl⟩
 have HK:Hid (A.length=K):=hK
 obtain ⟨R,hR⟩:∃ R,(A.any fun x=>(x.1 == m1)&&(x.2 == m2))=R:=⟨_,rfl⟩
 have HR:Hid ((A.any fun x=>(x.1 == m1)&&(x.2 == m2))=R):=hR
 rw [hR]
 rw [hK] at hA
 obtain ⟨va,vc,rfl⟩:=ownv hO
 have HO:Hid (W.ownsRow N 38 2 (.slice va A.length vc) A.length (Zf A)):=hO
 rw [hK]
 obtain ⟨σ,V,hne,V1,V2⟩:=class_of' (fun w'=>Below (W.heap.size+1) (W.alloc (.cells #[.int .i64 m1,.int .i64 m2] 38)) w') ⟨_,Below.refl _ _⟩
 have HBV:Hid (∀ s0,Bw W (V s0)):=fun s0=>((Below.refl _ W).alloc (Nat.le_refl _) _).trans ((V1.out s0).mono (by omega))
 have mV0:∀ s0,(V s0).cell? ⟨W.heap.size,0,none⟩=some (.int .i64 m1):=fun s0=>((V1.out s0).cell (p:=⟨W.heap.size,0,none⟩) (show W.heap.size<W.heap.size+1 by omega)).trans (by simp [go_sem])
 have mV1:∀ s0,(V s0).cell? ⟨W.heap.size,1,none⟩=some (.int .i64 m2):=fun s0=>((V1.out s0).cell (p:=⟨W.heap.size,1,none⟩) (show W.heap.size<W.heap.size+1 by omega)).trans (by simp [go_sem])
 clear hK hR hO
 go_enter Tryz.func190,Tryz.ntmps190
 go_wp2
 go_loopw [5] (fun kv wr=>∃ (j:Nat),kv=.int .i64 j∧j≤K∧Hid (((A.take j).any fun x=>(x.1 == m1)&&(x.2 == m2))=false)∧Hid (Below (W.heap.size+1) (W.alloc (.cells #[.int .i64 m1,.int .i64 m2] 38)) wr)) (fun kv _=>K - (intOf kv).toNat)
 case atStart=>exact ⟨0,rfl,Nat.zero_le _,rfl,Below.refl _ _⟩
 case round =>
  obtain ⟨j,rfl,hj,hG,hB⟩:=hrel
  by_cases hlt:j<K
  ·have hjA:j<A.length:=by rw [HK.out];exact hlt
   have hjI:(j:Int)<(K:Int):=by omega
   obtain ⟨x,hx⟩:∃ x,A[j]?=some x:=⟨_,List.getElem?_eq_getElem hjA⟩
   obtain ⟨g,c2,hform⟩:=Go.Joins.ownsRow_form HO.out (by omega)
   have HROW:Hid (W.ownsRow N 38 2 (.slice (some ⟨g,0,none⟩) A.length vc) A.length (Zf A)):=by
    have hrow:=HO.out
    injection hform with hca _ _
    rw [Hid,← hca];exact hrow
   injection hform with hca _ hcc
   subst hca hcc
   obtain ⟨e0,e1,hgl⟩:=Yc HROW.out hx
   replace e0:=fun s0=>((HBV.out s0).cell (p:=⟨g,j * 2,none⟩) hgl).trans e0
   replace e1:=fun s0=>((HBV.out s0).cell (p:=⟨g,j * 2+1,none⟩) hgl).trans e1
   have hst:=Zin (p:=fun x=>(x.1 == m1)&&(x.2 == m2)) hx
   rw [hG.out,Bool.false_or] at hst
   have HQ:Hid (∀ s,Calls Tryz.prog 27 #[.agg #[.int .i64 x.1,.int .i64 x.2],.agg #[.int .i64 m1,.int .i64 m2]] (V s) fun e w''=>e=.returned (.bool ((x.1 == m1)&&(x.2 == m2)))∧∃ s',w''=V s'):=fun s=>(Zhp x (m1,m2) (V s)).mono fun e w'' zz=>⟨zz.1,V2.out _ ((V1.out s).trans (zz.2.mono (Nat.le_trans (by simp) (V1.out s).size)))⟩
   have hall:((x.1 == m1)&&(x.2 == m2))=true→R=true:=fun h=>by
    rw [← HR.out]
    exact List.any_eq_true.2 ⟨x,List.mem_of_getElem? hx,h⟩
   have HST:Hid _:=hst
   obtain ⟨x1,x2⟩:=x
   simp only at e0 e1 HQ hall HST
   generalize ((x1 == m1)&&(x2 == m2))=S at *
   clear hx hst hG hjA HROW
   go_wp2
   refine Ze (C:=fun w'=>∃ s,w'=V s) (by kernel_rfl) (by kernel_rfl) (V2.out _ (hB.out.drew)) ?_
   repeat (go_big_quiet_step ((go_at_call 27;exact HQ.out _)))
   refine wpQuiet_nil ?_
   intro w9 hw9
   obtain ⟨s9,hw9⟩:=hw9
   have B9:Hid (Below (W.heap.size+1) (W.alloc (.cells #[.int .i64 m1,.int .i64 m2] 38)) w9):=by rw [hw9];exact V1.out s9
   have B8:Hid (Bw W w9):=by rw [hw9];exact HBV.out s9
   clear hw9
   cases S
   case true =>
    obtain rfl:=hall rfl
    go_wp2
    all_goals go_ret
    all_goals exact ⟨retB (by simp),B8.out⟩
   case false =>
    go_wp2
    go_roundw
    case rel=>exact ⟨j+1,by go_num,by omega,HST.out,B9⟩
    case measure=>simp [intOf];omega
  ·have e:j=K:=by omega
   subst e
   have eR:R=false:=by
    have:=hG.out
    rw [← HK.out,List.take_length] at this
    rw [← HR.out];exact this
   subst eR
   clear hG HR
   have B8:Hid (Bw W wr):=((Below.refl _ W).alloc (Nat.le_refl _) _).trans (hB.out.mono (by omega))
   go_wp2
   all_goals go_ret
   all_goals exact ⟨retB (by simp),B8.out⟩
def namL (ps:List Plc) (nm ds:ByteArray):Nat→List (Int×Int)
 | 0=>[]
 | k+1=>namL ps nm ds k++if (fndI ps (k:Int) nm ds).2=0∧ifcI ps (k:Int)=false then [((k:Int),(fndI ps (k:Int) nm ds).1)] else []
theorem Zd5 (ps:List Plc) (nm ds:ByteArray):∀ n,(namL ps nm ds n).length≤n
 | 0=>Nat.le_refl _
 | k+1=>by
   have:=Zd5 ps nm ds k
   rw [namL,List.length_append]
   split <;> simp <;> omega
theorem RAt.head {b:Nat} {cs:List Cls} {w:World} (h:RAt b cs w):∃ a cap,w.cell? ⟨b,0,none⟩=some (.slice a cs.length cap):=by
 obtain ⟨N,v,rs,hW,hrc⟩:=h
 have b0:=cell_of_row w b 0 _ _ _ hW.hb
 simp only [List.getElem?_toArray,List.getElem?_cons_zero] at b0
 obtain ⟨a,c,rfl⟩:=ownv hW.row
 have e:rs.length=cs.length:=by rw [← hrc,List.length_map]
 rw [e] at b0
 exact ⟨a,c,b0⟩
theorem Zkx {b:Nat} {cs:List Cls} {ps:List Plc} {W:World} (h:RAt b cs W) (ht:TwW cs ps) (c i:Int) (x:HM) (hx:Zo ps c i=some x):Calls Tryz.prog 189 #[.pointer (some ⟨b,0,none⟩),.agg #[.int .i64 c,.int .i64 i]] W fun e w'=>(∃ v,e=.returned v∧w'.ownsRow W.heap.size 38 2 v (namL ps x.nm x.ds ps.length).length (Zf (namL ps x.nm x.ds ps.length)))∧Bw W w':=by
 obtain ⟨i0,hi0,hz0,hz1,hz2⟩:=info_parts Tryz.hinfoD
 have HTW:Hid (TwW cs ps):=ht
 have HW0:Hid (RAt b cs W):=h
 obtain ⟨K,hK⟩:∃ K,cs.length=K:=⟨_,rfl⟩
 have hKp:ps.length=K:=by
  rw [← hK]
  have:=congrArg List.length ht.tw
  simpa using this.symm
 have hKb:K≤300:=by rw [← hKp];exact ht.wi.hi
 have HM:Hid (∀ w,Bw W w→Calls Tryz.prog 188 #[.pointer (some ⟨b,0,none⟩),.agg #[.int .i64 c,.int .i64 i]] w fun e w'=>(∃ a n s,e=.returned (.agg #[.string x.nm,.string x.ds,.int .i64 x.fl,.int .i64 x.lo,.int .i64 x.st,.slice a n s]))∧Bw w w'):=fun w hb=>Jp (h.below hb) ht c i x hx
 have HHD:Hid (∀ w,RAt b cs w→∃ a cap,w.cell? ⟨b,0,none⟩=some (.slice a K cap)):=fun w hw=>by rw [← hK];exact hw.head
 have HFA:Hid (∀ (k:Nat) w,RAt b cs w→Calls Tryz.prog 86 #[.pointer (some ⟨b,0,none⟩),.int .i64 (k:Int),.string x.nm,.string x.ds] w fun e w'=>e=.returned (.tuple #[.int .i64 (fndI ps k x.nm x.ds).1,.int .i64 (fndI ps k x.nm x.ds).2])∧Bw w w'):=fun k w hw=>Zgy hw ht k x.nm x.ds
 have HIA:Hid (∀ (k:Nat) w,RAt b cs w→Calls Tryz.prog 61 #[.pointer (some ⟨b,0,none⟩),.int .i64 (k:Int)] w fun e w'=>e=.returned (.bool (ifcI ps k))∧w'=w):=fun k w hw=>(Y4 hw k).mono fun e w' zz=>⟨by rw [zz.1,Zaq ht],zz.2⟩
 rw [hKp]
 obtain ⟨NL,hNL⟩:∃ NL:Nat→List (Int×Int),NL=namL ps x.nm x.ds:=⟨_,rfl⟩
 have HN1:Hid (∀ k,NL (k+1)=NL k++if (fndI ps (k:Int) x.nm x.ds).2=0∧ifcI ps (k:Int)=false then [((k:Int),(fndI ps (k:Int) x.nm x.ds).1)] else []):=fun k=>by rw [hNL];rfl
 have HNL:Hid (∀ k,(NL k).length≤k):=fun k=>by rw [hNL];exact Zd5 _ _ _ k
 have HN0:Hid (NL 0=[]):=by rw [hNL];rfl
 rw [← hNL]
 generalize x.nm=nm at *
 generalize x.ds=ds at *
 clear h ht hx hK hKp hNL
 have BB:Hid (Bw W W):=Below.refl _ _
 go_enter Tryz.func189,Tryz.ntmps189
 go_wp2_with (first
  | (go_at_call 188;refine (HM.out _ ((Below.refl _ _).alloc (Nat.le_refl _) _)).mono ?_;rintro e w0 ⟨⟨xa,xk,xo,rfl⟩,hb⟩;have B0:Hid (Bw W w0):=Za ((Below.refl _ _).alloc (Nat.le_refl _) _) hb;clear hb HM))
 obtain ⟨w1,hw1⟩:∃ w1,w1=w0.alloc (.cells #[.string nm,.string ds,.int .i64 x.fl,.int .i64 x.lo,.int .i64 x.st,.slice xa xk xo] 87):=⟨_,rfl⟩
 have B1:Hid (Bw W w1):=by rw [hw1];exact B0.out.alloc B0.out.size _
 have HX1:Hid (w1.heap[w0.heap.size]?=some (.cells #[.string nm,.string ds,.int .i64 x.fl,.int .i64 x.lo,.int .i64 x.st,.slice xa xk xo] 87 (0,0))):=by rw [hw1];exact Zm _ _
 have hxl:w0.heap.size<w1.heap.size:=by rw [hw1];simp
 rw [← hw1]
 have HW1:Hid (RAt b cs w1):=HW0.out.below B1.out
 clear hw1 BB
 go_loopw [6,7] (fun sv kv wr=>∃ (j:Nat),kv=.int .i64 j∧j≤K∧Hid (wr.ownsRow w1.heap.size 38 2 sv (NL j).length (Zf (NL j)))∧Hid (Bw w1 wr)) (fun _ kv _=>K - (intOf kv).toNat)
 case atStart=>exact ⟨0,rfl,Nat.zero_le _,by rw [HN0.out];exact World.ownsRow_nil _ _ _ _,Below.refl _ _⟩
 case round =>
  obtain ⟨j,rfl,hj,hO,hB⟩:=hrel
  have HRr:Hid (RAt b cs wr):=HW1.out.below hB.out
  obtain ⟨ha,hcap,hd⟩:=HHD.out wr HRr.out
  obtain ⟨x0,x1,x2,x3,x4,x5,xf,xL⟩:=rw6 ((hB.out.block w0.heap.size hxl).trans HX1.out)
  obtain ⟨va,vn,rfl⟩:=ownv hO.out
  by_cases hlt:j<K
  ·have hjI:(j:Int)<(K:Int):=by omega
   have hst:=HN1.out j
   have hal:(NL j).length≤300:=by have:=HNL.out j;omega
   have HF:Hid (Calls Tryz.prog 86 #[.pointer (some ⟨b,0,none⟩),.int .i64 (j:Int),.string nm,.string ds] wr fun e w'=>e=.returned (.tuple #[.int .i64 (fndI ps j nm ds).1,.int .i64 (fndI ps j nm ds).2])∧Bw wr w'):=HFA.out j wr HRr.out
   have HI:Hid (∀ w,RAt b cs w→Calls Tryz.prog 61 #[.pointer (some ⟨b,0,none⟩),.int .i64 (j:Int)] w fun e w'=>e=.returned (.bool (ifcI ps j))∧w'=w):=fun w hw=>HIA.out j w hw
   have HST:Hid _:=hst
   generalize fndI ps (j:Int) nm ds=F at *
   obtain ⟨F1,F2⟩:=F
   simp only at HF HST
   generalize ifcI ps (j:Int)=S at *
   obtain ⟨L,hL⟩:∃ L,NL j=L:=⟨_,rfl⟩
   rw [hL] at HST hal hO
   rw [hL]
   clear hst hL HFA HIA HN1 HNL HN0
   by_cases hF:F2=0
   ·subst hF
    cases S
    case true =>
     have hst2:NL (j+1)=L:=by rw [HST.out,if_neg (by simp)];simp
     clear HST
     go_wp2_with (first
      | (go_at_call 86;refine HF.out.mono ?_;rintro e w2 ⟨rfl,hb⟩;have B2:Hid (Bw w1 w2):=Za hB.out hb;have O2:Hid (w2.ownsRow w1.heap.size 38 2 (.slice va L.length vn) L.length (Zf L)):=Zb hO.out hb;have HR2:Hid (RAt b cs w2):=HRr.out.below hb;clear hb HF)
      | (go_at_call 61;refine (HI.out _ HR2.out).mono ?_;rintro e w9 ⟨rfl,hw9⟩;rw [hw9];clear hw9 w9))
     go_roundw
     case rel=>exact ⟨j+1,by go_num,by omega,by rw [hst2];exact O2,B2⟩
     case measure=>simp [intOf];omega
    case false =>
     have hst2:NL (j+1)=L++[((j:Int),F1)]:=by rw [HST.out,if_pos (by simp)]
     clear HST
     go_wp2_with (first
      | (go_at_call 86;refine HF.out.mono ?_;rintro e w2 ⟨rfl,hb⟩;have B2:Hid (Bw w1 w2):=Za hB.out hb;have O2:Hid (w2.ownsRow w1.heap.size 38 2 (.slice va L.length vn) L.length (Zf L)):=Zb hO.out hb;have HR2:Hid (RAt b cs w2):=HRr.out.below hb;clear hb HF)
      | (go_at_call 61;refine (HI.out _ HR2.out).mono ?_;rintro e w9 ⟨rfl,hw9⟩;rw [hw9];clear hw9 w9)
      | (at_builtin;refine wpList_append_own _ rfl _ _ 30 rfl w1.heap.size 38 i0 (.agg #[.int .i64 0,.int .i64 0]) 2 16 Tryz.underlying30 hi0 hz0 hz1 hz2 rfl (by decide) (.slice va L.length vn) L.length (Zf L) rfl (O2.out.alloc _) ⟨w2.heap.size,0,none⟩ 1 1 [.int .i64 (j:Int),.int .i64 F1] rfl rfl ?c1 ?c2 ?c3 ?c4 ?c5 ?_))
     case c1=>intro jj u hj;rw [addr_add];match jj,hj with
      | 0,hj=>simp at hj;subst hj;simp [go_sem]
      | 1,hj=>simp at hj;subst hj;simp [go_sem]
      | (jj+2),hj=>simp at hj
     case c2=>intro u hu;simp at hu;rcases hu with rfl|rfl <;> rfl
     case c3=>unfold maxLen;omega
     case c4=>omega
     case c5=>have:=B2.out.size;simp;omega
     intro v' w4 hown hgrow _
     obtain ⟨va2,vn2,rfl⟩:=ownv hown
     have B4:Hid (Bw w1 w4):=by
      have hb1:Bw w1 (w2.alloc (.cells #[.int .i64 (j:Int),.int .i64 F1] 38)):=B2.out.alloc B2.out.size _
      refine hb1.grown hgrow hb1.size (fun x hx=>?_)
      have:=(O2.out.lt x hx).1
      omega
     have O4:Hid (w4.ownsRow w1.heap.size 38 2 (.slice va2 (L.length+1) vn2) (L++[((j:Int),F1)]).length (Zf (L++[((j:Int),F1)]))):=by
      rw [Hid,List.length_append,Y2];exact hown
     go_wp2
     go_roundw
     case rel=>exact ⟨j+1,by go_num,by omega,by rw [hst2];exact O4,B4⟩
     case measure=>simp [intOf];omega
   ·have hst2:NL (j+1)=L:=by rw [HST.out,if_neg (fun h=>hF h.1)];simp
    clear HST
    go_wp2_with (first
     | (go_at_call 86;refine HF.out.mono ?_;rintro e w2 ⟨rfl,hb⟩;have B2:Hid (Bw w1 w2):=Za hB.out hb;have O2:Hid (w2.ownsRow w1.heap.size 38 2 (.slice va L.length vn) L.length (Zf L)):=Zb hO.out hb;clear hb HF))
    go_roundw
    case rel=>exact ⟨j+1,by go_num,by omega,by rw [hst2];exact O2,B2⟩
    case measure=>simp [intOf];omega
  ·have e:j=K:=by omega
   subst e
   go_wp2
   exact bodyPost_ret (results_tmp rfl _ _ _) rfl ⟨⟨_,rfl,Go.Joins.ownsRow_le hO.out B1.out.size⟩,B1.out.trans (hB.out.mono B1.out.size)⟩
def gK (ps:List Plc) (nm ds:ByteArray) (k:Nat):Int×Int:=((k:Int),(fndI ps (k:Int) nm ds).1)
def namK (ps:List Plc) (nm ds:ByteArray):Nat→List Nat
 | 0=>[]
 | k+1=>namK ps nm ds k++if (fndI ps (k:Int) nm ds).2=0∧ifcI ps (k:Int)=false then [k] else []
theorem Zd4 (ps:List Plc) (nm ds:ByteArray):∀ n,namL ps nm ds n=(namK ps nm ds n).map (gK ps nm ds)
 | 0=>rfl
 | k+1=>by
   rw [namL,namK,List.map_append,Zd4 ps nm ds k]
   congr 1
   split <;> rfl
theorem Zbh {ps:List Plc} {nm ds:ByteArray}:∀ {n k:Nat},k∈namK ps nm ds n↔k<n∧(fndI ps (k:Int) nm ds).2=0∧ifcI ps (k:Int)=false
 | 0,k=>by simp [namK]
 | n+1,k=>by
   rw [namK,List.mem_append,Zbh (n:=n)]
   constructor
   ·rintro (⟨h1,h2⟩|h)
    ·exact ⟨by omega,h2⟩
    ·split at h
     ·rename_i hc
      rw [List.mem_singleton] at h
      subst h
      exact ⟨by omega,hc⟩
     ·cases h
   ·rintro ⟨h1,h2⟩
    by_cases e:k=n
    ·subst e
     exact .inr (by rw [if_pos h2];exact List.mem_singleton.2 rfl)
    ·exact .inl ⟨by omega,h2⟩
theorem Zhd {ps:List Plc} (hU:UnqM ps) {a:Int×Int} {ma:HM} (ha:Zo ps a.1 a.2=some ma) {nm ds:ByteArray} (h1:ma.nm.toList=nm.toList) (h2:ma.ds.toList=ds.toList):∃ k,k<ps.length∧gK ps nm ds k=a∧(fndI ps (k:Int) nm ds).2=0:=by
 obtain ⟨k,q,hk,hq,_,_⟩:=Yo ha
 have hf:=hU.fnd ha h1 h2
 rw [hk] at hf
 exact ⟨k,(List.getElem?_eq_some_iff.1 hq).1,by rw [gK,hf];exact Prod.ext hk.symm rfl,by rw [hf]⟩
structure AllS (ps:List Plc) (a:Int×Int) (nm ds:ByteArray) (Ks:List Nat):Prop where
 nd:Ks.Nodup
 lt:∀ k∈Ks,k<ps.length
 top:∃ k∈Ks,gK ps nm ds k=a
 ov:∀ k∈Ks,Ov ps a (gK ps nm ds k)
def DoneI (ps:List Plc) (nm ds:ByteArray) (i:Nat) (Ks:List Nat):Prop:=∀ p y,p<i→Ks[p]?=some y→∀ s∈namK ps nm ds ps.length,plI ps (gK ps nm ds s) (gK ps nm ds y)=true→s∈Ks
theorem AllS.start {ps:List Plc} {a:Int×Int} {nm ds:ByteArray} {k:Nat} (hk:k<ps.length) (he:gK ps nm ds k=a) (hs:stI ps a=false):AllS ps a nm ds [k] :=
 ⟨List.nodup_cons.2 ⟨by simp,List.nodup_nil⟩,fun j hj=>by rw [List.mem_singleton] at hj;rw [hj];exact hk,⟨k,List.mem_singleton.2 rfl,he⟩,fun j hj=>by
  rw [List.mem_singleton] at hj
  rw [hj,he]
  exact ⟨0,rfl,hs⟩⟩
theorem AllS.snoc {ps:List Plc} {a:Int×Int} {nm ds:ByteArray} {Ks:List Nat} (h:AllS ps a nm ds Ks) {s y:Nat} (hs:s∈namK ps nm ds ps.length) (hn:¬ s∈Ks) (hy:y∈Ks) (hp:plI ps (gK ps nm ds s) (gK ps nm ds y)=true):AllS ps a nm ds (Ks++[s]):=by
 refine ⟨?_,fun k hk=>?_,?_,fun k hk=>?_⟩
 ·rw [List.nodup_append]
  refine ⟨h.nd,List.nodup_cons.2 ⟨by simp,List.nodup_nil⟩,fun x hx z hz e=>?_⟩
  rw [List.mem_singleton] at hz
  subst hz e
  exact hn hx
 ·rcases List.mem_append.1 hk with hk|hk
  ·exact h.lt k hk
  ·rw [List.mem_singleton] at hk
   rw [hk];exact (Zbh.1 hs).1
 ·obtain ⟨k,hk,e⟩:=h.top
  exact ⟨k,List.mem_append_left _ hk,e⟩
 ·rcases List.mem_append.1 hk with hk|hk
  ·exact h.ov k hk
  ·rw [List.mem_singleton] at hk
   rw [hk];exact (h.ov y hy).step hp
theorem DoneI.snoc {ps:List Plc} {nm ds:ByteArray} {i:Nat} {Ks:List Nat} (h:DoneI ps nm ds i Ks) (hi:i≤Ks.length) (s:Nat):DoneI ps nm ds i (Ks++[s]):=by
 intro p y hp hy t ht hpl
 rw [List.getElem?_append_left (by omega)] at hy
 exact List.mem_append_left _ (h p y hp hy t ht hpl)
theorem AllS.all {ps:List Plc} (hW:WI ps) (hU:UnqM ps) {a:Int×Int} {ma:HM} (ha:Zo ps a.1 a.2=some ma) {Ks:List Nat} (h:AllS ps a ma.nm ma.ds Ks) (hd:DoneI ps ma.nm ma.ds Ks.length Ks) (x:Int×Int):x∈Ks.map (gK ps ma.nm ma.ds)↔Ov ps a x:=by
 constructor
 ·intro hx
  obtain ⟨k,hk,rfl⟩:=List.mem_map.1 hx
  exact h.ov k hk
 ·rintro ⟨n,hn⟩
  induction n generalizing x with
  | zero =>
    obtain ⟨rfl,_⟩:=hn
    obtain ⟨k,hk,e⟩:=h.top
    exact List.mem_map.2 ⟨k,hk,e⟩
  | succ n ih =>
    obtain ⟨y,hy,hp⟩:=hn
    obtain ⟨ky,hky,ey⟩:=List.mem_map.1 (ih y hy)
    obtain ⟨my,hmy,n1,n2,_⟩:=Yp hW ha n y hy
    obtain ⟨mx,my2,hmx,hmy2,f1,f2,_,_,_,f6,_⟩:=Zbd hp
    rw [hmy] at hmy2
    cases hmy2
    obtain ⟨k,hk,e,e0⟩:=Zhd hU hmx (f1.trans n1) (f2.trans n2)
    obtain ⟨p,hpl,hpe⟩:=List.getElem_of_mem hky
    refine List.mem_map.2 ⟨k,hd p ky hpl (by rw [List.getElem?_eq_getElem hpl,hpe]) k (Zbh.2 ⟨hk,e0,?_⟩) (by rw [e,ey];exact hp),e⟩
    have:(k:Int)=x.1:=by rw [← e];rfl
    rw [this];exact f6
end Go.Proofs.YtmafkabjjibcbaaGreat
