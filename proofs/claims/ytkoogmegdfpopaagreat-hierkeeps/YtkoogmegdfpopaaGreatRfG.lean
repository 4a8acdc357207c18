import Derived.Test.YtkoogmegdfpopaaGreatRfF
set_option maxHeartbeats 8000000
set_option maxRecDepth 100000
namespace Go.Proofs.YtkoogmegdfpopaaGreat
open Go.RowKit Go.Maps
theorem Tryz.hinfoC:(Tryz.prog.info? 33).map (fun i=>(i.zero,i.size,i.bytes))=some (some (.agg #[.string ⟨#[]⟩,.string ⟨#[]⟩,.slice none 0 0,.int .i64 0,.int .i64 0,.slice none 0 0]),6,96):=by kernel_rfl
theorem row_ge {w:World} {N e s:Nat} {v:Value} {n:Nat} {xs:List Value} (h:w.ownsRow N e s v n xs) {k:Nat} (hk:v.ownBlock=some k):N≤k:=by
 rcases h.2 with ⟨rfl,_⟩|⟨g,cap,cur,rfl,hg,_⟩
 ·simp [Value.ownBlock] at hk
 ·simp [Value.ownBlock] at hk;omega
theorem callCp (vs:Array Value) (w:World):(callFunc 27 vs).run Tryz.prog w=.ok (.enter 27 vs) w:=by simp [go_sem]
def ropI (cs:List Cls) (c:Cls) (k:Int):Bool:=match clsI cs k with
 | some p=>hasI p.fl 1||togB c p
 | none=>false
def rifN (cs:List Cls) (c:Cls):List (List UInt8)→Int
 | []=>0
 | p::r=>if nmdI (ByteArray.mk p.toArray).toList cs 0<0 then 20 else if ifcC cs (nmdI (ByteArray.mk p.toArray).toList cs 0) then (if ropI cs c (nmdI (ByteArray.mk p.toArray).toList cs 0) then rifN cs c r else 22) else 23
def rdfN (cs:List Cls) (c:Cls):Int:=if clsB c=true then (if 300≤cs.length then 5 else if 0≤nmdI c.nm.toList cs 0 then 25 else if nmdI c.su.toList cs 0<0 then 20 else if ifcC cs (nmdI c.su.toList cs 0)||(hasI c.fl 512&&!(nmdI c.su.toList cs 0 == 0)) then 23 else if ropI cs c (nmdI c.su.toList cs 0) then rifN cs c c.ifs else 22) else 1
def rdfV (cs:List Cls) (z:Int):Value:=if z=0 then .tuple #[.int .i64 (cs.length:Int),.int .i64 0] else .tuple #[.int .i64 0,.int .i64 z]
def rdfC (cs:List Cls) (c:Cls) (z:Int):List Cls:=if z=0 then cs++[c] else cs
def DfP (W:World) (N b:Nat) (v:Value) (rs:List CR) (cs:List Cls) (c:Cls) (z:Int) (e:Ending) (w':World):Prop:=e=.returned (rdfV cs z)∧(∃ v' rs',RW w' N b v' rs'∧rs'.map CR.c=rdfC cs c z∧(v'=v∧rs'=rs∨∃ r,rs'=rs++[r]∧CrO w' W.heap.size r∧∀ g,v'.ownBlock=some g→v.ownBlock=some g∨W.heap.size≤g))∧Below N W w'∧∀ (j:Nat) (o:Obj),W.heap[j]?=some o→j≠b→(∀ xs,o≠.cells xs 33 (0,0))→w'.heap[j]?=some o
theorem DfP.no {W w':World} {N b:Nat} {v:Value} {rs:List CR} {c:Cls} {z:Int} (h:RW W N b v rs) (hN:N≤W.heap.size) (hb:Bw W w') (hz:z≠0):DfP W N b v rs (rs.map CR.c) c z (.returned (.tuple #[.int .i64 0,.int .i64 z])) w' :=
 ⟨by rw [rdfV,if_neg hz],⟨v,rs,h.below hb,by rw [rdfC,if_neg hz],.inl ⟨rfl,rfl⟩⟩,hb.mono hN,fun j o hj _ _=>(hb.block j (Array.getElem?_eq_some_iff.1 hj).1).trans hj⟩
theorem Xz (key:List UInt8):∀ (cs:List Cls) (k:Nat),nmdI key cs k=-1∨∃ j,nmdI key cs k=((k+j:Nat):Int)∧j<cs.length
 | [],_=>.inl rfl
 | c::r,k=>by
   rw [nmdI]
   cases c.nm.toList == key with
   | true=>exact .inr ⟨0,by simp,by simp⟩
   | false =>
     rcases Xz key r (k+1) with h|⟨j,h,hj⟩
     ·exact .inl (by simpa using h)
     ·exact .inr ⟨j+1,by simp only [Bool.false_eq_true,if_false];rw [h];congr 1;omega,by simp;omega⟩
theorem Zdk {key:List UInt8} {cs:List Cls} {L:Nat} (hL:cs.length=L) (h:¬ nmdI key cs 0<0):∃ (k:Nat) (p:Cls),nmdI key cs 0=(k:Int)∧k<L∧cs[k]?=some p:=by
 rcases Xz key cs 0 with e|⟨j,e,hj⟩
 ·omega
 ·exact ⟨j,_,by rw [e,Nat.zero_add],by omega,List.getElem?_eq_getElem hj⟩
theorem Zem (N b:Nat) (v:Value) (rs:List CR) (c:Cls) (vi vm:Value) (W:World) (h:RW W N b v rs) (hN:N≤W.heap.size) (hc:ClsIn W vi vm c) (hqz:∀ q∈rs,q.c.nm.size≤maxLen) (hl:rs.length≤300) :
 Calls Tryz.prog 9 #[.pointer (some ⟨b,0,none⟩),clsV c vi vm] W (DfP W N b v rs (rs.map CR.c) c (rdfN (rs.map CR.c) c)):=by
 obtain ⟨hcn,hcs,hci,hcf,hcl,hcm⟩:=hc.ok
 have hat:RAt b (rs.map CR.c) W:=⟨N,v,rs,h,rfl⟩
 have hcl3:(rs.map CR.c).length≤300:=by rw [List.length_map];exact hl
 have HCk:Hid (∀ w:World,Bw W w→Calls Tryz.prog 31 #[.agg #[.string c.nm,.string c.su,vi,.int .i64 c.fl,.int .i64 c.ld,vm]] w fun e w'=>e=.returned (.int .i64 (clsE c))∧Bw w w'):=fun w hb=>Zep c vi vm w (hc.keep hb).ifs (hc.keep hb).ms hcn hcs hci (fun m hm=>⟨(hcm m hm).1,(hcm m hm).2.1,fun i hi=>((hcm m hm).2.2.2.2.2 i hi).2⟩)
 have HNm:Hid (∀ (nm:ByteArray) (w:World),Bw W w→Calls Tryz.prog 32 #[.pointer (some ⟨b,0,none⟩),.string nm] w fun e w'=>e=.returned (.int .i64 (nmdI nm.toList (rs.map CR.c) 0))∧w'=w):=fun nm w hb=>Zb8 (hat.below hb) nm hcl3
 have HIf:Hid (∀ (i:Int) (w:World),Bw W w→Calls Tryz.prog 33 #[.pointer (some ⟨b,0,none⟩),.int .i64 i] w fun e w'=>e=.returned (.bool (ifcC (rs.map CR.c) i))∧w'=w):=fun i w hb=>Zgg (hat.below hb) i
 have HHs:Hid (∀ w:World,Calls Tryz.prog 34 #[.int .i64 c.fl,.int .i64 512] w fun e w'=>e=.returned (.bool (hasI c.fl 512))∧w'=w):=Xg c.fl 512
 have HOp:Hid (∀ (p:Cls) (ui um:Value) (w:World),p∈rs.map CR.c→Calls Tryz.prog 35 #[.agg #[.string c.nm,.string c.su,vi,.int .i64 c.fl,.int .i64 c.ld,vm],.agg #[.string p.nm,.string p.su,ui,.int .i64 p.fl,.int .i64 p.ld,um]] w fun e w'=>e=.returned (.bool (hasI p.fl 1||togB c p))∧Bw w w'):=fun p ui um w hp=>rOpen_c c p vi vm ui um hcn (by obtain ⟨q,hq,rfl⟩:=List.mem_map.1 hp;exact hqz q hq) w
 have HNo:Hid (∀ (z:Int) (w':World),Bw W w'→z≠0→DfP W N b v rs (rs.map CR.c) c z (.returned (.tuple #[.int .i64 0,.int .i64 z])) w'):=fun z w' hb hz=>DfP.no h hN hb hz
 have HAT:Hid (∀ w,Bw W w→RAt b (rs.map CR.c) w):=fun w hb=>hat.below hb
 have HRW:Hid (∀ w,Bw W w→RW w N b v rs):=fun w hb=>h.below hb
 have HCI:Hid (ClsIn W vi vm c):=hc
 obtain ⟨L,hL⟩:∃ L,(rs.map CR.c).length=L:=⟨_,rfl⟩
 have HL:Hid ((rs.map CR.c).length=L):=hL
 obtain ⟨ai,ci,evi⟩:=Zf7 hc.ifs
 obtain ⟨am,cm,evm⟩:=Zgx hc.ms
 obtain ⟨av,cv,ev⟩:=ownv h.row
 have hLr:rs.length=L:=by rw [← hL,List.length_map]
 rw [hLr] at ev
 subst ev
 have hNb:N≤b:=h.lb
 have hbl:b<W.heap.size:=(Array.getElem?_eq_some_iff.1 h.hb).1
 have hbW:=h.hb
 subst evi
 subst evm
 generalize hcs':rs.map CR.c=cs at *
 have EW:Hid (∀ z,z=rdfN cs c→DfP W N b (.slice av L cv) rs cs c z=DfP W N b (.slice av L cv) rs cs c (rdfN cs c)):=fun z hz=>by rw [hz]
 clear hat h hc hL hcm hci hcf hcl hcs hqz
 obtain ⟨W0,hW0⟩:∃ x,x=W.alloc (.cells #[.string c.nm,.string c.su,.slice ai c.ifs.length ci,.int .i64 c.fl,.int .i64 c.ld,.slice am c.ms.length cm] 33):=⟨_,rfl⟩
 have HE0:Hid (W0=W.alloc (.cells #[.string c.nm,.string c.su,.slice ai c.ifs.length ci,.int .i64 c.fl,.int .i64 c.ld,.slice am c.ms.length cm] 33)):=hW0
 have HB0:Hid (Bw W W0):=by rw [hW0];exact (Below.refl _ W).alloc (Nat.le_refl _) _
 have HBX:Hid (W0.heap[W.heap.size]?=some (.cells #[.string c.nm,.string c.su,.slice ai c.ifs.length ci,.int .i64 c.fl,.int .i64 c.ld,.slice am c.ms.length cm] 33 (0,0))):=by rw [hW0];exact Xs W _
 clear hW0
 rw [clsV]
 obtain ⟨Z,hZ⟩:∃ Z,Z=rdfN cs c:=⟨_,rfl⟩
 rw [← hZ]
 cases hB:clsB c with
 | false =>
   have HCk:Hid (∀ w:World,Bw W w→Calls Tryz.prog 31 #[.agg #[.string c.nm,.string c.su,.slice ai c.ifs.length ci,.int .i64 c.fl,.int .i64 c.ld,.slice am c.ms.length cm]] w fun e w'=>e=.returned (.int .i64 1)∧Bw w w'):=fun w hb=>by have:=HCk.out w hb;rw [clsE,hB] at this;exact this
   have EZ:Hid (Z=1):=by rw [Hid,hZ,rdfN,hB];rfl
   clear hZ hB HNm HIf HHs HOp HAT HRW HCI EW
   go_enter Tryz.func9,Tryz.ntmps9
   go_wp2_with (go_at_call 31;rw [← HE0.out];refine (HCk.out _ HB0.out).mono ?_;rintro e w1 ⟨rfl,hb1⟩;have B1:Hid (Bw W w1):=Zj HB0.out hb1;clear hb1 HB0 HBX HE0 HCk)
   refine bodyPost_ret (results_tmp2 rfl _ _ _) rfl ?_
   rw [EZ.out]
   exact HNo.out 1 _ B1.out (by decide)
 | true =>
   have HCk:Hid (∀ w:World,Bw W w→Calls Tryz.prog 31 #[.agg #[.string c.nm,.string c.su,.slice ai c.ifs.length ci,.int .i64 c.fl,.int .i64 c.ld,.slice am c.ms.length cm]] w fun e w'=>e=.returned (.int .i64 0)∧Bw w w'):=fun w hb=>by have:=HCk.out w hb;rw [clsE,hB] at this;exact this
   have EZ:Hid (Z=if 300≤L then 5 else if 0≤nmdI c.nm.toList cs 0 then 25 else if nmdI c.su.toList cs 0<0 then 20 else if ifcC cs (nmdI c.su.toList cs 0)||(hasI c.fl 512&&!(nmdI c.su.toList cs 0 == 0)) then 23 else if ropI cs c (nmdI c.su.toList cs 0) then rifN cs c c.ifs else 22):=by rw [Hid,hZ,rdfN,if_pos hB,HL.out]
   obtain ⟨dB,_,_⟩:=Xb hB
   have HBC:Hid (clsB c=true):=hB
   clear hB hZ
   go_enter Tryz.func9,Tryz.ntmps9
   go_upto_region 3 with (go_at_call 31;rw [← HE0.out];refine (HCk.out _ HB0.out).mono ?_;rintro e w1 ⟨rfl,hb1⟩;have B1:Hid (Bw W w1):=Zj HB0.out hb1;have X1:Hid (w1.heap[W.heap.size]?=some (.cells #[.string c.nm,.string c.su,.slice ai c.ifs.length ci,.int .i64 c.fl,.int .i64 c.ld,.slice am c.ms.length cm] 33 (0,0))):=(hb1.block _ (Array.getElem?_eq_some_iff.1 HBX.out).1).trans HBX.out;clear hb1 HB0 HBX HE0 HCk)
   have b0:=cell_of_row w1 b 0 _ _ _ ((B1.out.block b hbl).trans hbW)
   have x0:=cell_of_row w1 W.heap.size 0 _ _ _ X1.out
   have x1:=cell_of_row w1 W.heap.size 1 _ _ _ X1.out
   have x2:=cell_of_row w1 W.heap.size 2 _ _ _ X1.out
   have x3:=cell_of_row w1 W.heap.size 3 _ _ _ X1.out
   have x4:=cell_of_row w1 W.heap.size 4 _ _ _ X1.out
   have x5:=cell_of_row w1 W.heap.size 5 _ _ _ X1.out
   simp only [List.getElem?_toArray,List.getElem?_cons_zero,List.getElem?_cons_succ] at b0 x0 x1 x2 x3 x4 x5
   by_cases h300:300≤L
   ·replace EZ:Hid (Z=5):=EZ.out.trans (if_pos h300)
    have h300':(300:Int)≤(L:Int):=by omega
    clear HNm HIf HHs HOp HAT HRW HCI EW
    go_wp2
    refine bodyPost_ret (results_tmp2 rfl _ _ _) rfl ?_
    rw [EZ.out]
    exact HNo.out 5 _ B1.out (by decide)
   ·have h300':¬ (300:Int)≤(L:Int):=by omega
    replace EZ:Hid (Z=_):=EZ.out.trans (if_neg h300)
    have HN1:Hid (Calls Tryz.prog 32 #[.pointer (some ⟨b,0,none⟩),.string c.nm] w1 fun e w'=>e=.returned (.int .i64 (nmdI c.nm.toList cs 0))∧w'=w1):=HNm.out c.nm w1 B1.out
    generalize nmdI c.nm.toList cs 0=z1 at *
    by_cases hz1:0≤z1
    ·have EZ:Hid (Z=25):=EZ.out.trans (if_pos hz1)
     clear HNm HIf HHs HOp HAT HRW HCI EW
     go_wp2_with (go_at_call 32;refine HN1.out.mono ?_;rintro e w9 ⟨rfl,hw9⟩;rw [hw9];clear hw9 w9)
     refine bodyPost_ret (results_tmp2 rfl _ _ _) rfl ?_
     rw [EZ.out]
     exact HNo.out 25 _ B1.out (by decide)
    ·replace EZ:Hid (Z=_):=EZ.out.trans (if_neg hz1)
     have HN2:Hid (Calls Tryz.prog 32 #[.pointer (some ⟨b,0,none⟩),.string c.su] w1 fun e w'=>e=.returned (.int .i64 (nmdI c.su.toList cs 0))∧w'=w1):=HNm.out c.su w1 B1.out
     by_cases hz2:nmdI c.su.toList cs 0<0
     ·replace EZ:Hid (Z=20):=EZ.out.trans (if_pos hz2)
      clear HNm HIf HHs HOp HAT HRW HCI EW
      generalize nmdI c.su.toList cs 0=z2 at *
      go_wp2_with (go_at_call 32;first|(refine HN1.out.mono ?_;rintro e w9 ⟨rfl,hw9⟩;rw [hw9];clear hw9 w9 HN1)|(refine HN2.out.mono ?_;rintro e w9 ⟨rfl,hw9⟩;rw [hw9];clear hw9 w9))
      refine bodyPost_ret (results_tmp2 rfl _ _ _) rfl ?_
      rw [EZ.out]
      exact HNo.out 20 _ B1.out (by decide)
     ·replace EZ:Hid (Z=_):=EZ.out.trans (if_neg hz2)
      obtain ⟨k,p,hk,hkL,hkp⟩:=Zdk HL.out hz2
      clear hz2
      replace EZ:Hid (Z=if ifcC cs (k:Int)||(hasI c.fl 512&&!((k:Int) == 0)) then 23 else if ropI cs c (k:Int) then rifN cs c c.ifs else 22):=by rw [← hk];exact EZ.out
      rw [hk] at HN2
      have HI2:Hid (Calls Tryz.prog 33 #[.pointer (some ⟨b,0,none⟩),.int .i64 (k:Int)] w1 fun e w'=>e=.returned (.bool (ifcC cs (k:Int)))∧w'=w1):=HIf.out (k:Int) w1 B1.out
      have HHs2:Hid (∀ w:World,Calls Tryz.prog 34 #[.int .i64 c.fl,.int .i64 512] w fun e w'=>e=.returned (.bool (hasI c.fl 512))∧w'=w):=HHs.out
      clear HHs
      generalize ifcC cs (k:Int)=R1 at *
      generalize hasI c.fl 512=R2 at *
      clear hk
      have hz1':¬ 0≤z1:=hz1
      cases hR:(R1||(R2&&!((k:Int) == 0))) with
      | true =>
        replace EZ:Hid (Z=23):=EZ.out.trans (by rw [hR];rfl)
        have hcs:R1=true∨(R1=false∧R2=true∧(((k:Int) == 0)=false)∧¬ (k:Int)=0):=by
         cases R1 <;> cases R2 <;> simp_all
        clear hR HNm HIf HOp HAT HRW HCI EW
        rcases hcs with rfl|⟨rfl,rfl,h0,h0'⟩
        all_goals
         go_wp2_with (first
          | (go_at_call 32;first|(refine HN1.out.mono ?_;rintro e w9 ⟨rfl,hw9⟩;rw [hw9];clear hw9 w9 HN1)|(refine HN2.out.mono ?_;rintro e w9 ⟨rfl,hw9⟩;rw [hw9];clear hw9 w9 HN2))
          | (go_at_call 33;refine HI2.out.mono ?_;rintro e w9 ⟨rfl,hw9⟩;rw [hw9];clear hw9 w9)
          | (go_at_call 34;refine (HHs2.out _).mono ?_;rintro e w9 ⟨rfl,hw9⟩;rw [hw9];clear hw9 w9))
         refine bodyPost_ret (results_tmp2 rfl _ _ _) rfl ?_
         rw [EZ.out]
         exact HNo.out 23 _ B1.out (by decide)
      | false =>
        replace EZ:Hid (Z=if ropI cs c (k:Int) then rifN cs c c.ifs else 22):=EZ.out.trans (by rw [hR];rfl)
        have hcs:R1=false∧(R2=false∨(R2=true∧(((k:Int) == 0)=true)∧((((k:Int) != 0)=false)))):=by
         cases R1 <;> cases R2 <;> simp_all
        clear hR
        obtain ⟨rfl,hR2⟩:=hcs
        obtain ⟨g,cap,ui,um,b0',hbl1,hgl1,c0,c1,c2,c3,c4,c5,_⟩:=(HAT.out w1 B1.out).cells hkp
        have hxl1:W.heap.size<w1.heap.size:=(Array.getElem?_eq_some_iff.1 X1.out).1
        rw [HL.out,b0] at b0'
        simp only [Option.some.injEq,Value.slice.injEq,true_and] at b0'
        obtain ⟨rfl,rfl⟩:=b0'
        have ho:ropI cs c (k:Int)=(hasI p.fl 1||togB c p):=by rw [ropI,Y4,hkp]
        rw [ho] at EZ
        have HO2:Hid (∀ w:World,Calls Tryz.prog 35 #[.agg #[.string c.nm,.string c.su,.slice ai c.ifs.length ci,.int .i64 c.fl,.int .i64 c.ld,.slice am c.ms.length cm],.agg #[.string p.nm,.string p.su,ui,.int .i64 p.fl,.int .i64 p.ld,um]] w fun e w'=>e=.returned (.bool (hasI p.fl 1||togB c p))∧Bw w w'):=fun w=>HOp.out p ui um w (List.mem_of_getElem? hkp)
        generalize (hasI p.fl 1||togB c p)=R3 at *
        have hkI:(k:Int)<(L:Int):=by omega
        clear ho hkp
        cases R3 with
        | false =>
          replace EZ:Hid (Z=22):=EZ.out
          clear HNm HIf HOp HAT HRW HCI EW
          rcases hR2 with rfl|⟨rfl,h0,h0'⟩
          all_goals
           go_upto_region 12 with (first
            | (go_at_call 32;first|(refine HN1.out.mono ?_;rintro e w9 ⟨rfl,hw9⟩;rw [hw9];clear hw9 w9 HN1)|(refine HN2.out.mono ?_;rintro e w9 ⟨rfl,hw9⟩;rw [hw9];clear hw9 w9 HN2))
            | (go_at_call 33;refine HI2.out.mono ?_;rintro e w9 ⟨rfl,hw9⟩;rw [hw9];clear hw9 w9)
            | (go_at_call 34;refine (HHs2.out _).mono ?_;rintro e w9 ⟨rfl,hw9⟩;rw [hw9];clear hw9 w9))
           go_region_held3 (fun w'=>w'.cell? ⟨b,0,none⟩=some (.slice (some ⟨g,0,none⟩) L cv)∧w'.cell? ⟨W.heap.size,0,none⟩=some (.string c.nm)∧w'.cell? ⟨W.heap.size,1,none⟩=some (.string c.su)∧w'.cell? ⟨W.heap.size,2,none⟩=some (.slice ai c.ifs.length ci)∧w'.cell? ⟨W.heap.size,3,none⟩=some (.int .i64 c.fl)∧w'.cell? ⟨W.heap.size,4,none⟩=some (.int .i64 c.ld)∧w'.cell? ⟨W.heap.size,5,none⟩=some (.slice am c.ms.length cm)∧w'.cell? ⟨g,k * 6,none⟩=some (.string p.nm)∧w'.cell? ⟨g,k * 6+1,none⟩=some (.string p.su)∧w'.cell? ⟨g,k * 6+2,none⟩=some (ui)∧w'.cell? ⟨g,k * 6+3,none⟩=some (.int .i64 p.fl)∧w'.cell? ⟨g,k * 6+4,none⟩=some (.int .i64 p.ld)∧w'.cell? ⟨g,k * 6+5,none⟩=some (um)) (go_keep) (first|(go_at_call 35;refine (HO2.out _).mono ?_;rintro e w2 ⟨rfl,hb2⟩;have hb1':Bw w1 w2:=((Below.refl _ w1).drew.trans hb2);have y0:=(hb1'.cell (p:=⟨b,0,none⟩) hbl1).trans b0;have y1:=(hb1'.cell (p:=⟨W.heap.size,0,none⟩) hxl1).trans x0;have y2:=(hb1'.cell (p:=⟨W.heap.size,1,none⟩) hxl1).trans x1;have y3:=(hb1'.cell (p:=⟨W.heap.size,2,none⟩) hxl1).trans x2;have y4:=(hb1'.cell (p:=⟨W.heap.size,3,none⟩) hxl1).trans x3;have y5:=(hb1'.cell (p:=⟨W.heap.size,4,none⟩) hxl1).trans x4;have y6:=(hb1'.cell (p:=⟨W.heap.size,5,none⟩) hxl1).trans x5;have y7:=(hb1'.cell (p:=⟨g,k * 6,none⟩) hgl1).trans c0;have y8:=(hb1'.cell (p:=⟨g,k * 6+1,none⟩) hgl1).trans c1;have y9:=(hb1'.cell (p:=⟨g,k * 6+2,none⟩) hgl1).trans c2;have y10:=(hb1'.cell (p:=⟨g,k * 6+3,none⟩) hgl1).trans c3;have y11:=(hb1'.cell (p:=⟨g,k * 6+4,none⟩) hgl1).trans c4;have y12:=(hb1'.cell (p:=⟨g,k * 6+5,none⟩) hgl1).trans c5;have B2:Hid (Bw W w2):=Zj B1.out hb1';have X2:Hid (w2.heap[W.heap.size]?=some (.cells #[.string c.nm,.string c.su,.slice ai c.ifs.length ci,.int .i64 c.fl,.int .i64 c.ld,.slice am c.ms.length cm] 33 (0,0))):=(hb1'.block _ hxl1).trans X1.out;clear hb2 hb1'))
           go_wp2
           refine bodyPost_ret (results_tmp2 rfl _ _ _) rfl ?_
           rw [EZ.out]
           exact HNo.out 22 _ B2.out (by decide)
        | true =>
          replace EZ:Hid (Z=rifN cs c c.ifs):=EZ.out
          rcases hR2 with rfl|⟨rfl,h0,h0'⟩
          all_goals
           go_upto_region 12 with (first
            | (go_at_call 32;first|(refine HN1.out.mono ?_;rintro e w9 ⟨rfl,hw9⟩;rw [hw9];clear hw9 w9 HN1)|(refine HN2.out.mono ?_;rintro e w9 ⟨rfl,hw9⟩;rw [hw9];clear hw9 w9 HN2))
            | (go_at_call 33;refine HI2.out.mono ?_;rintro e w9 ⟨rfl,hw9⟩;rw [hw9];clear hw9 w9)
            | (go_at_call 34;refine (HHs2.out _).mono ?_;rintro e w9 ⟨rfl,hw9⟩;rw [hw9];clear hw9 w9))
           go_region_held3 (fun w'=>w'.cell? ⟨b,0,none⟩=some (.slice (some ⟨g,0,none⟩) L cv)∧w'.cell? ⟨W.heap.size,0,none⟩=some (.string c.nm)∧w'.cell? ⟨W.heap.size,1,none⟩=some (.string c.su)∧w'.cell? ⟨W.heap.size,2,none⟩=some (.slice ai c.ifs.length ci)∧w'.cell? ⟨W.heap.size,3,none⟩=some (.int .i64 c.fl)∧w'.cell? ⟨W.heap.size,4,none⟩=some (.int .i64 c.ld)∧w'.cell? ⟨W.heap.size,5,none⟩=some (.slice am c.ms.length cm)∧w'.cell? ⟨g,k * 6,none⟩=some (.string p.nm)∧w'.cell? ⟨g,k * 6+1,none⟩=some (.string p.su)∧w'.cell? ⟨g,k * 6+2,none⟩=some (ui)∧w'.cell? ⟨g,k * 6+3,none⟩=some (.int .i64 p.fl)∧w'.cell? ⟨g,k * 6+4,none⟩=some (.int .i64 p.ld)∧w'.cell? ⟨g,k * 6+5,none⟩=some (um)) (go_keep) (first|(go_at_call 35;refine (HO2.out _).mono ?_;rintro e w2 ⟨rfl,hb2⟩;have hb1':Bw w1 w2:=((Below.refl _ w1).drew.trans hb2);have y0:=(hb1'.cell (p:=⟨b,0,none⟩) hbl1).trans b0;have y1:=(hb1'.cell (p:=⟨W.heap.size,0,none⟩) hxl1).trans x0;have y2:=(hb1'.cell (p:=⟨W.heap.size,1,none⟩) hxl1).trans x1;have y3:=(hb1'.cell (p:=⟨W.heap.size,2,none⟩) hxl1).trans x2;have y4:=(hb1'.cell (p:=⟨W.heap.size,3,none⟩) hxl1).trans x3;have y5:=(hb1'.cell (p:=⟨W.heap.size,4,none⟩) hxl1).trans x4;have y6:=(hb1'.cell (p:=⟨W.heap.size,5,none⟩) hxl1).trans x5;have y7:=(hb1'.cell (p:=⟨g,k * 6,none⟩) hgl1).trans c0;have y8:=(hb1'.cell (p:=⟨g,k * 6+1,none⟩) hgl1).trans c1;have y9:=(hb1'.cell (p:=⟨g,k * 6+2,none⟩) hgl1).trans c2;have y10:=(hb1'.cell (p:=⟨g,k * 6+3,none⟩) hgl1).trans c3;have y11:=(hb1'.cell (p:=⟨g,k * 6+4,none⟩) hgl1).trans c4;have y12:=(hb1'.cell (p:=⟨g,k * 6+5,none⟩) hgl1).trans c5;have B2:Hid (Bw W w2):=Zj B1.out hb1';have X2:Hid (w2.heap[W.heap.size]?=some (.cells #[.string c.nm,.string c.su,.slice ai c.ifs.length ci,.int .i64 c.fl,.int .i64 c.ld,.slice am c.ms.length cm] 33 (0,0))):=(hb1'.block _ hxl1).trans X1.out;clear hb2 hb1'))
           clear y0 y1 y2 y3 y4 y5 y6 y7 y8 y9 y10 y11 y12
           clear x0 x1 x2 x3 x4 x5 c0 c1 c2 c3 c4 c5 b0 hkI HI2 HHs2 HO2 hgl1 hbl1 hxl1 hkL
           go_wp2
           go_loopw [7] (fun iv wr=>∃ i:Nat,iv=.int .i64 i∧i≤c.ifs.length∧Hid (Bw W wr)∧Hid (wr.heap[W.heap.size]?=some (.cells #[.string c.nm,.string c.su,.slice ai c.ifs.length ci,.int .i64 c.fl,.int .i64 c.ld,.slice am c.ms.length cm] 33 (0,0)))∧Hid (Z=rifN cs c (c.ifs.drop i))) (fun iv _=>c.ifs.length - (intOf iv).toNat)
           case atStart=>exact ⟨0,rfl,Nat.zero_le _,B2,X2,EZ⟩
           case round =>
            obtain ⟨i,rfl,hi,Br,Xr,Er⟩:=hrel
            clear EZ B2 X2 B1 X1
            have b0:=cell_of_row wr b 0 _ _ _ ((Br.out.block b hbl).trans hbW)
            have x0:=cell_of_row wr W.heap.size 0 _ _ _ Xr.out
            have x1:=cell_of_row wr W.heap.size 1 _ _ _ Xr.out
            have x2:=cell_of_row wr W.heap.size 2 _ _ _ Xr.out
            have x3:=cell_of_row wr W.heap.size 3 _ _ _ Xr.out
            have x4:=cell_of_row wr W.heap.size 4 _ _ _ Xr.out
            have x5:=cell_of_row wr W.heap.size 5 _ _ _ Xr.out
            simp only [List.getElem?_toArray,List.getElem?_cons_zero,List.getElem?_cons_succ] at b0 x0 x1 x2 x3 x4 x5
            by_cases hlt:i<c.ifs.length
            ·have hltI:(i:Int)<(c.ifs.length:Int):=by omega
             obtain ⟨t,ht⟩:∃ t,c.ifs[i]?=some t:=⟨_,List.getElem?_eq_getElem hlt⟩
             obtain ⟨h1,h2⟩:=List.getElem?_eq_some_iff.1 ht
             rw [List.drop_eq_getElem_cons h1,h2,rifN] at Er
             have HN3:Hid (Calls Tryz.prog 32 #[.pointer (some ⟨b,0,none⟩),.string ⟨t.toArray⟩] wr fun e w'=>e=.returned (.int .i64 (nmdI (ByteArray.mk t.toArray).toList cs 0))∧w'=wr):=HNm.out ⟨t.toArray⟩ wr Br.out
             obtain ⟨bk,o,rfl,hcell⟩:∃ bk o,ai=some ⟨bk,o,none⟩∧wr.cell? ⟨bk,o+i,none⟩=some (.string ⟨t.toArray⟩):=by
              obtain ⟨ao,cap',e,_,_,h5⟩:=(HCI.out.keep Br.out).ifs
              simp only [Value.slice.injEq] at e
              obtain ⟨bk,o,e2,_,h6⟩:=h5 (fun e3=>by rw [e3] at hlt;exact absurd hlt (Nat.not_lt_zero _))
              exact ⟨bk,o,e.1.trans e2,h6 i t ht⟩
             clear h1 h2 ht
             by_cases hz3:nmdI (ByteArray.mk t.toArray).toList cs 0<0
             ·replace Er:Hid (Z=20):=Er.out.trans (if_pos hz3)
              clear HNm HIf HOp HAT HRW HCI EW
              generalize nmdI (ByteArray.mk t.toArray).toList cs 0=z3 at *
              go_wp2_with (go_at_call 32;refine HN3.out.mono ?_;rintro e w9 ⟨rfl,hw9⟩;rw [hw9];clear hw9 w9)
              refine bodyPost_ret (results_tmp2 rfl _ _ _) rfl ?_
              rw [Er.out]
              exact HNo.out 20 _ Br.out (by decide)
             ·replace Er:Hid (Z=_):=Er.out.trans (if_neg hz3)
              obtain ⟨k2,p2,hk2,hkL2,hkp2⟩:=Zdk HL.out hz3
              clear hz3
              rw [hk2] at HN3 Er
              have HI3:Hid (Calls Tryz.prog 33 #[.pointer (some ⟨b,0,none⟩),.int .i64 (k2:Int)] wr fun e w'=>e=.returned (.bool (ifcC cs (k2:Int)))∧w'=wr):=HIf.out (k2:Int) wr Br.out
              generalize ifcC cs (k2:Int)=R4 at *
              cases R4 with
              | false =>
                replace Er:Hid (Z=23):=Er.out
                clear HNm HIf HOp HAT HRW HCI EW
                go_wp2_with (first|(go_at_call 32;refine HN3.out.mono ?_;rintro e w9 ⟨rfl,hw9⟩;rw [hw9];clear hw9 w9)|(go_at_call 33;refine HI3.out.mono ?_;rintro e w9 ⟨rfl,hw9⟩;rw [hw9];clear hw9 w9))
                refine bodyPost_ret (results_tmp2 rfl _ _ _) rfl ?_
                rw [Er.out]
                exact HNo.out 23 _ Br.out (by decide)
              | true =>
                obtain ⟨g2,cap2,ui2,um2,b0',hblr,hglr,c0,c1,c2,c3,c4,c5,_⟩:=(HAT.out wr Br.out).cells hkp2
                have hxlr:W.heap.size<wr.heap.size:=(Array.getElem?_eq_some_iff.1 Xr.out).1
                rw [HL.out,b0] at b0'
                simp only [Option.some.injEq,Value.slice.injEq,Addr.mk.injEq,and_true,true_and] at b0'
                obtain ⟨rfl,rfl⟩:=b0'
                have ho:ropI cs c (k2:Int)=(hasI p2.fl 1||togB c p2):=by rw [ropI,Y4,hkp2]
                rw [ho] at Er
                have HO3:Hid (∀ w:World,Calls Tryz.prog 35 #[.agg #[.string c.nm,.string c.su,.slice (some ⟨bk,o,none⟩) c.ifs.length ci,.int .i64 c.fl,.int .i64 c.ld,.slice am c.ms.length cm],.agg #[.string p2.nm,.string p2.su,ui2,.int .i64 p2.fl,.int .i64 p2.ld,um2]] w fun e w'=>e=.returned (.bool (hasI p2.fl 1||togB c p2))∧Bw w w'):=fun w=>HOp.out p2 ui2 um2 w (List.mem_of_getElem? hkp2)
                generalize (hasI p2.fl 1||togB c p2)=R5 at *
                have hkI:(k2:Int)<(L:Int):=by omega
                clear ho hkp2 HNm HIf HOp HAT HRW HCI EW
                cases R5
                all_goals
                 go_upto_region 22 with (first|(go_at_call 32;refine HN3.out.mono ?_;rintro e w9 ⟨rfl,hw9⟩;rw [hw9];clear hw9 w9)|(go_at_call 33;refine HI3.out.mono ?_;rintro e w9 ⟨rfl,hw9⟩;rw [hw9];clear hw9 w9))
                 go_region_held3 (fun w'=>w'.cell? ⟨b,0,none⟩=some (.slice (some ⟨g,0,none⟩) L cv)∧w'.cell? ⟨W.heap.size,0,none⟩=some (.string c.nm)∧w'.cell? ⟨W.heap.size,1,none⟩=some (.string c.su)∧w'.cell? ⟨W.heap.size,2,none⟩=some (.slice (some ⟨bk,o,none⟩) c.ifs.length ci)∧w'.cell? ⟨W.heap.size,3,none⟩=some (.int .i64 c.fl)∧w'.cell? ⟨W.heap.size,4,none⟩=some (.int .i64 c.ld)∧w'.cell? ⟨W.heap.size,5,none⟩=some (.slice am c.ms.length cm)∧w'.cell? ⟨g,k2 * 6,none⟩=some (.string p2.nm)∧w'.cell? ⟨g,k2 * 6+1,none⟩=some (.string p2.su)∧w'.cell? ⟨g,k2 * 6+2,none⟩=some (ui2)∧w'.cell? ⟨g,k2 * 6+3,none⟩=some (.int .i64 p2.fl)∧w'.cell? ⟨g,k2 * 6+4,none⟩=some (.int .i64 p2.ld)∧w'.cell? ⟨g,k2 * 6+5,none⟩=some (um2)) (go_keep) (first|(go_at_call 35;refine (HO3.out _).mono ?_;rintro e w2 ⟨rfl,hb2⟩;have hb1':Bw wr w2:=((Below.refl _ wr).drew.trans hb2);have y0:=(hb1'.cell (p:=⟨b,0,none⟩) hblr).trans b0;have y1:=(hb1'.cell (p:=⟨W.heap.size,0,none⟩) hxlr).trans x0;have y2:=(hb1'.cell (p:=⟨W.heap.size,1,none⟩) hxlr).trans x1;have y3:=(hb1'.cell (p:=⟨W.heap.size,2,none⟩) hxlr).trans x2;have y4:=(hb1'.cell (p:=⟨W.heap.size,3,none⟩) hxlr).trans x3;have y5:=(hb1'.cell (p:=⟨W.heap.size,4,none⟩) hxlr).trans x4;have y6:=(hb1'.cell (p:=⟨W.heap.size,5,none⟩) hxlr).trans x5;have y7:=(hb1'.cell (p:=⟨g,k2 * 6,none⟩) hglr).trans c0;have y8:=(hb1'.cell (p:=⟨g,k2 * 6+1,none⟩) hglr).trans c1;have y9:=(hb1'.cell (p:=⟨g,k2 * 6+2,none⟩) hglr).trans c2;have y10:=(hb1'.cell (p:=⟨g,k2 * 6+3,none⟩) hglr).trans c3;have y11:=(hb1'.cell (p:=⟨g,k2 * 6+4,none⟩) hglr).trans c4;have y12:=(hb1'.cell (p:=⟨g,k2 * 6+5,none⟩) hglr).trans c5;have B2:Hid (Bw W w2):=Zj Br.out hb1';have X2:Hid (w2.heap[W.heap.size]?=some (.cells #[.string c.nm,.string c.su,.slice (some ⟨bk,o,none⟩) c.ifs.length ci,.int .i64 c.fl,.int .i64 c.ld,.slice am c.ms.length cm] 33 (0,0))):=(hb1'.block _ hxlr).trans Xr.out;clear hb2 hb1'))
                ·replace Er:Hid (Z=22):=Er.out
                 go_wp2
                 refine bodyPost_ret (results_tmp2 rfl _ _ _) rfl ?_
                 rw [Er.out]
                 exact HNo.out 22 _ B2.out (by decide)
                ·replace Er:Hid (Z=rifN cs c (c.ifs.drop (i+1))):=Er.out
                 go_wp2
                 go_roundw
                 case rel=>exact ⟨i+1,by go_num,by omega,B2,X2,Er⟩
                 case measure=>simp [intOf];omega
            ·have hlI:¬ (i:Int)<(c.ifs.length:Int):=by omega
             have EZ:Hid (Z=0):=by rw [Hid,Er.out,List.drop_of_length_le (by omega)];rfl
             obtain ⟨d1,d2,d3⟩:=Xb HBC.out
             obtain ⟨r1,pm,r2,r3,r4⟩:=HCI.out.rdw
             have hlen:pm.length=c.ms.length:=by
              have:=congrArg List.length r2
              simpa [hcOf] using this
             have HCp:Hid (∀ w:World,Bw W w→Calls Tryz.prog 27 #[.agg #[.string c.nm,.string c.su,.slice ai c.ifs.length ci,.int .i64 c.fl,.int .i64 c.ld,.slice am c.ms.length cm]] w fun e w'=>∃ vi' vm' qm,e=.returned (.agg #[.string c.nm,.string c.su,vi',.int .i64 c.fl,.int .i64 c.ld,vm'])∧OwnC w' w.heap.size vi' c.ifs.length (Z0 c.ifs) vm' qm∧qm.map Prod.fst=pm.map Prod.fst∧Bw w w'):=fun w hb=>Zak c.nm c.su c.fl c.ld _ _ c.ifs.length (Z0 c.ifs) pm w (r1.keep hb) (J5 _) (by omega) (r3.keep hb) (by omega) (fun p hp=>⟨(r4 p hp).keep hb,by
              have hp1:p.1∈(hcOf c).ms:=by rw [← r2];exact List.mem_map_of_mem hp
              obtain ⟨m,hm,e⟩:=List.mem_map.1 hp1
              rw [← e]
              exact ⟨Q0 _,show m.code.length≤1599289640354 by have:=d3 m hm;omega⟩⟩)
             have HPM:Hid (pm.map Prod.fst=(hcOf c).ms):=r2
             obtain ⟨iC,hiC,hzC,hsC,hbC⟩:=info_parts Tryz.hinfoC
             have hszr:=Br.out.size
             have hxlr:W.heap.size<wr.heap.size:=(Array.getElem?_eq_some_iff.1 Xr.out).1
             have hL3:L<300:=by omega
             clear r1 r2 r3 r4 hlen d1 d2 d3 Er HNm HIf HOp HAT HCI EW HNo HBC
             go_upto_region 24 with (fail)
             go_region_law
              (first
               | (refine Za9 rfl 27 callCp (.tmp 86) 33 rfl (.agg #[.string c.nm,.string c.su,.slice ai c.ifs.length ci,.int .i64 c.fl,.int .i64 c.ld,.slice am c.ms.length cm]) (by simp [Act.eval]) (HCp.out _ Br.out.drew) ?_;rintro e w3 ⟨vi',vm',qm,rfl,ho,hq,hb3⟩;refine ⟨_,rfl,?_⟩;obtain ⟨ai',ci',rfl⟩:=ownv ho.ifs;obtain ⟨am',cm',rfl⟩:=ownv ho.ms;have O3:Hid (CrO w3 N ⟨c,.slice ai' c.ifs.length ci',.slice am' qm.length cm'⟩):=Zit HPM.out (show N≤wr.heap.size from Nat.le_trans hN hszr) ho hq;have O3n:Hid (CrO w3 W.heap.size ⟨c,.slice ai' c.ifs.length ci',.slice am' qm.length cm'⟩):=Zit HPM.out (show W.heap.size≤wr.heap.size from hszr) ho hq;have B3:Hid (Bw wr w3):=((Below.refl _ wr).drew.trans hb3);have v0:=(B3.out.cell (p:=⟨b,0,none⟩) (show b<wr.heap.size by omega)).trans b0;have hbn3:¬ b=w3.heap.size:=(by have h1:=B3.out.size;omega);have hbl3:b<w3.heap.size:=(by have h1:=B3.out.size;omega);clear ho hq hb3 HCp)
               | (refine step_append_lies _ rfl (.tmp 85) (.tmp 88) 22 rfl N 33 iC _ 6 96 Tryz.underlying22 hiC hzC hsC hbC rfl (by decide) (.slice (some ⟨g,0,none⟩) L cv) L (Jm rs) (by simp [Act.eval]) ((by have:=(HRW.out w3 (Zj Br.out B3.out)).row;rw [hLr] at this;exact this:w3.ownsRow N 33 6 (.slice (some ⟨g,0,none⟩) L cv) L (Jm rs)).alloc _) ⟨w3.heap.size,0,none⟩ 1 1 (crC ⟨c,.slice ai' c.ifs.length ci',.slice am' qm.length cm'⟩) (by simp [Act.eval]) rfl (World.news_of_block (heap_alloc_new w3 _)) ?_ (by decide) ?_ ?_ ?_ _ rfl ?_;(intro u hu;simp [crC] at hu;rcases hu with rfl|rfl|rfl|rfl|rfl|rfl <;> rfl);(unfold maxLen;omega);omega;(have h1:=B3.out.size;simp;omega);intro g3 cap3 w5 hown hgrow hg3 _;have hA:=RW.add (HRW.out w3 (Zj Br.out B3.out)) O3.out ((Below.refl _ w3).alloc (Nat.le_refl _) _) hgrow (by rw [hLr];exact hown);have BN:Hid (Below N W (w5.setCell ⟨b,0,none⟩ (.slice (some ⟨g3,0,none⟩) (L+1) cap3))):=((Below.grown (w:=_) (((Zj Br.out B3.out).mono hN).alloc (by have h1:=B3.out.size;omega) _) hgrow (by have h1:=B3.out.size;simp;omega) (fun k hk=>row_ge (HRW.out w3 (Zj Br.out B3.out)).row hk)).setCell (p:=⟨b,0,none⟩) hNb _);have z0:=cell_of_row w5 b 0 _ _ _ hA.1;have zf:=frozen_of_row w5 b 0 _ _ hA.1;simp only [List.getElem?_toArray,List.getElem?_cons_zero] at z0;have Q2:Hid (RW (w5.setCell ⟨b,0,none⟩ (.slice (some ⟨g3,0,none⟩) (L+1) cap3)) N b (.slice (some ⟨g3,0,none⟩) (L+1) cap3) (rs++[⟨c,.slice ai' c.ifs.length ci',.slice am' qm.length cm'⟩])):=hA.2;have FR:Hid (∀ (j:Nat) (o:Obj),W.heap[j]?=some o→j≠b→(∀ xs,o≠.cells xs 33 (0,0))→(w5.setCell ⟨b,0,none⟩ (.slice (some ⟨g3,0,none⟩) (L+1) cap3)).heap[j]?=some o):=(fun j o hj hjb hno=>RW.frame (HRW.out w3 (Zj Br.out B3.out)) ((Below.refl _ w3).alloc (Nat.le_refl _) _) hgrow j o (((Zj Br.out B3.out).block j (Array.getElem?_eq_some_iff.1 hj).1).trans hj) hjb hno);have Q6:Hid (CrO (w5.setCell ⟨b,0,none⟩ (.slice (some ⟨g3,0,none⟩) (L+1) cap3)) W.heap.size ⟨c,.slice ai' c.ifs.length ci',.slice am' qm.length cm'⟩):=RW.addn (HRW.out w3 (Zj Br.out B3.out)) O3n.out ((Below.refl _ w3).alloc (Nat.le_refl _) _) hgrow;have Q7:Hid ((Value.slice (some ⟨g,0,none⟩) L cv).ownBlock=some g3∨W.heap.size≤g3):=hg3.imp id (fun e=>by have h1:=B3.out.size;rw [e];simp;omega);clear hA hown hgrow hg3))
             all_goals
              have k1:=cell_of_row _ b 0 _ _ _ Q2.out.hb
              simp only [List.getElem?_toArray,List.getElem?_cons_zero] at k1
              generalize w5.setCell ⟨b,0,none⟩ (.slice (some ⟨g3,0,none⟩) (L+1) cap3)=w6 at *
              go_wp2
              refine bodyPost_ret (results_tmp2 rfl _ _ _) rfl ?_
              rw [EZ.out]
              refine ⟨?_,⟨_,_,Q2.out,?_,.inr ⟨_,rfl,Q6.out,fun x hx=>by cases hx;exact Q7.out⟩⟩,BN.out,FR.out⟩
              ·rw [rdfV,if_pos rfl,HL.out]
               simp
              ·rw [rdfC,if_pos rfl,List.map_append,hcs'];rfl
def insD (op n:Int):Ins:=⟨op,n,⟨#[]⟩,false,⟨#[]⟩,⟨#[]⟩,⟨#[]⟩⟩
def objC:Cls:=⟨tObj,⟨#[]⟩,[],33,0,[⟨⟨#[60,105,110,105,116,62]⟩,⟨#[40,41,86]⟩,1,1,0,[insD 38 0]⟩,⟨⟨#[105,100]⟩,⟨#[40,41,73]⟩,1,1,1,[insD 1 7,insD 36 0]⟩,⟨⟨#[107,105,110]⟩,⟨#[40,41,76,79,98,106,101,99,116,59]⟩,4,1,1,[insD 4 0,insD 37 0]⟩]⟩
def cloC:Cls:=⟨tClo,tObj,[],1537,0,[]⟩
def serC:Cls:=⟨tSer,tObj,[],1537,0,[]⟩
def C3:List Cls:=[objC,cloC,serC]
theorem C3_hc:C3.map hcOf=P3.map Plc.c:=rfl
theorem Zbk (w:World) (m:Nat) (hm:w.heap.size=m) (base e size n:Nat) (cs:Array Value) (hb:base≤m) (hn:n≤maxLen) (hl:cs.size=n * size):(w.alloc (.cells cs e)).ownsRow base e size (.slice (some ⟨m,0,none⟩) n n) n cs.toList:=by
 subst hm
 exact World.ownsRow_lit w cs n hb hn (by simpa using hl)
def nw1 (W:World):World:=W.alloc (.cells (Yr [insD 38 0]).toArray 56)
def nw2 (W:World):World:=(nw1 W).alloc (.cells (Yr [insD 1 7,insD 36 0]).toArray 56)
def nw3 (W:World):World:=(nw2 W).alloc (.cells (Yr [insD 4 0,insD 37 0]).toArray 56)
def nqm (k:Nat):List (HM×Value):=[(hmOf ⟨⟨#[60,105,110,105,116,62]⟩,⟨#[40,41,86]⟩,1,1,0,[insD 38 0]⟩,.slice (some ⟨k,0,none⟩) 1 1),(hmOf ⟨⟨#[105,100]⟩,⟨#[40,41,73]⟩,1,1,1,[insD 1 7,insD 36 0]⟩,.slice (some ⟨k+1,0,none⟩) 2 2),(hmOf ⟨⟨#[107,105,110]⟩,⟨#[40,41,76,79,98,106,101,99,116,59]⟩,4,1,1,[insD 4 0,insD 37 0]⟩,.slice (some ⟨k+1+1,0,none⟩) 2 2)]
def nw4 (W:World):World:=(nw3 W).alloc (.cells (Zm (nqm W.heap.size)).toArray 48)
def nrs (k:Nat):List CR:=[⟨objC,.slice none 0 0,.slice (some ⟨k+1+1+1,0,none⟩) 3 3⟩,⟨cloC,.slice none 0 0,.slice none 0 0⟩,⟨serC,.slice none 0 0,.slice none 0 0⟩]
def nw5 (W:World):World:=(nw4 W).alloc (.cells (crC ⟨objC,.slice none 0 0,.slice (some ⟨W.heap.size+1+1+1,0,none⟩) 3 3⟩).toArray 33)
def nw6 (W:World):World:=(nw5 W).alloc (.cells (Jm (nrs W.heap.size)).toArray 33)
def nw7 (W:World):World:=(nw6 W).alloc (.cells #[.slice (some ⟨W.heap.size+1+1+1+1+1,0,none⟩) 3 3] 74)
theorem Zfj (W:World):(nw1 W).heap.size=W.heap.size+1∧(nw2 W).heap.size=W.heap.size+1+1∧(nw3 W).heap.size=W.heap.size+1+1+1∧(nw4 W).heap.size=W.heap.size+1+1+1+1∧(nw5 W).heap.size=W.heap.size+1+1+1+1+1∧(nw6 W).heap.size=W.heap.size+1+1+1+1+1+1:=by
 simp [nw1,nw2,nw3,nw4,nw5,nw6]
theorem Zan (w:World) (N e s:Nat):w.ownsRow N e s (.slice none 0 0) 0 []:=World.ownsRow_nil _ _ _ _
theorem rNew_rw (W:World):RW (nw7 W) W.heap.size (W.heap.size+1+1+1+1+1+1) (.slice (some ⟨W.heap.size+1+1+1+1+1,0,none⟩) 3 3) (nrs W.heap.size):=by
 obtain ⟨s1,s2,s3,s4,s5,s6⟩:=Zfj W
 have hM:∀ n,n≤3→n≤maxLen:=fun n hn=>by unfold maxLen;omega
 have i1:(nw1 W).ownsRow W.heap.size 56 7 (.slice (some ⟨W.heap.size,0,none⟩) 1 1) 1 (Yr [insD 38 0]):=Zbk W _ rfl _ _ _ _ _ (Nat.le_refl _) (hM _ (by omega)) rfl
 have i2:(nw2 W).ownsRow W.heap.size 56 7 (.slice (some ⟨W.heap.size+1,0,none⟩) 2 2) 2 (Yr [insD 1 7,insD 36 0]):=Zbk (nw1 W) _ s1 _ _ _ _ _ (by omega) (hM _ (by omega)) rfl
 have i3:(nw3 W).ownsRow W.heap.size 56 7 (.slice (some ⟨W.heap.size+1+1,0,none⟩) 2 2) 2 (Yr [insD 4 0,insD 37 0]):=Zbk (nw2 W) _ s2 _ _ _ _ _ (by omega) (hM _ (by omega)) rfl
 have i4:(nw4 W).ownsRow W.heap.size 48 6 (.slice (some ⟨W.heap.size+1+1+1,0,none⟩) 3 3) 3 (Zm (nqm W.heap.size)):=Zbk (nw3 W) _ s3 _ _ _ _ _ (by omega) (hM _ (by omega)) rfl
 have i6:(nw6 W).ownsRow W.heap.size 33 6 (.slice (some ⟨W.heap.size+1+1+1+1+1,0,none⟩) 3 3) 3 (Jm (nrs W.heap.size)):=Zbk (nw5 W) _ s5 _ _ _ _ _ (by omega) (hM _ (by omega)) rfl
 refine ⟨?_,i6.alloc _,?_,by omega⟩
 ·have:=Xs (nw6 W) (.cells #[.slice (some ⟨W.heap.size+1+1+1+1+1,0,none⟩) 3 3] 74)
  rw [s6] at this
  exact this
 ·intro r hr
  simp only [nrs,List.mem_cons,List.not_mem_nil,or_false] at hr
  rcases hr with rfl|rfl|rfl
  ·refine ⟨nqm W.heap.size,rfl,Zan _ _ _ _,((i4.alloc _).alloc _).alloc _,?_⟩
   intro p hp
   simp only [nqm,List.mem_cons,List.not_mem_nil,or_false] at hp
   rcases hp with rfl|rfl|rfl
   ·exact (((((i1.alloc _).alloc _).alloc _).alloc _).alloc _).alloc _
   ·exact ((((i2.alloc _).alloc _).alloc _).alloc _).alloc _
   ·exact (((i3.alloc _).alloc _).alloc _).alloc _
  ·exact ⟨[],rfl,Zan _ _ _ _,Zan _ _ _ _,fun p hp=>by simp at hp⟩
  ·exact ⟨[],rfl,Zan _ _ _ _,Zan _ _ _ _,fun p hp=>by simp at hp⟩
theorem Zgf (W:World):Bw W (nw7 W):=by
 obtain ⟨s1,s2,s3,s4,s5,s6⟩:=Zfj W
 exact (((((((Below.refl _ W).alloc (Nat.le_refl _) _).alloc (w:=nw1 W) (by omega) _).alloc (w:=nw2 W) (by omega) _).alloc (w:=nw3 W) (by omega) _).alloc (w:=nw4 W) (by omega) _).alloc (w:=nw5 W) (by omega) _).alloc (w:=nw6 W) (by omega) _
theorem rNew_c (W:World):Calls Tryz.prog 6 #[] W fun e w'=>∃ b v rs,e=.returned (.pointer (some ⟨b,0,none⟩))∧RW w' W.heap.size b v rs∧rs.map CR.c=C3∧Bw W w':=by
 go_enter Tryz.func6,Tryz.ntmps6
 go_wp2
 exact bodyPost_ret (v:=.pointer (some ⟨W.heap.size+1+1+1+1+1+1,0,none⟩)) (by simp [results,Tryz.results6,go_sem]) rfl ⟨_,_,_,rfl,rNew_rw W,rfl,Zgf W⟩
def NmW (ps:List Plc):Prop:=∀ k q,ps[k]?=some q→Z4 ps (Qe q)=some k∧Zk (Qe q)=true
theorem cls_name {c:Cls} (h:clsB c=true):Zk c.nm.data.toList=true:=by
 unfold clsB at h
 simp only [Bool.and_eq_true] at h
 exact h.1.1.1.1.1.1.1.1.1
theorem nmW (l:List Cls) (hl:∀ c∈l,ClsW c):NmW (wld l):=by
 refine Zbt (P:=NmW) (fun k q hk=>?_) (fun ps c h hc=>?_) l hl
 ·match k,hk with
  | 0,hk=>simp [P3] at hk;subst hk;exact ⟨by decide,by decide⟩
  | 1,hk=>simp [P3] at hk;subst hk;exact ⟨by decide,by decide⟩
  | 2,hk=>simp [P3] at hk;subst hk;exact ⟨by decide,by decide⟩
  | (k+3),hk=>simp [P3] at hk
 ·cases hd:defN ps c with
  | error e=>exact h
  | ok p =>
    obtain ⟨h1,_,hn,s,l,_,_,rfl⟩:=Zd8 hd
    intro k q hk
    have hk2:(ps++[(⟨hcOf c,s,Zz (ps.map Plc.cl) s l⟩:Plc)])[k]?=some q:=hk
    show Z4 (ps++[_]) (Qe q)=some k∧_
    by_cases hlt:k<ps.length
    ·rw [List.getElem?_append_left hlt] at hk2
     obtain ⟨h2,h3⟩:=h k q hk2
     exact ⟨Xq h2 hn,h3⟩
    ·rw [List.getElem?_append_right (by omega)] at hk2
     have he:k - ps.length=0:=by
      have:=(List.getElem?_eq_some_iff.1 hk2).1
      simp at this;omega
     rw [he] at hk2
     simp at hk2
     subst hk2
     refine ⟨?_,cls_name h1⟩
     rw [Z4,Jj,if_pos rfl]
     congr 1;omega
def Twin (cs:List Cls) (ps:List Plc):Prop:=cs.map hcOf=ps.map Plc.c
theorem Twin.len {cs:List Cls} {ps:List Plc} (h:Twin cs ps):cs.length=ps.length:=by
 have:=congrArg List.length h
 simpa using this
theorem Twin.at {cs:List Cls} {ps:List Plc} (h:Twin cs ps) {k:Nat} {c:Cls} (hk:cs[k]?=some c):∃ q,ps[k]?=some q∧q.c=hcOf c:=by
 have e:(ps.map Plc.c)[k]?=some (hcOf c):=by rw [← h,List.getElem?_map,hk];rfl
 rw [List.getElem?_map] at e
 cases hq:ps[k]? with
 | none=>rw [hq] at e;cases e
 | some q=>rw [hq] at e;exact ⟨q,rfl,Option.some.inj e⟩
theorem Twin.at' {cs:List Cls} {ps:List Plc} (h:Twin cs ps) {k:Nat} {q:Plc} (hk:ps[k]?=some q):∃ c,cs[k]?=some c∧q.c=hcOf c:=by
 have e:(cs.map hcOf)[k]?=some q.c:=by rw [h,List.getElem?_map,hk];rfl
 rw [List.getElem?_map] at e
 cases hq:cs[k]? with
 | none=>rw [hq] at e;cases e
 | some c=>rw [hq] at e;exact ⟨c,rfl,(Option.some.inj e).symm⟩
theorem Twin.clsI {cs:List Cls} {ps:List Plc} (h:Twin cs ps) (i:Int):(clsI cs i=none∧plcI ps i=none)∨∃ (k:Nat) (c:Cls) (q:Plc),i=(k:Int)∧cs[k]?=some c∧ps[k]?=some q∧q.c=hcOf c∧clsI cs i=some c∧plcI ps i=some q:=by
 rcases Jo cs i with ⟨h1,h2⟩|⟨k,c,rfl,h2,h1⟩
 ·rcases Zu ps i with ⟨h3,_⟩|⟨j,q,rfl,h4,_⟩
  ·exact .inl ⟨h1,h3⟩
  ·have:=(List.getElem?_eq_some_iff.1 h4).1
   exact absurd ⟨Int.natCast_nonneg j,by rw [h.len];omega⟩ h2
 ·obtain ⟨q,h3,h4⟩:=h.at h2
  exact .inr ⟨k,c,q,rfl,h2,h3,h4,h1,by rw [J6];exact h3⟩
theorem Zdj (key:List UInt8):∀ (cs:List Cls) (k j:Nat),nmdI key cs k=((k+j:Nat):Int)→∃ c,cs[j]?=some c∧c.nm.toList=key
 | [],_,_,h=>by rw [nmdI] at h;omega
 | c::r,k,j,h=>by
   rw [nmdI] at h
   cases e:c.nm.toList == key with
   | true =>
     rw [e,if_pos rfl] at h
     obtain rfl:j=0:=by omega
     exact ⟨c,rfl,beq_iff_eq.1 e⟩
   | false =>
     rw [e,if_neg (by simp)] at h
     cases j with
     | zero =>
       exfalso
       rcases Xz key r (k+1) with h1|⟨i,h1,_⟩
       ·rw [h1] at h;omega
       ·rw [h1] at h;omega
     | succ j =>
       obtain ⟨d,h1,h2⟩:=Zdj key r (k+1) j (by rw [h];congr 1;omega)
       exact ⟨d,by rw [List.getElem?_cons_succ];exact h1,h2⟩
theorem Zib (key:List UInt8):∀ (cs:List Cls) (k:Nat),nmdI key cs k=-1→∀ c∈cs,¬ c.nm.toList=key
 | [],_,_,_,hc=>by simp at hc
 | c::r,k,h,d,hd=>by
   rw [nmdI] at h
   cases e:c.nm.toList == key with
   | true=>rw [e,if_pos rfl] at h;omega
   | false =>
     rw [e,if_neg (by simp)] at h
     rcases List.mem_cons.1 hd with rfl|hd
     ·exact fun e2=>by rw [e2] at e;simp at e
     ·exact Zib key r (k+1) h d hd
def lkI:Option Nat→Int
 | some j=>(j:Int)
 | none=>-1
theorem Qv {cs:List Cls} {ps:List Plc} (h:Twin cs ps) (hn:NmW ps) (key:List UInt8):nmdI key cs 0=lkI (Z4 ps key):=by
 rcases Xz key cs 0 with e|⟨j,e,hj⟩
 ·rw [e]
  cases hl:Z4 ps key with
  | none=>rfl
  | some j =>
    exfalso
    obtain ⟨q,h1,h2⟩:=Xa hl
    obtain ⟨c,h3,h4⟩:=h.at' h1
    refine Zib key cs 0 e c (List.mem_of_getElem? h3) ?_
    rw [Lib.toList_data,← h2,Qe,h4];rfl
 ·obtain ⟨c,h1,h2⟩:=Zdj key cs 0 j e
  obtain ⟨q,h3,h4⟩:=h.at h1
  have h5:Qe q=key:=by rw [Qe,h4,← h2,Lib.toList_data];rfl
  have h6:=(hn j q h3).1
  rw [h5] at h6
  rw [e,h6,Nat.zero_add];rfl
def errN {α:Type}:Except Int α→Int
 | .ok _=>0
 | .error e=>e
theorem Ze8 (c p:Cls) (q:Plc) (hq:q.c=hcOf p):togB c p=Xl q.c c.nm c.ld:=by
 have e1:(hcOf p).ld=p.ld:=rfl
 have e2:(hcOf p).nm=p.nm:=rfl
 rw [togB,Xl,hq,e1,e2,Bool.eq_iff_iff]
 simp only [Bool.and_eq_true,beq_iff_eq]
 exact ⟨fun ⟨a,b⟩=>⟨a.symm,b.symm⟩,fun ⟨a,b⟩=>⟨a.symm,b.symm⟩⟩
theorem rif_eq {cs:List Cls} {ps:List Plc} (h:Twin cs ps) (hn:NmW ps) (c:Cls):∀ (l:List (List UInt8)) (acc:List Nat),rifN cs c l=errN (ifsN ps c.nm c.ld acc l)
 | [],_=>rfl
 | p::r,acc=>by
   have e0:(ByteArray.mk p.toArray).toList=p:=by rw [Lib.toList_data]
   rw [rifN,ifsN,e0,Qv h hn]
   cases hl:Z4 ps p with
   | none =>
     have e1:Zv ps c.nm c.ld fitI p=.error 20:=by rw [Zv,hl]
     rw [e1,lkI,if_pos (by decide)];rfl
   | some k =>
     obtain ⟨q,h1,_⟩:=Xa hl
     obtain ⟨d,h2,h3⟩:=h.at' h1
     have e1:Zv ps c.nm c.ld fitI p=if fitI k q then (if pubB q.c.fl||Xl q.c c.nm c.ld then .ok k else .error 22) else .error 23:=by
      rw [Zv,hl];simp only [h1]
     have e2:ifcC cs (lkI (some k))=fitI k q:=by rw [lkI,ifcC,Y4,h2,fitI,h3];rfl
     have e3:ropI cs c (lkI (some k))=(pubB q.c.fl||Xl q.c c.nm c.ld):=by rw [lkI,ropI,Y4,h2];simp only [Ze8 c d q h3];rw [h3];rfl
     have e4:¬ lkI (some k)<0:=by rw [lkI];omega
     rw [if_neg e4,e2,e3,e1]
     cases fitI k q with
     | false=>rfl
     | true =>
       cases (pubB q.c.fl||Xl q.c c.nm c.ld) with
       | false=>rfl
       | true =>
         rw [if_pos rfl,if_pos rfl,if_pos rfl,if_pos rfl]
         exact rif_eq h hn c r (acc++[k])
theorem rdf_eq {cs:List Cls} {ps:List Plc} (h:Twin cs ps) (hn:NmW ps) (c:Cls):rdfN cs c=errN (defN ps c):=by
 rw [rdfN,defN,h.len]
 by_cases hB:clsB c=true
 ·rw [if_pos hB,if_pos hB]
  by_cases h3:300≤ps.length
  ·rw [if_pos h3,if_pos h3];rfl
  ·rw [if_neg h3,if_neg h3,Qv h hn,Lib.toList_data]
   cases hl:Z4 ps c.nm.data.toList with
   | some j=>rw [if_pos (by rw [lkI];omega)];rfl
   | none =>
     rw [if_neg (by decide),Qv h hn,Lib.toList_data]
     cases hs:Z4 ps c.su.data.toList with
     | none =>
       have e1:Zv ps c.nm c.ld (fitS c.fl) c.su.data.toList=.error 20:=by rw [Zv,hs]
       rw [e1,if_pos (by decide)];rfl
     | some k =>
       obtain ⟨q,h1,_⟩:=Xa hs
       obtain ⟨d,h2,h3⟩:=h.at' h1
       have e1:Zv ps c.nm c.ld (fitS c.fl) c.su.data.toList=if fitS c.fl k q then (if pubB q.c.fl||Xl q.c c.nm c.ld then .ok k else .error 22) else .error 23:=by
        rw [Zv,hs];simp only [h1]
       have e2:(ifcC cs (lkI (some k))||(hasI c.fl 512&&!(lkI (some k) == 0)))=!fitS c.fl k q:=by
        have f1:ifcC cs (lkI (some k))=ifB q.c.fl:=by rw [lkI,ifcC,Y4,h2,h3];rfl
        have f2:hasI c.fl 512=ifB c.fl:=rfl
        have f3:(lkI (some k) == 0)=decide (k=0):=by rw [lkI,Bool.eq_iff_iff];simp
        rw [f1,f2,f3,fitS]
        cases ifB q.c.fl <;> cases ifB c.fl <;> cases decide (k=0) <;> rfl
       have e3:ropI cs c (lkI (some k))=(pubB q.c.fl||Xl q.c c.nm c.ld):=by rw [lkI,ropI,Y4,h2];simp only [Ze8 c d q h3];rw [h3];rfl
       have e4:¬ lkI (some k)<0:=by rw [lkI];omega
       rw [if_neg e4,e2,e3,e1]
       cases fitS c.fl k q with
       | false=>rfl
       | true =>
         cases (pubB q.c.fl||Xl q.c c.nm c.ld) with
         | false=>rfl
         | true =>
           rw [if_neg (by decide),if_pos rfl,if_pos rfl,if_pos rfl,rif_eq h hn c c.ifs []]
           cases ifsN ps c.nm c.ld [] c.ifs <;> rfl
 ·rw [if_neg hB,if_neg hB];rfl
theorem Zis {ps:List Plc} {c:Cls} {x:Int} (h:defN ps c=.error x):¬ x=0:=by
 rw [defN] at h
 by_cases hB:clsB c=true
 ·rw [if_pos hB] at h
  by_cases h3:300≤ps.length
  ·rw [if_pos h3] at h;cases h;decide
  ·rw [if_neg h3] at h
   cases hl:Z4 ps c.nm.data.toList with
   | some j=>rw [hl] at h;cases h;decide
   | none =>
     rw [hl] at h
     cases ha:Zv ps c.nm c.ld (fitS c.fl) c.su.data.toList with
     | error y=>rw [ha] at h;cases h;exact Jb ha
     | ok s =>
       rw [ha] at h
       cases hi:ifsN ps c.nm c.ld [] c.ifs with
       | error y=>rw [hi] at h;cases h;exact Zey _ _ hi
       | ok l=>rw [hi] at h;cases h
 ·rw [if_neg hB] at h;cases h;decide
theorem Twin.define {cs:List Cls} {ps:List Plc} (h:Twin cs ps) (hn:NmW ps) (c:Cls):Twin (rdfC cs c (rdfN cs c)) (dfP ps (defN ps c)):=by
 rw [rdf_eq h hn,rdfC]
 cases hd:defN ps c with
 | error x=>rw [errN,if_neg (Zis hd)];exact h
 | ok p =>
   obtain ⟨_,_,_,s,l,_,_,rfl⟩:=Zd8 hd
   rw [errN,if_pos rfl,dfP,Twin,List.map_append,List.map_append,h];rfl
def wldC (l:List Cls):List Cls:=l.foldl (fun cs c=>rdfC cs c (rdfN cs c)) C3
theorem Zhe (l:List Cls) (c:Cls):wldC (l++[c])=rdfC (wldC l) c (rdfN (wldC l) c):=by
 rw [wldC,List.foldl_append];rfl
theorem Zhf {l:List Cls} {i:Nat} {c:Cls} (h:l[i]?=some c):wldC (l.take (i+1))=rdfC (wldC (l.take i)) c (rdfN (wldC (l.take i)) c):=by
 rw [List.take_add_one,h];exact Zhe _ _
theorem Zae (l:List Cls) (hl:∀ c∈l,ClsW c):∀ i,Twin (wldC (l.take i)) (wld (l.take i))
 | 0=>C3_hc
 | i+1=>by
   have ih:=Zae l hl i
   have hn:NmW (wld (l.take i)):=nmW _ (fun c hc=>hl c (List.mem_of_mem_take hc))
   cases hc:l[i]? with
   | none =>
     have e1:l.take (i+1)=l.take i:=by
      have:=List.getElem?_eq_none_iff.1 hc
      rw [List.take_of_length_le (by omega),List.take_of_length_le this]
     rw [e1];exact ih
   | some c =>
     rw [Zhf hc,wld_at hc]
     exact ih.define hn c
theorem twin_all (l:List Cls) (hl:∀ c∈l,ClsW c):Twin (wldC l) (wld l):=by
 have:=Zae l hl l.length
 rwa [List.take_of_length_le (Nat.le_refl _)] at this
theorem Twin.sz {cs:List Cls} {ps:List Plc} (h:Twin cs ps) (hw:WI ps):∀ c∈cs,c.nm.size≤maxLen:=by
 intro c hc
 obtain ⟨k,hk⟩:=List.mem_iff_getElem?.1 hc
 obtain ⟨q,h1,h2⟩:=h.at hk
 have:=hw.nm q (List.mem_of_getElem? h1)
 rw [h2] at this
 exact this
end Go.Proofs.YtkoogmegdfpopaaGreat
