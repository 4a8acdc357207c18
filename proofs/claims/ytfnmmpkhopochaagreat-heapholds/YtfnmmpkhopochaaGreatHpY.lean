import Derived.Test.YtfnmmpkhopochaaGreatHpX
set_option maxRecDepth 100000
namespace Go.Proofs.YtfnmmpkhopochaaGreat
open Go.RowKit Go.Maps
set_option maxHeartbeats 16000000 in
theorem HeapHolds_any (v:Value) (l:List Cls) (d:Int) (nm:ByteArray) (n at' ot:Int) (Rf:Bool) (N:Int) (W:World) (h:IsClss W v l) (hz:nm.size≤maxLen):Calls Tryz.prog 4 #[v,.agg #[.int .i64 d,.string nm],.int .i64 n,.int .i64 at',.int .i64 ot,.agg #[.bool Rf,.int .i64 N]] W fun e w'=>e=.returned (.bool true)∧Below W.heap.size W w':=by
  have B0:Hid (Below W.heap.size W ((W.alloc (.cells #[.int .i64 d,.string nm] 40)).alloc (.cells #[.bool Rf,.int .i64 N] 38))):=((Below.refl _ _).alloc (Nat.le_refl _) _).alloc (by simp) _
  have HI:Hid (WI (wld l)):=wld_wi l (clss_w h)
  have HOb:Hid (∀ os:List Ob,os.length=2→obnE (wld l) os 0=0):=obn_0 l (clss_w h)
  have HO:Hid (∀ w:World,Below W.heap.size W w→Calls Tryz.prog 9 #[v] w fun e w'=>∃ b hb V,e=.returned (.tuple #[.pointer (some ⟨b,0,none⟩),.pointer (some ⟨hb,0,none⟩)])∧Below w.heap.size w V∧WAt b (wld l) V∧Below V.heap.size V w'∧V.heap.size≤hb∧HpAt w' (fun k=>k=hb) hb b (.slice none 0 0) []):=fun w hw=>opened_c v l w (clss_kh h hw)
  clear h
  go_enter Tryz.func4,Tryz.ntmps4
  go_upto_region 6 with (first
    | (go_at_call 8;refine (awake20_c _).mono ?_;rintro e w1 ⟨rfl,hB⟩;have B1:Hid (Below W.heap.size W w1):=bstep B0.out hB;obtain ⟨zB,z0,z1,zf,zL,zN⟩:=k2c (n:=W.heap.size) hB (by simp;omega) (hkA (halloc1 _ _));obtain ⟨yB,y0,y1,yf,yL,yN⟩:=k2c (n:=W.heap.size+1) hB (by simp) (haA _ _ (by simp));clear hB)
    | (go_at_call 9;refine (HO.out _ B1.out).mono ?_;rintro e w2 ⟨bb,hb,V,rfl,hb1,hw1,hb2,hz1,hp1⟩;have B2:Hid (Below W.heap.size W V):=bstep B1.out hb1;have B3:Hid (Below V.heap.size V w2):=hb2;have W1:Hid (WAt bb (wld l) V):=hw1;have P1:Hid (HpAt w2 (fun k=>k=hb) hb bb (.slice none 0 0) []):=hp1;have HV:Hid (W.heap.size+1<V.heap.size):=Nat.lt_of_lt_of_le yL hb1.size;have hB:=bstep hb1 hb2;have zd:=k2c (n:=W.heap.size) hB zL zB.out;clear zB z0 z1 zf zL zN;obtain ⟨zB,z0,z1,zf,zL,zN⟩:=zd;have yd:=k2c (n:=W.heap.size+1) hB yL yB.out;clear yB y0 y1 yf yL yN;obtain ⟨yB,y0,y1,yf,yL,yN⟩:=yd;clear hB hb1 hw1 hb2 hp1 HO)
    | (go_at_call 13;refine (array_c N3.out.1.choose_spec (W1.out.below B4.out) d nm hz n).mono ?_;rintro e w4 ⟨rfl,new2,hn,hm⟩;have N4:Hid (HpN (gS (fun k=>k=hb) w2.heap.size w3.heap.size) w3 w4 hb bb (new++new2)):=hn;have M4:Hid (new2.map Ob.p=aryL (wld l) new d nm n):=hm;have hz3:=N3.out.2.size;have hz2:=B3.out.size;have S4:Hid (∀ k,gS (fun k=>k=hb) w2.heap.size w3.heap.size k→V.heap.size≤k):=(fun k hk=>by rcases hk with hk|hk;rw [hk];exact hz1;omega);have B5:Hid (Below V.heap.size V w4):=own_sz N4.out.2 B4.out S4.out;have zt:=(N4.out.2.blk (W.heap.size) zL (fun x=>by have:=HV.out;have:=S4.out _ x;omega)).trans zB.out;clear zB z0 z1 zf zL zN;have zB:Hid _:=zt;obtain ⟨z0,z1,zf,zL⟩:=r2c zt;have zN:¬ W.heap.size=w4.heap.size:=(by omega);clear zt;have yt:=(N4.out.2.blk (W.heap.size+1) yL (fun x=>by have:=HV.out;have:=S4.out _ x;omega)).trans yB.out;clear yB y0 y1 yf yL yN;have yB:Hid _:=yt;obtain ⟨y0,y1,yf,yL⟩:=r2c yt;have yN:¬ W.heap.size+1=w4.heap.size:=(by omega);clear yt;clear hn hm N3)
    | (go_at_call 13;refine (array_c P1.out (W1.out.below B3.out) d nm hz n).mono ?_;rintro e w3 ⟨rfl,new,hn,hm⟩;rw [List.nil_append] at hn;have N3:Hid (HpN (fun k=>k=hb) w2 w3 hb bb new):=hn;have M3:Hid (new.map Ob.p=aryL (wld l) [] d nm n):=hm;have B4:Hid (Below V.heap.size V w3):=own_sz N3.out.2 B3.out (fun k hk=>by rw [hk];exact hz1);have zt:=(N3.out.2.blk (W.heap.size) zL (fun x=>by have:=HV.out;omega)).trans zB.out;clear zB z0 z1 zf zL zN;have zB:Hid _:=zt;obtain ⟨z0,z1,zf,zL⟩:=r2c zt;have zN:¬ W.heap.size=w3.heap.size:=(by omega);clear zt;have yt:=(N3.out.2.blk (W.heap.size+1) yL (fun x=>by have:=HV.out;omega)).trans yB.out;clear yB y0 y1 yf yL yN;have yB:Hid _:=yt;obtain ⟨y0,y1,yf,yL⟩:=r2c yt;have yN:¬ W.heap.size+1=w3.heap.size:=(by omega);clear yt;clear hn hm P1))
  have BF:Hid (Below W.heap.size W w4):=bstep B2.out B5.out
  by_cases hE1:aryE (wld l) [] d nm n=0
  · by_cases hE2:aryE (wld l) new d nm n=0
    · obtain ⟨o1,rfl,a1,a2,a3⟩:=new_one M3.out hE1
      obtain ⟨o2,rfl,c1,c2,c3⟩:=new_one M4.out hE2
      obtain ⟨q,q1,q2,q3⟩:=obn_ok (HOb.out [o1,o2] rfl)
      obtain ⟨p1,p2,p3,p4,p5⟩:=ary_ok hE1
      obtain ⟨m,hdm,hsn⟩:=arr_E0 p1
      have hd:0≤d:=by omega
      obtain ⟨o3,ho3⟩:∃ o3:Ob,o3=⟨0,q.c.nm,none,[]⟩:=⟨_,rfl⟩
      have HE:Hid (obnE (wld l) ([o1]++[o2]) 0=0):=HOb.out [o1,o2] rfl
      have HN3:Hid (obnN (wld l) ([o1]++[o2]) 0=3):=q3
      have HL3:Hid (obnL (wld l) ([o1]++[o2]) 0=[o1,o2,o3]):=by rw [Hid,ho3];exact q2
      have HZ:Hid (∀ o∈[o1,o2,o3],o.nm.size≤maxLen):=fun o ho=>by
        simp at ho
        rcases ho with rfl|rfl|rfl
        · rw [a2];exact hz
        · rw [c2];exact hz
        · rw [ho3];obtain ⟨k,hk⟩:=plc_at q1;exact HI.out.nm q (List.mem_of_getElem? hk)
      have F:=hol_facts (ps:=wld l) (o1:=o1) (o2:=o2) (o3:=o3) (d:=d) (at':=at') (ot:=ot) (N:=N) (n:=n.toNat) (nm:=nm) (Rf:=Rf) (by omega) c1 hd c2 c3
      have n1:aryN (wld l) [] d nm n=1:=by rw [aryN,if_pos hE1];rfl
      have n2:aryN (wld l) [o1] d nm n=2:=by rw [aryN,if_pos hE2];rfl
      rw [hE1,hE2,n1,n2]
      obtain ⟨R1,hR1⟩:∃ x,geR [o1,o2,o3] 1 ot=x:=⟨_,rfl⟩
      obtain ⟨N1,hN1⟩:∃ x,geN [o1,o2,o3] 1 ot=x:=⟨_,rfl⟩
      obtain ⟨E1,hE1'⟩:∃ x,geE [o1,o2,o3] 1 ot=x:=⟨_,rfl⟩
      obtain ⟨I,hI⟩:∃ x,stE (wld l) [o1,o2,o3] 1 at' Rf N=x:=⟨_,rfl⟩
      obtain ⟨R2,hR2⟩:∃ x,geR (stL (wld l) [o1,o2,o3] 1 at' Rf N) 1 ot=x:=⟨_,rfl⟩
      obtain ⟨N2,hN2⟩:∃ x,geN (stL (wld l) [o1,o2,o3] 1 at' Rf N) 1 ot=x:=⟨_,rfl⟩
      obtain ⟨R3,hR3⟩:∃ x,geR (stL (wld l) [o1,o2,o3] 1 at' Rf N) 1 at'=x:=⟨_,rfl⟩
      obtain ⟨N3,hN3⟩:∃ x,geN (stL (wld l) [o1,o2,o3] 1 at' Rf N) 1 at'=x:=⟨_,rfl⟩
      obtain ⟨E3,hE3⟩:∃ x,geE (stL (wld l) [o1,o2,o3] 1 at' Rf N) 1 at'=x:=⟨_,rfl⟩
      obtain ⟨R4,hR4⟩:∃ x,geR (stL (wld l) [o1,o2,o3] 1 at' Rf N) 2 ot=x:=⟨_,rfl⟩
      obtain ⟨N4x,hN4x⟩:∃ x,geN (stL (wld l) [o1,o2,o3] 1 at' Rf N) 2 ot=x:=⟨_,rfl⟩
      obtain ⟨E4,hE4⟩:∃ x,geE (stL (wld l) [o1,o2,o3] 1 at' Rf N) 2 ot=x:=⟨_,rfl⟩
      have f1:=F.ge
      have f2:=F.no
      have f3:=F.ne
      have f4:=F.on
      have f5:=F.far
      have HLn:Hid ((stL (wld l) [o1,o2,o3] 1 at' Rf N).length=3):=F.len
      have f6:¬ I=0→R2=R1∧N2=N1:=fun e=>by rw [← hI] at e;rw [← hR2,← hN2,f2 e];exact ⟨hR1,hN1⟩
      rw [hE1'] at f1
      rw [hR1,hN1,hR2,hN2] at f3
      rw [hI,hR3,hN3,hE3] at f4
      rw [hR4,hN4x,hE4] at f5
      have HR1:Hid _:=hR1
      have HN1:Hid _:=hN1
      have HE1:Hid _:=hE1'
      have HI1:Hid _:=hI
      have HR2:Hid _:=hR2
      have HN2:Hid _:=hN2
      have HE2:Hid _:=f1
      have HR3:Hid _:=hR3
      have HN3':Hid _:=hN3
      have HE3:Hid _:=hE3
      have HR4:Hid _:=hR4
      have HN4:Hid _:=hN4x
      have HE4:Hid _:=hE4
      have F3:Hid (¬ at'=ot→R2=R1∧N2=N1):=f3
      have F4:Hid (I=0→E3=0∧R3=Rf∧N3=N):=f4
      have F5:Hid (E4=0→N4x=0∧R4=rfB (d+1) nm):=f5
      have F6:Hid (¬ I=0→R2=R1∧N2=N1):=f6
      clear f1 f2 f3 f4 f5 f6 F hR1 hN1 hE1' hI hR2 hN2 hR3 hN3 hE3 hR4 hN4x hE4 hE1 hE2 n1 n2 q1 q2 q3 p1 p2 p3 p4 p5 hsn hdm a1 a2 a3 c1 c2 c3 ho3 M3 M4
      go_upto_region 12 with (first
        | (go_at_call 15;refine (get_c N7.out.1.choose_spec 1 ot).mono ?_;rintro e w8 ⟨rfl,hB⟩;rw [HR2.out,HN2.out,HE2.out];have B9:Hid (Below w7.heap.size w7 w8):=hB;have hz8:=hB.size;have zd:=k2c (n:=W.heap.size) hB zL zB.out;clear zB z0 z1 zf zL zN;obtain ⟨zB,z0,z1,zf,zL,zN⟩:=zd;have yd:=k2c (n:=W.heap.size+1) hB yL yB.out;clear yB y0 y1 yf yL yN;obtain ⟨yB,y0,y1,yf,yL,yN⟩:=yd;have xd:=k2c (n:=w6.heap.size) hB xL xB.out;clear xB x0 x1 xf xL xN;obtain ⟨xB,x0,x1,xf,xL,xN⟩:=xd;clear hB)
        | (go_at_call 14;refine (object_c N4.out.1.choose_spec (W1.out.below B5.out) HI.out.pb 0).mono ?_;rintro e w5 ⟨rfl,hn⟩;rw [HE.out,HN3.out];rw [HL3.out] at hn;have N5:Hid (HpN (gS (gS (fun k=>k=hb) w2.heap.size w3.heap.size) w3.heap.size w4.heap.size) w4 w5 hb bb [o1,o2,o3]):=hn;have hz4:=N4.out.2.size;have S5:Hid (∀ k,gS (gS (fun k=>k=hb) w2.heap.size w3.heap.size) w3.heap.size w4.heap.size k→V.heap.size≤k):=(fun k hk=>by rcases hk with hk|hk;exact S4.out k hk;omega);have B6:Hid (Below V.heap.size V w5):=own_sz N5.out.2 B5.out S5.out;have zt:=(N5.out.2.blk (W.heap.size) zL (fun x=>by have:=HV.out;have:=S5.out _ x;omega)).trans zB.out;clear zB z0 z1 zf zL zN;have zB:Hid _:=zt;obtain ⟨z0,z1,zf,zL⟩:=r2c zt;have zN:¬ W.heap.size=w5.heap.size:=(by omega);clear zt;have yt:=(N5.out.2.blk (W.heap.size+1) yL (fun x=>by have:=HV.out;have:=S5.out _ x;omega)).trans yB.out;clear yB y0 y1 yf yL yN;have yB:Hid _:=yt;obtain ⟨y0,y1,yf,yL⟩:=r2c yt;have yN:¬ W.heap.size+1=w5.heap.size:=(by omega);clear yt;obtain ⟨v5,hp5⟩:=hn.1;have hz5:=hn.2.size;have P5:Hid (HpAt w5 (gS (gS (gS (fun k=>k=hb) w2.heap.size w3.heap.size) w3.heap.size w4.heap.size) w4.heap.size w5.heap.size) hb bb v5 [o1,o2,o3]):=hp5;have S6:Hid (∀ k,gS (gS (gS (fun k=>k=hb) w2.heap.size w3.heap.size) w3.heap.size w4.heap.size) w4.heap.size w5.heap.size k→V.heap.size≤k∧k<w5.heap.size):=(fun k hk=>⟨by rcases hk with hk|hk;exact S5.out k hk;omega,hp5.sz k hk⟩);clear hn hp5 N4 HE HN3 HL3)
        | (go_at_call 16;refine (set_c (P5.out.below (B7.out.alloc B7.out.size _)) (W1.out.below (B6.out.trans ((B7.out.alloc B7.out.size _).mono B6.out.size))) HI.out HZ.out 1 at' N Rf).mono ?_;rintro e w7 ⟨rfl,hn⟩;rw [HI1.out];have N7:Hid (HpN (gS (gS (gS (fun k=>k=hb) w2.heap.size w3.heap.size) w3.heap.size w4.heap.size) w4.heap.size w5.heap.size) (w6.alloc (.cells #[.bool R1,.int .i64 N1] 38)) w7 hb bb (stL (wld l) [o1,o2,o3] 1 at' Rf N)):=hn;have hz7:w6.heap.size+1≤w7.heap.size:=(by have:=hn.2.size;simpa using this);have B8:Hid (Below V.heap.size V w7):=own_sz hn.2 (B6.out.trans ((B7.out.alloc B7.out.size _).mono B6.out.size)) (fun k hk=>(S6.out k hk).1);have xt:=(hn.2.blk w6.heap.size (by simp) (fun x=>by have:=(S6.out _ x).2;omega)).trans (halloc1 _ _);have xB:Hid _:=xt;obtain ⟨x0,x1,xf,xL⟩:=r2c xt;have xN:¬ w6.heap.size=w7.heap.size:=(by omega);have zt:=(N7.out.2.blk (W.heap.size) (by simp;omega) (fun x=>by have:=HV.out;have:=(S6.out _ x).1;omega)).trans (hkA zB.out);clear zB z0 z1 zf zL zN;have zB:Hid _:=zt;obtain ⟨z0,z1,zf,zL⟩:=r2c zt;have zN:¬ W.heap.size=w7.heap.size:=(by omega);clear zt;have yt:=(N7.out.2.blk (W.heap.size+1) (by simp;omega) (fun x=>by have:=HV.out;have:=(S6.out _ x).1;omega)).trans (hkA yB.out);clear yB y0 y1 yf yL yN;have yB:Hid _:=yt;obtain ⟨y0,y1,yf,yL⟩:=r2c yt;have yN:¬ W.heap.size+1=w7.heap.size:=(by omega);clear yt;clear xt hn)
        | (go_at_call 15;refine (get_c P5.out 1 ot).mono ?_;rintro e w6 ⟨rfl,hB⟩;rw [HR1.out,HN1.out,HE1.out];have B7:Hid (Below w5.heap.size w5 w6):=hB;have hz6:=hB.size;have zd:=k2c (n:=W.heap.size) hB zL zB.out;clear zB z0 z1 zf zL zN;obtain ⟨zB,z0,z1,zf,zL,zN⟩:=zd;have yd:=k2c (n:=W.heap.size+1) hB yL yB.out;clear yB y0 y1 yf yL yN;obtain ⟨yB,y0,y1,yf,yL,yN⟩:=yd;clear hB))
      by_cases hI0:I=0
      · obtain ⟨e3,e4,e5⟩:=F4.out hI0
        subst e3 e4 e5 hI0
        clear F4 F6
        by_cases hao:at'=ot
        · clear F3
          subst hao
          by_cases hE4:E4=0
          · obtain ⟨hN4,hR4⟩:=F5.out hE4
            subst hE4 hN4
            rcases rf_cases nm hd with ⟨hp,hr⟩|⟨hp,hne,hr⟩|⟨hp,hne,hr⟩
            · rw [hr] at hR4;subst hR4
              clear hr
              go_wp2_with (first
                | (go_at_call 15;refine (get_c (N7.out.1.choose_spec.below (B10.out.alloc B10.out.size _)) 2 at').mono ?_;rintro e w11 ⟨rfl,hB⟩;rw [HR4.out,HN4.out,HE4.out];have B11:Hid (Below w7.heap.size w7 w11):=bstep (B10.out.alloc B10.out.size _) hB;have zd:=k2c (n:=W.heap.size) hB (by simp;omega) (hkA zB.out);clear zB z0 z1 zf zL zN;obtain ⟨zB,z0,z1,zf,zL,zN⟩:=zd;have yd:=k2c (n:=W.heap.size+1) hB (by simp;omega) (hkA yB.out);clear yB y0 y1 yf yL yN;obtain ⟨yB,y0,y1,yf,yL,yN⟩:=yd;have xd:=k2c (n:=w6.heap.size) hB (by simp;omega) (hkA xB.out);clear xB x0 x1 xf xL xN;obtain ⟨xB,x0,x1,xf,xL,xN⟩:=xd;have ud:=k2c (n:=w8.heap.size) hB (by simp;omega) (hkA uB.out);clear uB u0 u1 uf uL uN;obtain ⟨uB,u0,u1,uf,uL,uN⟩:=ud;obtain ⟨tB,t0,t1,tf,tL,tN⟩:=k2c (n:=w10.heap.size) hB (by simp) (halloc1 _ _);clear hB)
                | (go_at_call 17;refine (hlen_c (N7.out.1.choose_spec.below (B9.out.alloc B9.out.size _))).mono ?_;rintro e w' ⟨rfl,hw⟩;obtain rfl:=hw.symm;rw [HLn.out])
                | (go_at_call 15;refine (get_c (N7.out.1.choose_spec.below (B9.out.alloc B9.out.size _)) 1 at').mono ?_;rintro e w10 ⟨rfl,hB⟩;rw [HR3.out,HN3'.out,HE3.out];have B10:Hid (Below w7.heap.size w7 w10):=bstep (B9.out.alloc B9.out.size _) hB;have hz10:=hB.size;have zd:=k2c (n:=W.heap.size) hB (by simp;omega) (hkA zB.out);clear zB z0 z1 zf zL zN;obtain ⟨zB,z0,z1,zf,zL,zN⟩:=zd;have yd:=k2c (n:=W.heap.size+1) hB (by simp;omega) (hkA yB.out);clear yB y0 y1 yf yL yN;obtain ⟨yB,y0,y1,yf,yL,yN⟩:=yd;have xd:=k2c (n:=w6.heap.size) hB (by simp;omega) (hkA xB.out);clear xB x0 x1 xf xL xN;obtain ⟨xB,x0,x1,xf,xL,xN⟩:=xd;obtain ⟨uB,u0,u1,uf,uL,uN⟩:=k2c (n:=w8.heap.size) hB (by simp) (halloc1 _ _);clear hB))
              all_goals go_ret
              all_goals exact ⟨rfl,bstep (bstep B2.out B8.out) (B11.out.alloc B11.out.size _)⟩
            · rw [hr] at hR4;subst hR4 hp
              clear hr
              go_wp2_with (first
                | (go_at_call 15;refine (get_c (N7.out.1.choose_spec.below (B10.out.alloc B10.out.size _)) 2 at').mono ?_;rintro e w11 ⟨rfl,hB⟩;rw [HR4.out,HN4.out,HE4.out];have B11:Hid (Below w7.heap.size w7 w11):=bstep (B10.out.alloc B10.out.size _) hB;have zd:=k2c (n:=W.heap.size) hB (by simp;omega) (hkA zB.out);clear zB z0 z1 zf zL zN;obtain ⟨zB,z0,z1,zf,zL,zN⟩:=zd;have yd:=k2c (n:=W.heap.size+1) hB (by simp;omega) (hkA yB.out);clear yB y0 y1 yf yL yN;obtain ⟨yB,y0,y1,yf,yL,yN⟩:=yd;have xd:=k2c (n:=w6.heap.size) hB (by simp;omega) (hkA xB.out);clear xB x0 x1 xf xL xN;obtain ⟨xB,x0,x1,xf,xL,xN⟩:=xd;have ud:=k2c (n:=w8.heap.size) hB (by simp;omega) (hkA uB.out);clear uB u0 u1 uf uL uN;obtain ⟨uB,u0,u1,uf,uL,uN⟩:=ud;obtain ⟨tB,t0,t1,tf,tL,tN⟩:=k2c (n:=w10.heap.size) hB (by simp) (halloc1 _ _);clear hB)
                | (go_at_call 17;refine (hlen_c (N7.out.1.choose_spec.below (B9.out.alloc B9.out.size _))).mono ?_;rintro e w' ⟨rfl,hw⟩;obtain rfl:=hw.symm;rw [HLn.out])
                | (go_at_call 15;refine (get_c (N7.out.1.choose_spec.below (B9.out.alloc B9.out.size _)) 1 at').mono ?_;rintro e w10 ⟨rfl,hB⟩;rw [HR3.out,HN3'.out,HE3.out];have B10:Hid (Below w7.heap.size w7 w10):=bstep (B9.out.alloc B9.out.size _) hB;have hz10:=hB.size;have zd:=k2c (n:=W.heap.size) hB (by simp;omega) (hkA zB.out);clear zB z0 z1 zf zL zN;obtain ⟨zB,z0,z1,zf,zL,zN⟩:=zd;have yd:=k2c (n:=W.heap.size+1) hB (by simp;omega) (hkA yB.out);clear yB y0 y1 yf yL yN;obtain ⟨yB,y0,y1,yf,yL,yN⟩:=yd;have xd:=k2c (n:=w6.heap.size) hB (by simp;omega) (hkA xB.out);clear xB x0 x1 xf xL xN;obtain ⟨xB,x0,x1,xf,xL,xN⟩:=xd;obtain ⟨uB,u0,u1,uf,uL,uN⟩:=k2c (n:=w8.heap.size) hB (by simp) (halloc1 _ _);clear hB))
              all_goals go_ret
              all_goals exact ⟨rfl,bstep (bstep B2.out B8.out) (B11.out.alloc B11.out.size _)⟩
            · rw [hr] at hR4;subst hR4 hp
              clear hr
              go_wp2_with (first
                | (go_at_call 15;refine (get_c (N7.out.1.choose_spec.below (B10.out.alloc B10.out.size _)) 2 at').mono ?_;rintro e w11 ⟨rfl,hB⟩;rw [HR4.out,HN4.out,HE4.out];have B11:Hid (Below w7.heap.size w7 w11):=bstep (B10.out.alloc B10.out.size _) hB;have zd:=k2c (n:=W.heap.size) hB (by simp;omega) (hkA zB.out);clear zB z0 z1 zf zL zN;obtain ⟨zB,z0,z1,zf,zL,zN⟩:=zd;have yd:=k2c (n:=W.heap.size+1) hB (by simp;omega) (hkA yB.out);clear yB y0 y1 yf yL yN;obtain ⟨yB,y0,y1,yf,yL,yN⟩:=yd;have xd:=k2c (n:=w6.heap.size) hB (by simp;omega) (hkA xB.out);clear xB x0 x1 xf xL xN;obtain ⟨xB,x0,x1,xf,xL,xN⟩:=xd;have ud:=k2c (n:=w8.heap.size) hB (by simp;omega) (hkA uB.out);clear uB u0 u1 uf uL uN;obtain ⟨uB,u0,u1,uf,uL,uN⟩:=ud;obtain ⟨tB,t0,t1,tf,tL,tN⟩:=k2c (n:=w10.heap.size) hB (by simp) (halloc1 _ _);clear hB)
                | (go_at_call 17;refine (hlen_c (N7.out.1.choose_spec.below (B9.out.alloc B9.out.size _))).mono ?_;rintro e w' ⟨rfl,hw⟩;obtain rfl:=hw.symm;rw [HLn.out])
                | (go_at_call 15;refine (get_c (N7.out.1.choose_spec.below (B9.out.alloc B9.out.size _)) 1 at').mono ?_;rintro e w10 ⟨rfl,hB⟩;rw [HR3.out,HN3'.out,HE3.out];have B10:Hid (Below w7.heap.size w7 w10):=bstep (B9.out.alloc B9.out.size _) hB;have hz10:=hB.size;have zd:=k2c (n:=W.heap.size) hB (by simp;omega) (hkA zB.out);clear zB z0 z1 zf zL zN;obtain ⟨zB,z0,z1,zf,zL,zN⟩:=zd;have yd:=k2c (n:=W.heap.size+1) hB (by simp;omega) (hkA yB.out);clear yB y0 y1 yf yL yN;obtain ⟨yB,y0,y1,yf,yL,yN⟩:=yd;have xd:=k2c (n:=w6.heap.size) hB (by simp;omega) (hkA xB.out);clear xB x0 x1 xf xL xN;obtain ⟨xB,x0,x1,xf,xL,xN⟩:=xd;obtain ⟨uB,u0,u1,uf,uL,uN⟩:=k2c (n:=w8.heap.size) hB (by simp) (halloc1 _ _);clear hB))
              all_goals go_ret
              all_goals exact ⟨rfl,bstep (bstep B2.out B8.out) (B11.out.alloc B11.out.size _)⟩
          · clear F5
            go_wp2_with (first
              | (go_at_call 15;refine (get_c (N7.out.1.choose_spec.below (B10.out.alloc B10.out.size _)) 2 at').mono ?_;rintro e w11 ⟨rfl,hB⟩;rw [HR4.out,HN4.out,HE4.out];have B11:Hid (Below w7.heap.size w7 w11):=bstep (B10.out.alloc B10.out.size _) hB;have zd:=k2c (n:=W.heap.size) hB (by simp;omega) (hkA zB.out);clear zB z0 z1 zf zL zN;obtain ⟨zB,z0,z1,zf,zL,zN⟩:=zd;have yd:=k2c (n:=W.heap.size+1) hB (by simp;omega) (hkA yB.out);clear yB y0 y1 yf yL yN;obtain ⟨yB,y0,y1,yf,yL,yN⟩:=yd;have xd:=k2c (n:=w6.heap.size) hB (by simp;omega) (hkA xB.out);clear xB x0 x1 xf xL xN;obtain ⟨xB,x0,x1,xf,xL,xN⟩:=xd;have ud:=k2c (n:=w8.heap.size) hB (by simp;omega) (hkA uB.out);clear uB u0 u1 uf uL uN;obtain ⟨uB,u0,u1,uf,uL,uN⟩:=ud;obtain ⟨tB,t0,t1,tf,tL,tN⟩:=k2c (n:=w10.heap.size) hB (by simp) (halloc1 _ _);clear hB)
              | (go_at_call 17;refine (hlen_c (N7.out.1.choose_spec.below (B9.out.alloc B9.out.size _))).mono ?_;rintro e w' ⟨rfl,hw⟩;obtain rfl:=hw.symm;rw [HLn.out])
              | (go_at_call 15;refine (get_c (N7.out.1.choose_spec.below (B9.out.alloc B9.out.size _)) 1 at').mono ?_;rintro e w10 ⟨rfl,hB⟩;rw [HR3.out,HN3'.out,HE3.out];have B10:Hid (Below w7.heap.size w7 w10):=bstep (B9.out.alloc B9.out.size _) hB;have hz10:=hB.size;have zd:=k2c (n:=W.heap.size) hB (by simp;omega) (hkA zB.out);clear zB z0 z1 zf zL zN;obtain ⟨zB,z0,z1,zf,zL,zN⟩:=zd;have yd:=k2c (n:=W.heap.size+1) hB (by simp;omega) (hkA yB.out);clear yB y0 y1 yf yL yN;obtain ⟨yB,y0,y1,yf,yL,yN⟩:=yd;have xd:=k2c (n:=w6.heap.size) hB (by simp;omega) (hkA xB.out);clear xB x0 x1 xf xL xN;obtain ⟨xB,x0,x1,xf,xL,xN⟩:=xd;obtain ⟨uB,u0,u1,uf,uL,uN⟩:=k2c (n:=w8.heap.size) hB (by simp) (halloc1 _ _);clear hB))
            all_goals go_ret
            all_goals exact ⟨rfl,bstep (bstep B2.out B8.out) (B11.out.alloc B11.out.size _)⟩
        · obtain ⟨e6,e7⟩:=F3.out hao
          subst e6 e7
          clear F3
          by_cases hE4:E4=0
          · obtain ⟨hN4,hR4⟩:=F5.out hE4
            subst hE4 hN4
            rcases rf_cases nm hd with ⟨hp,hr⟩|⟨hp,hne,hr⟩|⟨hp,hne,hr⟩
            · rw [hr] at hR4;subst hR4
              clear hr
              go_wp2_with (first
                | (go_at_call 15;refine (get_c (N7.out.1.choose_spec.below (B10.out.alloc B10.out.size _)) 2 ot).mono ?_;rintro e w11 ⟨rfl,hB⟩;rw [HR4.out,HN4.out,HE4.out];have B11:Hid (Below w7.heap.size w7 w11):=bstep (B10.out.alloc B10.out.size _) hB;have zd:=k2c (n:=W.heap.size) hB (by simp;omega) (hkA zB.out);clear zB z0 z1 zf zL zN;obtain ⟨zB,z0,z1,zf,zL,zN⟩:=zd;have yd:=k2c (n:=W.heap.size+1) hB (by simp;omega) (hkA yB.out);clear yB y0 y1 yf yL yN;obtain ⟨yB,y0,y1,yf,yL,yN⟩:=yd;have xd:=k2c (n:=w6.heap.size) hB (by simp;omega) (hkA xB.out);clear xB x0 x1 xf xL xN;obtain ⟨xB,x0,x1,xf,xL,xN⟩:=xd;have ud:=k2c (n:=w8.heap.size) hB (by simp;omega) (hkA uB.out);clear uB u0 u1 uf uL uN;obtain ⟨uB,u0,u1,uf,uL,uN⟩:=ud;obtain ⟨tB,t0,t1,tf,tL,tN⟩:=k2c (n:=w10.heap.size) hB (by simp) (halloc1 _ _);clear hB)
                | (go_at_call 17;refine (hlen_c (N7.out.1.choose_spec.below (B9.out.alloc B9.out.size _))).mono ?_;rintro e w' ⟨rfl,hw⟩;obtain rfl:=hw.symm;rw [HLn.out])
                | (go_at_call 15;refine (get_c (N7.out.1.choose_spec.below (B9.out.alloc B9.out.size _)) 1 at').mono ?_;rintro e w10 ⟨rfl,hB⟩;rw [HR3.out,HN3'.out,HE3.out];have B10:Hid (Below w7.heap.size w7 w10):=bstep (B9.out.alloc B9.out.size _) hB;have hz10:=hB.size;have zd:=k2c (n:=W.heap.size) hB (by simp;omega) (hkA zB.out);clear zB z0 z1 zf zL zN;obtain ⟨zB,z0,z1,zf,zL,zN⟩:=zd;have yd:=k2c (n:=W.heap.size+1) hB (by simp;omega) (hkA yB.out);clear yB y0 y1 yf yL yN;obtain ⟨yB,y0,y1,yf,yL,yN⟩:=yd;have xd:=k2c (n:=w6.heap.size) hB (by simp;omega) (hkA xB.out);clear xB x0 x1 xf xL xN;obtain ⟨xB,x0,x1,xf,xL,xN⟩:=xd;obtain ⟨uB,u0,u1,uf,uL,uN⟩:=k2c (n:=w8.heap.size) hB (by simp) (halloc1 _ _);clear hB))
              all_goals go_ret
              all_goals exact ⟨rfl,bstep (bstep B2.out B8.out) (B11.out.alloc B11.out.size _)⟩
            · rw [hr] at hR4;subst hR4 hp
              clear hr
              go_wp2_with (first
                | (go_at_call 15;refine (get_c (N7.out.1.choose_spec.below (B10.out.alloc B10.out.size _)) 2 ot).mono ?_;rintro e w11 ⟨rfl,hB⟩;rw [HR4.out,HN4.out,HE4.out];have B11:Hid (Below w7.heap.size w7 w11):=bstep (B10.out.alloc B10.out.size _) hB;have zd:=k2c (n:=W.heap.size) hB (by simp;omega) (hkA zB.out);clear zB z0 z1 zf zL zN;obtain ⟨zB,z0,z1,zf,zL,zN⟩:=zd;have yd:=k2c (n:=W.heap.size+1) hB (by simp;omega) (hkA yB.out);clear yB y0 y1 yf yL yN;obtain ⟨yB,y0,y1,yf,yL,yN⟩:=yd;have xd:=k2c (n:=w6.heap.size) hB (by simp;omega) (hkA xB.out);clear xB x0 x1 xf xL xN;obtain ⟨xB,x0,x1,xf,xL,xN⟩:=xd;have ud:=k2c (n:=w8.heap.size) hB (by simp;omega) (hkA uB.out);clear uB u0 u1 uf uL uN;obtain ⟨uB,u0,u1,uf,uL,uN⟩:=ud;obtain ⟨tB,t0,t1,tf,tL,tN⟩:=k2c (n:=w10.heap.size) hB (by simp) (halloc1 _ _);clear hB)
                | (go_at_call 17;refine (hlen_c (N7.out.1.choose_spec.below (B9.out.alloc B9.out.size _))).mono ?_;rintro e w' ⟨rfl,hw⟩;obtain rfl:=hw.symm;rw [HLn.out])
                | (go_at_call 15;refine (get_c (N7.out.1.choose_spec.below (B9.out.alloc B9.out.size _)) 1 at').mono ?_;rintro e w10 ⟨rfl,hB⟩;rw [HR3.out,HN3'.out,HE3.out];have B10:Hid (Below w7.heap.size w7 w10):=bstep (B9.out.alloc B9.out.size _) hB;have hz10:=hB.size;have zd:=k2c (n:=W.heap.size) hB (by simp;omega) (hkA zB.out);clear zB z0 z1 zf zL zN;obtain ⟨zB,z0,z1,zf,zL,zN⟩:=zd;have yd:=k2c (n:=W.heap.size+1) hB (by simp;omega) (hkA yB.out);clear yB y0 y1 yf yL yN;obtain ⟨yB,y0,y1,yf,yL,yN⟩:=yd;have xd:=k2c (n:=w6.heap.size) hB (by simp;omega) (hkA xB.out);clear xB x0 x1 xf xL xN;obtain ⟨xB,x0,x1,xf,xL,xN⟩:=xd;obtain ⟨uB,u0,u1,uf,uL,uN⟩:=k2c (n:=w8.heap.size) hB (by simp) (halloc1 _ _);clear hB))
              all_goals go_ret
              all_goals exact ⟨rfl,bstep (bstep B2.out B8.out) (B11.out.alloc B11.out.size _)⟩
            · rw [hr] at hR4;subst hR4 hp
              clear hr
              go_wp2_with (first
                | (go_at_call 15;refine (get_c (N7.out.1.choose_spec.below (B10.out.alloc B10.out.size _)) 2 ot).mono ?_;rintro e w11 ⟨rfl,hB⟩;rw [HR4.out,HN4.out,HE4.out];have B11:Hid (Below w7.heap.size w7 w11):=bstep (B10.out.alloc B10.out.size _) hB;have zd:=k2c (n:=W.heap.size) hB (by simp;omega) (hkA zB.out);clear zB z0 z1 zf zL zN;obtain ⟨zB,z0,z1,zf,zL,zN⟩:=zd;have yd:=k2c (n:=W.heap.size+1) hB (by simp;omega) (hkA yB.out);clear yB y0 y1 yf yL yN;obtain ⟨yB,y0,y1,yf,yL,yN⟩:=yd;have xd:=k2c (n:=w6.heap.size) hB (by simp;omega) (hkA xB.out);clear xB x0 x1 xf xL xN;obtain ⟨xB,x0,x1,xf,xL,xN⟩:=xd;have ud:=k2c (n:=w8.heap.size) hB (by simp;omega) (hkA uB.out);clear uB u0 u1 uf uL uN;obtain ⟨uB,u0,u1,uf,uL,uN⟩:=ud;obtain ⟨tB,t0,t1,tf,tL,tN⟩:=k2c (n:=w10.heap.size) hB (by simp) (halloc1 _ _);clear hB)
                | (go_at_call 17;refine (hlen_c (N7.out.1.choose_spec.below (B9.out.alloc B9.out.size _))).mono ?_;rintro e w' ⟨rfl,hw⟩;obtain rfl:=hw.symm;rw [HLn.out])
                | (go_at_call 15;refine (get_c (N7.out.1.choose_spec.below (B9.out.alloc B9.out.size _)) 1 at').mono ?_;rintro e w10 ⟨rfl,hB⟩;rw [HR3.out,HN3'.out,HE3.out];have B10:Hid (Below w7.heap.size w7 w10):=bstep (B9.out.alloc B9.out.size _) hB;have hz10:=hB.size;have zd:=k2c (n:=W.heap.size) hB (by simp;omega) (hkA zB.out);clear zB z0 z1 zf zL zN;obtain ⟨zB,z0,z1,zf,zL,zN⟩:=zd;have yd:=k2c (n:=W.heap.size+1) hB (by simp;omega) (hkA yB.out);clear yB y0 y1 yf yL yN;obtain ⟨yB,y0,y1,yf,yL,yN⟩:=yd;have xd:=k2c (n:=w6.heap.size) hB (by simp;omega) (hkA xB.out);clear xB x0 x1 xf xL xN;obtain ⟨xB,x0,x1,xf,xL,xN⟩:=xd;obtain ⟨uB,u0,u1,uf,uL,uN⟩:=k2c (n:=w8.heap.size) hB (by simp) (halloc1 _ _);clear hB))
              all_goals go_ret
              all_goals exact ⟨rfl,bstep (bstep B2.out B8.out) (B11.out.alloc B11.out.size _)⟩
          · clear F5
            go_wp2_with (first
              | (go_at_call 15;refine (get_c (N7.out.1.choose_spec.below (B10.out.alloc B10.out.size _)) 2 ot).mono ?_;rintro e w11 ⟨rfl,hB⟩;rw [HR4.out,HN4.out,HE4.out];have B11:Hid (Below w7.heap.size w7 w11):=bstep (B10.out.alloc B10.out.size _) hB;have zd:=k2c (n:=W.heap.size) hB (by simp;omega) (hkA zB.out);clear zB z0 z1 zf zL zN;obtain ⟨zB,z0,z1,zf,zL,zN⟩:=zd;have yd:=k2c (n:=W.heap.size+1) hB (by simp;omega) (hkA yB.out);clear yB y0 y1 yf yL yN;obtain ⟨yB,y0,y1,yf,yL,yN⟩:=yd;have xd:=k2c (n:=w6.heap.size) hB (by simp;omega) (hkA xB.out);clear xB x0 x1 xf xL xN;obtain ⟨xB,x0,x1,xf,xL,xN⟩:=xd;have ud:=k2c (n:=w8.heap.size) hB (by simp;omega) (hkA uB.out);clear uB u0 u1 uf uL uN;obtain ⟨uB,u0,u1,uf,uL,uN⟩:=ud;obtain ⟨tB,t0,t1,tf,tL,tN⟩:=k2c (n:=w10.heap.size) hB (by simp) (halloc1 _ _);clear hB)
              | (go_at_call 17;refine (hlen_c (N7.out.1.choose_spec.below (B9.out.alloc B9.out.size _))).mono ?_;rintro e w' ⟨rfl,hw⟩;obtain rfl:=hw.symm;rw [HLn.out])
              | (go_at_call 15;refine (get_c (N7.out.1.choose_spec.below (B9.out.alloc B9.out.size _)) 1 at').mono ?_;rintro e w10 ⟨rfl,hB⟩;rw [HR3.out,HN3'.out,HE3.out];have B10:Hid (Below w7.heap.size w7 w10):=bstep (B9.out.alloc B9.out.size _) hB;have hz10:=hB.size;have zd:=k2c (n:=W.heap.size) hB (by simp;omega) (hkA zB.out);clear zB z0 z1 zf zL zN;obtain ⟨zB,z0,z1,zf,zL,zN⟩:=zd;have yd:=k2c (n:=W.heap.size+1) hB (by simp;omega) (hkA yB.out);clear yB y0 y1 yf yL yN;obtain ⟨yB,y0,y1,yf,yL,yN⟩:=yd;have xd:=k2c (n:=w6.heap.size) hB (by simp;omega) (hkA xB.out);clear xB x0 x1 xf xL xN;obtain ⟨xB,x0,x1,xf,xL,xN⟩:=xd;obtain ⟨uB,u0,u1,uf,uL,uN⟩:=k2c (n:=w8.heap.size) hB (by simp) (halloc1 _ _);clear hB))
            all_goals go_ret
            all_goals exact ⟨rfl,bstep (bstep B2.out B8.out) (B11.out.alloc B11.out.size _)⟩
      · obtain ⟨e6,e7⟩:=F6.out hI0
        subst e6 e7
        clear F3 F4 F6
        by_cases hE4:E4=0
        · obtain ⟨hN4,hR4⟩:=F5.out hE4
          subst hE4 hN4
          rcases rf_cases nm hd with ⟨hp,hr⟩|⟨hp,hne,hr⟩|⟨hp,hne,hr⟩
          · rw [hr] at hR4;subst hR4
            clear hr
            go_wp2_with (first
              | (go_at_call 15;refine (get_c (N7.out.1.choose_spec.below (B10.out.alloc B10.out.size _)) 2 ot).mono ?_;rintro e w11 ⟨rfl,hB⟩;rw [HR4.out,HN4.out,HE4.out];have B11:Hid (Below w7.heap.size w7 w11):=bstep (B10.out.alloc B10.out.size _) hB;have zd:=k2c (n:=W.heap.size) hB (by simp;omega) (hkA zB.out);clear zB z0 z1 zf zL zN;obtain ⟨zB,z0,z1,zf,zL,zN⟩:=zd;have yd:=k2c (n:=W.heap.size+1) hB (by simp;omega) (hkA yB.out);clear yB y0 y1 yf yL yN;obtain ⟨yB,y0,y1,yf,yL,yN⟩:=yd;have xd:=k2c (n:=w6.heap.size) hB (by simp;omega) (hkA xB.out);clear xB x0 x1 xf xL xN;obtain ⟨xB,x0,x1,xf,xL,xN⟩:=xd;have ud:=k2c (n:=w8.heap.size) hB (by simp;omega) (hkA uB.out);clear uB u0 u1 uf uL uN;obtain ⟨uB,u0,u1,uf,uL,uN⟩:=ud;obtain ⟨tB,t0,t1,tf,tL,tN⟩:=k2c (n:=w10.heap.size) hB (by simp) (halloc1 _ _);clear hB)
              | (go_at_call 17;refine (hlen_c (N7.out.1.choose_spec.below (B9.out.alloc B9.out.size _))).mono ?_;rintro e w' ⟨rfl,hw⟩;obtain rfl:=hw.symm;rw [HLn.out])
              | (go_at_call 15;refine (get_c (N7.out.1.choose_spec.below (B9.out.alloc B9.out.size _)) 1 at').mono ?_;rintro e w10 ⟨rfl,hB⟩;rw [HR3.out,HN3'.out,HE3.out];have B10:Hid (Below w7.heap.size w7 w10):=bstep (B9.out.alloc B9.out.size _) hB;have hz10:=hB.size;have zd:=k2c (n:=W.heap.size) hB (by simp;omega) (hkA zB.out);clear zB z0 z1 zf zL zN;obtain ⟨zB,z0,z1,zf,zL,zN⟩:=zd;have yd:=k2c (n:=W.heap.size+1) hB (by simp;omega) (hkA yB.out);clear yB y0 y1 yf yL yN;obtain ⟨yB,y0,y1,yf,yL,yN⟩:=yd;have xd:=k2c (n:=w6.heap.size) hB (by simp;omega) (hkA xB.out);clear xB x0 x1 xf xL xN;obtain ⟨xB,x0,x1,xf,xL,xN⟩:=xd;obtain ⟨uB,u0,u1,uf,uL,uN⟩:=k2c (n:=w8.heap.size) hB (by simp) (halloc1 _ _);clear hB))
            all_goals go_ret
            all_goals exact ⟨rfl,bstep (bstep B2.out B8.out) (B11.out.alloc B11.out.size _)⟩
          · rw [hr] at hR4;subst hR4 hp
            clear hr
            go_wp2_with (first
              | (go_at_call 15;refine (get_c (N7.out.1.choose_spec.below (B10.out.alloc B10.out.size _)) 2 ot).mono ?_;rintro e w11 ⟨rfl,hB⟩;rw [HR4.out,HN4.out,HE4.out];have B11:Hid (Below w7.heap.size w7 w11):=bstep (B10.out.alloc B10.out.size _) hB;have zd:=k2c (n:=W.heap.size) hB (by simp;omega) (hkA zB.out);clear zB z0 z1 zf zL zN;obtain ⟨zB,z0,z1,zf,zL,zN⟩:=zd;have yd:=k2c (n:=W.heap.size+1) hB (by simp;omega) (hkA yB.out);clear yB y0 y1 yf yL yN;obtain ⟨yB,y0,y1,yf,yL,yN⟩:=yd;have xd:=k2c (n:=w6.heap.size) hB (by simp;omega) (hkA xB.out);clear xB x0 x1 xf xL xN;obtain ⟨xB,x0,x1,xf,xL,xN⟩:=xd;have ud:=k2c (n:=w8.heap.size) hB (by simp;omega) (hkA uB.out);clear uB u0 u1 uf uL uN;obtain ⟨uB,u0,u1,uf,uL,uN⟩:=ud;obtain ⟨tB,t0,t1,tf,tL,tN⟩:=k2c (n:=w10.heap.size) hB (by simp) (halloc1 _ _);clear hB)
              | (go_at_call 17;refine (hlen_c (N7.out.1.choose_spec.below (B9.out.alloc B9.out.size _))).mono ?_;rintro e w' ⟨rfl,hw⟩;obtain rfl:=hw.symm;rw [HLn.out])
              | (go_at_call 15;refine (get_c (N7.out.1.choose_spec.below (B9.out.alloc B9.out.size _)) 1 at').mono ?_;rintro e w10 ⟨rfl,hB⟩;rw [HR3.out,HN3'.out,HE3.out];have B10:Hid (Below w7.heap.size w7 w10):=bstep (B9.out.alloc B9.out.size _) hB;have hz10:=hB.size;have zd:=k2c (n:=W.heap.size) hB (by simp;omega) (hkA zB.out);clear zB z0 z1 zf zL zN;obtain ⟨zB,z0,z1,zf,zL,zN⟩:=zd;have yd:=k2c (n:=W.heap.size+1) hB (by simp;omega) (hkA yB.out);clear yB y0 y1 yf yL yN;obtain ⟨yB,y0,y1,yf,yL,yN⟩:=yd;have xd:=k2c (n:=w6.heap.size) hB (by simp;omega) (hkA xB.out);clear xB x0 x1 xf xL xN;obtain ⟨xB,x0,x1,xf,xL,xN⟩:=xd;obtain ⟨uB,u0,u1,uf,uL,uN⟩:=k2c (n:=w8.heap.size) hB (by simp) (halloc1 _ _);clear hB))
            all_goals go_ret
            all_goals exact ⟨rfl,bstep (bstep B2.out B8.out) (B11.out.alloc B11.out.size _)⟩
          · rw [hr] at hR4;subst hR4 hp
            clear hr
            go_wp2_with (first
              | (go_at_call 15;refine (get_c (N7.out.1.choose_spec.below (B10.out.alloc B10.out.size _)) 2 ot).mono ?_;rintro e w11 ⟨rfl,hB⟩;rw [HR4.out,HN4.out,HE4.out];have B11:Hid (Below w7.heap.size w7 w11):=bstep (B10.out.alloc B10.out.size _) hB;have zd:=k2c (n:=W.heap.size) hB (by simp;omega) (hkA zB.out);clear zB z0 z1 zf zL zN;obtain ⟨zB,z0,z1,zf,zL,zN⟩:=zd;have yd:=k2c (n:=W.heap.size+1) hB (by simp;omega) (hkA yB.out);clear yB y0 y1 yf yL yN;obtain ⟨yB,y0,y1,yf,yL,yN⟩:=yd;have xd:=k2c (n:=w6.heap.size) hB (by simp;omega) (hkA xB.out);clear xB x0 x1 xf xL xN;obtain ⟨xB,x0,x1,xf,xL,xN⟩:=xd;have ud:=k2c (n:=w8.heap.size) hB (by simp;omega) (hkA uB.out);clear uB u0 u1 uf uL uN;obtain ⟨uB,u0,u1,uf,uL,uN⟩:=ud;obtain ⟨tB,t0,t1,tf,tL,tN⟩:=k2c (n:=w10.heap.size) hB (by simp) (halloc1 _ _);clear hB)
              | (go_at_call 17;refine (hlen_c (N7.out.1.choose_spec.below (B9.out.alloc B9.out.size _))).mono ?_;rintro e w' ⟨rfl,hw⟩;obtain rfl:=hw.symm;rw [HLn.out])
              | (go_at_call 15;refine (get_c (N7.out.1.choose_spec.below (B9.out.alloc B9.out.size _)) 1 at').mono ?_;rintro e w10 ⟨rfl,hB⟩;rw [HR3.out,HN3'.out,HE3.out];have B10:Hid (Below w7.heap.size w7 w10):=bstep (B9.out.alloc B9.out.size _) hB;have hz10:=hB.size;have zd:=k2c (n:=W.heap.size) hB (by simp;omega) (hkA zB.out);clear zB z0 z1 zf zL zN;obtain ⟨zB,z0,z1,zf,zL,zN⟩:=zd;have yd:=k2c (n:=W.heap.size+1) hB (by simp;omega) (hkA yB.out);clear yB y0 y1 yf yL yN;obtain ⟨yB,y0,y1,yf,yL,yN⟩:=yd;have xd:=k2c (n:=w6.heap.size) hB (by simp;omega) (hkA xB.out);clear xB x0 x1 xf xL xN;obtain ⟨xB,x0,x1,xf,xL,xN⟩:=xd;obtain ⟨uB,u0,u1,uf,uL,uN⟩:=k2c (n:=w8.heap.size) hB (by simp) (halloc1 _ _);clear hB))
            all_goals go_ret
            all_goals exact ⟨rfl,bstep (bstep B2.out B8.out) (B11.out.alloc B11.out.size _)⟩
        · clear F5
          go_wp2_with (first
            | (go_at_call 15;refine (get_c (N7.out.1.choose_spec.below (B10.out.alloc B10.out.size _)) 2 ot).mono ?_;rintro e w11 ⟨rfl,hB⟩;rw [HR4.out,HN4.out,HE4.out];have B11:Hid (Below w7.heap.size w7 w11):=bstep (B10.out.alloc B10.out.size _) hB;have zd:=k2c (n:=W.heap.size) hB (by simp;omega) (hkA zB.out);clear zB z0 z1 zf zL zN;obtain ⟨zB,z0,z1,zf,zL,zN⟩:=zd;have yd:=k2c (n:=W.heap.size+1) hB (by simp;omega) (hkA yB.out);clear yB y0 y1 yf yL yN;obtain ⟨yB,y0,y1,yf,yL,yN⟩:=yd;have xd:=k2c (n:=w6.heap.size) hB (by simp;omega) (hkA xB.out);clear xB x0 x1 xf xL xN;obtain ⟨xB,x0,x1,xf,xL,xN⟩:=xd;have ud:=k2c (n:=w8.heap.size) hB (by simp;omega) (hkA uB.out);clear uB u0 u1 uf uL uN;obtain ⟨uB,u0,u1,uf,uL,uN⟩:=ud;obtain ⟨tB,t0,t1,tf,tL,tN⟩:=k2c (n:=w10.heap.size) hB (by simp) (halloc1 _ _);clear hB)
            | (go_at_call 17;refine (hlen_c (N7.out.1.choose_spec.below (B9.out.alloc B9.out.size _))).mono ?_;rintro e w' ⟨rfl,hw⟩;obtain rfl:=hw.symm;rw [HLn.out])
            | (go_at_call 15;refine (get_c (N7.out.1.choose_spec.below (B9.out.alloc B9.out.size _)) 1 at').mono ?_;rintro e w10 ⟨rfl,hB⟩;rw [HR3.out,HN3'.out,HE3.out];have B10:Hid (Below w7.heap.size w7 w10):=bstep (B9.out.alloc B9.out.size _) hB;have hz10:=hB.size;have zd:=k2c (n:=W.heap.size) hB (by simp;omega) (hkA zB.out);clear zB z0 z1 zf zL zN;obtain ⟨zB,z0,z1,zf,zL,zN⟩:=zd;have yd:=k2c (n:=W.heap.size+1) hB (by simp;omega) (hkA yB.out);clear yB y0 y1 yf yL yN;obtain ⟨yB,y0,y1,yf,yL,yN⟩:=yd;have xd:=k2c (n:=w6.heap.size) hB (by simp;omega) (hkA xB.out);clear xB x0 x1 xf xL xN;obtain ⟨xB,x0,x1,xf,xL,xN⟩:=xd;obtain ⟨uB,u0,u1,uf,uL,uN⟩:=k2c (n:=w8.heap.size) hB (by simp) (halloc1 _ _);clear hB))
          all_goals go_ret
          all_goals exact ⟨rfl,bstep (bstep B2.out B8.out) (B11.out.alloc B11.out.size _)⟩
    · have e2:=ary_2 hE1 hE2
      have n2:aryN (wld l) new d nm n=0:=by rw [aryN,if_neg hE2]
      have n1:aryN (wld l) [] d nm n=1:=by rw [aryN,if_pos hE1];rfl
      rw [hE1,e2,n1,n2]
      clear hE1 hE2 e2 n1 n2
      go_wp2
      go_ret
      exact ⟨rfl,BF.out⟩
  · have n1:aryN (wld l) [] d nm n=0:=by rw [aryN,if_neg hE1]
    obtain ⟨E1,e1⟩:∃ E1,aryE (wld l) [] d nm n=E1:=⟨_,rfl⟩
    rw [n1,e1]
    rw [e1] at hE1
    clear e1 n1
    go_wp2
    go_ret
    exact ⟨rfl,BF.out⟩
end Go.Proofs.YtfnmmpkhopochaaGreat
