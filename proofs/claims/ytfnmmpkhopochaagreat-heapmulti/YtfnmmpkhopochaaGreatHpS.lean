import Derived.Test.YtfnmmpkhopochaaGreatHpR
set_option maxRecDepth 100000
namespace Go.Proofs.YtfnmmpkhopochaaGreat
open Go.RowKit Go.Maps
structure MuC (w3:World) (hb:Nat) (d:Int) (nm:ByteArray) (A B:Nat):Prop where
  l1:∀ w,Below w3.heap.size w3 w→Calls Tryz.prog 22 #[.pointer (some ⟨hb,0,none⟩),.int .i64 1] w fun e w'=>e=.returned (.tuple #[.int .i64 (A:Int),.int .i64 0])∧Below w.heap.size w w'
  t1:∀ w,Below w3.heap.size w3 w→Calls Tryz.prog 18 #[.pointer (some ⟨hb,0,none⟩),.int .i64 1] w fun e w'=>e=.returned (.tuple #[.agg #[.int .i64 d,.string nm],.int .i64 0])∧Below w.heap.size w w'
  n1:∀ w,Below w3.heap.size w3 w→Calls Tryz.prog 17 #[.pointer (some ⟨hb,0,none⟩)] w fun e w'=>e=.returned (.int .i64 ((1+A:Nat):Int))∧w'=w
  s1:∀ w,Below w3.heap.size w3 w→Calls Tryz.prog 21 #[.pointer (some ⟨hb,0,none⟩)] w fun e w'=>e=.returned (.int .i64 ((A+A * B:Nat):Int))∧w'=w
  g1:∀ (i:Nat) w,i<A→Below w3.heap.size w3 w→Calls Tryz.prog 15 #[.pointer (some ⟨hb,0,none⟩),.int .i64 1,.int .i64 (i:Int)] w fun e w'=>e=.returned (.tuple #[.agg #[.bool true,.int .i64 (2+(i:Int))],.int .i64 0])∧Below w.heap.size w w'
  l2:∀ (i:Nat) w,i<A→Below w3.heap.size w3 w→Calls Tryz.prog 22 #[.pointer (some ⟨hb,0,none⟩),.int .i64 (2+(i:Int))] w fun e w'=>e=.returned (.tuple #[.int .i64 (B:Int),.int .i64 0])∧Below w.heap.size w w'
  t2:∀ (i:Nat) w,i<A→Below w3.heap.size w3 w→Calls Tryz.prog 18 #[.pointer (some ⟨hb,0,none⟩),.int .i64 (2+(i:Int))] w fun e w'=>e=.returned (.tuple #[.agg #[.int .i64 (d - 1),.string nm],.int .i64 0])∧Below w.heap.size w w'
  g2:∀ (i:Nat) w,i<A→0<B→Below w3.heap.size w3 w→Calls Tryz.prog 15 #[.pointer (some ⟨hb,0,none⟩),.int .i64 (2+(i:Int)),.int .i64 ((B:Int) - 1)] w fun e w'=>e=.returned (.tuple #[.agg #[.bool (rfB (d - 1) nm),.int .i64 0],.int .i64 0])∧Below w.heap.size w w'
theorem mu_calls {w3:World} {S:Nat→Prop} {hb b:Nat} {ov:Value} {os:List Ob} (h:HpAt w3 S hb b ov os) {d:Int} {nm:ByteArray} {A B:Nat} (F:MuF os d nm A B) (hd:2≤d):MuC w3 hb d nm A B:=by
  obtain ⟨o1,a1,a2,a3,a4⟩:=F.one
  have r1:arO os 1=some o1:=by rw [arO,a1];simp only [Option.bind_some];rw [if_neg (by omega)]
  have i2:∀ i:Nat,(2:Int)+(i:Int)=((2+i:Nat):Int):=fun i=>by omega
  have r2:∀ i,i<A→∃ o,arO os (2+(i:Int))=some o∧obI os (2+(i:Int))=some o∧o.d=d - 1∧o.nm=nm∧o.xs=List.replicate B 0:=fun i hi=>by
    obtain ⟨o,b1,b2,b3,b4⟩:=F.two i hi
    rw [i2]
    exact ⟨o,by rw [arO,b1];simp only [Option.bind_some];rw [if_neg (by omega)],b1,b2,b3,b4⟩
  have hA:o1.xs.length=A:=by rw [a4];simp
  refine ⟨fun w hl=>?_,fun w hl=>?_,fun w hl=>?_,fun w hl=>?_,fun i w hi hl=>?_,fun i w hi hl=>?_,fun i w hi hl=>?_,fun i w hi hB hl=>?_⟩
  · have:=length_c (h.below hl) 1
    rw [arF_some r1,r1,lnO,hA] at this
    exact this
  · have:=typeOf_c (h.below hl) 1
    rw [obF,a1,tyO,a2,a3] at this
    exact this
  · have:=hlen_c (h.below hl)
    rw [F.len] at this
    exact this
  · have:=hwds_c (h.below hl)
    rw [F.wds] at this
    exact this
  · have:=get_c (h.below hl) 1 (i:Int)
    have hi2:(0:Int)≤(i:Int)∧(i:Int)<(o1.xs.length:Int):=by rw [hA];omega
    have e1:geE os 1 (i:Int)=0:=by rw [geE,r1];simp only;rw [if_pos hi2]
    have e2:geR os 1 (i:Int)=true:=by rw [geR,r1];simp only;rw [if_pos hi2,rfB,a2];simp;omega
    have e3:geN os 1 (i:Int)=2+(i:Int):=by rw [geN,r1];simp only;rw [if_pos hi2,a4];simp [hi]
    rw [e1,e2,e3] at this
    exact this
  · obtain ⟨o,b1,b2,b3,b4,b5⟩:=r2 i hi
    have:=length_c (h.below hl) (2+(i:Int))
    rw [arF_some b1,b1,lnO,b5,List.length_replicate] at this
    exact this
  · obtain ⟨o,b1,b2,b3,b4,b5⟩:=r2 i hi
    have:=typeOf_c (h.below hl) (2+(i:Int))
    rw [obF,b2,tyO,b3,b4] at this
    exact this
  · obtain ⟨o,b1,b2,b3,b4,b5⟩:=r2 i hi
    have:=get_c (h.below hl) (2+(i:Int)) ((B:Int) - 1)
    have hi2:(0:Int)≤(B:Int) - 1∧(B:Int) - 1<(o.xs.length:Int):=by rw [b5,List.length_replicate];omega
    have e1:geE os (2+(i:Int)) ((B:Int) - 1)=0:=by rw [geE,b1];simp only;rw [if_pos hi2]
    have e2:geR os (2+(i:Int)) ((B:Int) - 1)=rfB (d - 1) nm:=by rw [geR,b1];simp only;rw [if_pos hi2,b3,b4]
    have e3:geN os (2+(i:Int)) ((B:Int) - 1)=0:=by
      rw [geN,b1];simp only;rw [if_pos hi2,b5]
      cases e:(List.replicate B (0:Int))[((B:Int) - 1).toNat]? with
      | none=>rfl
      | some x =>
        rw [List.getElem?_replicate] at e
        split at e
        · cases e;rfl
        · cases e
    rw [e1,e2,e3] at this
    exact this
set_option maxHeartbeats 8000000 in
theorem multi_yes (W:World) (d:Int) (A B P:Nat) (nm:ByteArray) (hz:nm.size≤maxLen) (HE:Hid (mulE (wld []) [] d nm [(A:Int),(B:Int)]=0)) (h2:2≤d) (h255:d≤255) (hA:1+A≤1000) (HP:Hid (A * B=P)) (hP:A+P≤20000) :
    Calls Tryz.prog 6 #[.agg #[.int .i64 d,.string nm],.int .i64 (A:Int),.int .i64 (B:Int)] W fun e w'=>e=.returned (.bool true)∧Below W.heap.size W w':=by
  have B0:Hid (Below W.heap.size W (W.alloc (.cells #[.int .i64 d,.string nm] 40))):=(Below.refl _ _).alloc (Nat.le_refl _) _
  have HO:Hid (∀ w:World,Calls Tryz.prog 9 #[.slice none 0 0] w fun e w'=>∃ b hb V,e=.returned (.tuple #[.pointer (some ⟨b,0,none⟩),.pointer (some ⟨hb,0,none⟩)])∧Below w.heap.size w V∧WAt b (wld []) V∧Below V.heap.size V w'∧V.heap.size≤hb∧HpAt w' (fun k=>k=hb) hb b (.slice none 0 0) []):=fun w=>opened_c _ [] w (clss_nil w)
  have hPI:(A:Int) * (B:Int)=(P:Int):=by rw [← HP.out];exact (Int.natCast_mul A B).symm
  have HSM:Hid (∀ w:World,Calls Tryz.prog 23 #[.agg #[.int .i64 d,.string nm],.agg #[.int .i64 d,.string nm]] w fun e w'=>e=.returned (.bool true)∧Below w.heap.size w w'):=fun w=>by
    have:=tySame_any d d nm nm w
    simpa using this
  go_enter Tryz.func6,Tryz.ntmps6
  go_wp2_with (first
    | (go_at_call 8;refine (awake20_c _).mono ?_;rintro e w1 ⟨rfl,hB⟩;have B1:Hid (Below W.heap.size W w1):=bstep B0.out hB;obtain ⟨zB,z0,z1,zf,zL,zN⟩:=k2c (n:=W.heap.size) hB;clear hB)
    | (go_at_call 9;refine (HO.out _).mono ?_;rintro e w2 ⟨bb,hb,V,rfl,hb1,hw1,hb2,hz1,hp1⟩;have B2:Hid (Below W.heap.size W V):=bstep B1.out hb1;have B3:Hid (Below V.heap.size V w2):=hb2;have W1:Hid (WAt bb (wld []) V):=hw1;have P1:Hid (HpAt w2 (fun k=>k=hb) hb bb (.slice none 0 0) []):=hp1;have HV:Hid (W.heap.size<V.heap.size):=Nat.lt_of_lt_of_le zL hb1.size;have zd:=k2c (n:=W.heap.size) (bstep hb1 hb2) zL zB.out;clear zB z0 z1 zf zL zN;obtain ⟨zB,z0,z1,zf,zL,zN⟩:=zd;clear hb1 hw1 hb2 hp1 HO)
    | (go_at_call 20;refine (multi_c (P1.out.below ((Below.refl _ _).alloc (Nat.le_refl _) _)) (W1.out.below (B3.out.alloc B3.out.size _)) d nm hz (some ⟨w2.heap.size,0,none⟩) 2 2 [(A:Int),(B:Int)] rfl (Nat.le_refl _) (fun _=>⟨_,_,rfl,two_at _ _ _,fun x=>Nat.ne_of_lt P1.out.cells.2.2.2.2 x.symm⟩)).mono ?_;rintro e w3 ⟨rfl,new,hn,hm⟩;rw [show mulN (wld []) [] d nm [(A:Int),(B:Int)]=1 by (rw [mulN,HE.out];rfl),HE.out];have hF:MuF new d nm A B:=mu_facts (by rw [hm,mulL,HE.out];rfl);have N3:Hid (HpN (fun k=>k=hb) w2 w3 hb bb new):=hn.pre ((Below.refl _ _).alloc (Nat.le_refl _) _);have MC:Hid (MuC w3 hb d nm A B):=mu_calls N3.out.1.choose_spec hF h2;have B4:Hid (Below W.heap.size W w3):=bstep B2.out (own_sz N3.out.2 B3.out (fun k hk=>by rw [hk];exact hz1));have zt:=(N3.out.2.blk W.heap.size zL (fun x=>by have:=HV.out;omega)).trans zB.out;clear zB z0 z1 zf zL zN;have zB:Hid _:=zt;obtain ⟨z0,z1,zf,zL⟩:=r2c zt;clear zt hn hm hF HE)
    | (go_at_call 22;refine (MC.out.l1 _ (Below.refl _ _)).mono ?_;rintro e w4 ⟨rfl,hB⟩;have B5:Hid (Below w3.heap.size w3 w4):=hB;have zd:=k2c (n:=W.heap.size) hB zL zB.out;clear zB z0 z1 zf zL;obtain ⟨zB,z0,z1,zf,zL,zN⟩:=zd;clear hB)
    | (go_at_call 18;refine (MC.out.t1 _ B5.out).mono ?_;rintro e w5 ⟨rfl,hB⟩;have B6:Hid (Below w3.heap.size w3 w5):=bstep B5.out hB;have zd:=k2c (n:=W.heap.size) hB zL zB.out;clear zB z0 z1 zf zL zN;obtain ⟨zB,z0,z1,zf,zL,zN⟩:=zd;clear hB)
    | (go_at_call 23;refine (HSM.out _).mono ?_;rintro e w6 ⟨rfl,hB⟩;have B7:Hid (Below w3.heap.size w3 w6):=bstep (B6.out.alloc B6.out.size _) hB;have zd:=k2c (n:=W.heap.size) hB (by simp;omega) (hkA zB.out);clear zB z0 z1 zf zL zN;obtain ⟨zB,z0,z1,zf,zL,zN⟩:=zd;clear hB)
    | (go_at_call 17;refine (MC.out.n1 _ B7.out).mono ?_;rintro e w' ⟨rfl,hw⟩;obtain rfl:=hw.symm)
    | (go_at_call 21;refine (MC.out.s1 _ B7.out).mono ?_;rintro e w' ⟨rfl,hw⟩;obtain rfl:=hw.symm;rw [HP.out]))
  go_loopw [15] (fun iv wr=>∃ i:Nat,iv=.int .i64 i∧i≤A∧Hid (Below w3.heap.size w3 wr)∧Hid (wr.heap[W.heap.size]?=some (.cells #[.int .i64 d,.string nm] 40 (0,0)))) (fun iv _=>A - (intOf iv).toNat)
  case atStart=>exact ⟨0,rfl,Nat.zero_le _,B7,zB⟩
  case round =>
    obtain ⟨i,rfl,hi,HB,HZ⟩:=hrel
    clear z0 z1 zf zL zN zB B7
    obtain ⟨z0,z1,zf,zL⟩:=r2c HZ.out
    by_cases hlt:i<A
    · have hltI:(i:Int)<(A:Int):=by omega
      by_cases hb0:0<B
      · have hb0I:(0:Int)<(B:Int):=by omega
        have hBb:B≤20000:=by have:=Nat.le_mul_of_pos_left B (show 0<A by omega);rw [HP.out] at this;omega
        obtain ⟨C,hC⟩:∃ C,rfB (d - 1) nm=C:=⟨_,rfl⟩
        have HC:Hid (rfB (d - 1) nm=C):=hC
        have MC2:Hid (∀ w,Below w3.heap.size w3 w→Calls Tryz.prog 15 #[.pointer (some ⟨hb,0,none⟩),.int .i64 (2+(i:Int)),.int .i64 ((B:Int) - 1)] w fun e w'=>e=.returned (.tuple #[.agg #[.bool C,.int .i64 0],.int .i64 0])∧Below w.heap.size w w'):=fun w hw=>by rw [← hC];exact MC.out.g2 i w hlt hb0 hw
        clear hC
        by_cases hd2:2<d
        · obtain rfl:C=true:=by rw [← HC.out,rfB];simp;omega
          clear HC
          go_wp2_with (first
        | (go_at_call 15;refine (MC2.out _ (B10.out.alloc B10.out.size _)).mono ?_;rintro e w11 ⟨rfl,hB⟩;have B11:Hid (Below w3.heap.size w3 w11):=bstep (B10.out.alloc B10.out.size _) hB;have zd:=k2c (n:=W.heap.size) hB (by simp;omega) (hkA zB.out);clear zB z0 z1 zf zL zN;obtain ⟨zB,z0,z1,zf,zL,zN⟩:=zd;clear hB)
        | (go_at_call 15;refine (MC.out.g1 i _ hlt HB.out).mono ?_;rintro e w8 ⟨rfl,hB⟩;have B8:Hid (Below w3.heap.size w3 w8):=bstep HB.out hB;have zd:=k2c (n:=W.heap.size) hB zL HZ.out;clear z0 z1 zf zL;obtain ⟨zB,z0,z1,zf,zL,zN⟩:=zd;clear hB)
        | (go_at_call 22;refine (MC.out.l2 i _ hlt (B8.out.alloc B8.out.size _)).mono ?_;rintro e w9 ⟨rfl,hB⟩;have B9:Hid (Below w3.heap.size w3 w9):=bstep (B8.out.alloc B8.out.size _) hB;obtain ⟨vB,v0,v1,vf,vL,vN⟩:=k2c (n:=w8.heap.size) hB (by simp) (halloc1 _ _);have L8:Hid (W.heap.size<w8.heap.size):=zL;have zd:=k2c (n:=W.heap.size) hB (by simp;omega) (hkA zB.out);clear zB z0 z1 zf zL zN;obtain ⟨zB,z0,z1,zf,zL,zN⟩:=zd;clear hB)
        | (go_at_call 18;refine (MC.out.t2 i _ hlt B9.out).mono ?_;rintro e w10 ⟨rfl,hB⟩;have B10:Hid (Below w3.heap.size w3 w10):=bstep B9.out hB;have vd:=k2c (n:=w8.heap.size) hB vL vB.out;clear vB v0 v1 vf vL vN;obtain ⟨vB,v0,v1,vf,vL,vN⟩:=vd;have zd:=k2c (n:=W.heap.size) hB zL zB.out;clear zB z0 z1 zf zL zN;obtain ⟨zB,z0,z1,zf,zL,zN⟩:=zd;clear hB))
          go_roundw
          case rel=>exact ⟨i+1,by go_num,by omega,(by first|exact B11|(rw [Hid];exact B11.out.alloc B11.out.size _)),(by first|exact zB|(rw [Hid];exact hkA zB.out))⟩
          case measure=>simp [intOf];omega
        · obtain rfl:d=2:=by omega
          by_cases hnm:nm.toList=[]
          · obtain rfl:C=false:=by rw [← HC.out,rfB];simp [hnm]
            clear HC
            go_wp2_with (first
        | (go_at_call 15;refine (MC2.out _ (B10.out.alloc B10.out.size _)).mono ?_;rintro e w11 ⟨rfl,hB⟩;have B11:Hid (Below w3.heap.size w3 w11):=bstep (B10.out.alloc B10.out.size _) hB;have zd:=k2c (n:=W.heap.size) hB (by simp;omega) (hkA zB.out);clear zB z0 z1 zf zL zN;obtain ⟨zB,z0,z1,zf,zL,zN⟩:=zd;clear hB)
        | (go_at_call 15;refine (MC.out.g1 i _ hlt HB.out).mono ?_;rintro e w8 ⟨rfl,hB⟩;have B8:Hid (Below w3.heap.size w3 w8):=bstep HB.out hB;have zd:=k2c (n:=W.heap.size) hB zL HZ.out;clear z0 z1 zf zL;obtain ⟨zB,z0,z1,zf,zL,zN⟩:=zd;clear hB)
        | (go_at_call 22;refine (MC.out.l2 i _ hlt (B8.out.alloc B8.out.size _)).mono ?_;rintro e w9 ⟨rfl,hB⟩;have B9:Hid (Below w3.heap.size w3 w9):=bstep (B8.out.alloc B8.out.size _) hB;obtain ⟨vB,v0,v1,vf,vL,vN⟩:=k2c (n:=w8.heap.size) hB (by simp) (halloc1 _ _);have L8:Hid (W.heap.size<w8.heap.size):=zL;have zd:=k2c (n:=W.heap.size) hB (by simp;omega) (hkA zB.out);clear zB z0 z1 zf zL zN;obtain ⟨zB,z0,z1,zf,zL,zN⟩:=zd;clear hB)
        | (go_at_call 18;refine (MC.out.t2 i _ hlt B9.out).mono ?_;rintro e w10 ⟨rfl,hB⟩;have B10:Hid (Below w3.heap.size w3 w10):=bstep B9.out hB;have vd:=k2c (n:=w8.heap.size) hB vL vB.out;clear vB v0 v1 vf vL vN;obtain ⟨vB,v0,v1,vf,vL,vN⟩:=vd;have zd:=k2c (n:=W.heap.size) hB zL zB.out;clear zB z0 z1 zf zL zN;obtain ⟨zB,z0,z1,zf,zL,zN⟩:=zd;clear hB))
            go_roundw
            case rel=>exact ⟨i+1,by go_num,by omega,(by first|exact B11|(rw [Hid];exact B11.out.alloc B11.out.size _)),(by first|exact zB|(rw [Hid];exact hkA zB.out))⟩
            case measure=>simp [intOf];omega
          · obtain rfl:C=true:=by rw [← HC.out,rfB];simp [hnm]
            have hne:nm.toList.isEmpty=false:=by simpa using hnm
            clear HC hnm
            go_wp2_with (first
        | (go_at_call 15;refine (MC2.out _ (B10.out.alloc B10.out.size _)).mono ?_;rintro e w11 ⟨rfl,hB⟩;have B11:Hid (Below w3.heap.size w3 w11):=bstep (B10.out.alloc B10.out.size _) hB;have zd:=k2c (n:=W.heap.size) hB (by simp;omega) (hkA zB.out);clear zB z0 z1 zf zL zN;obtain ⟨zB,z0,z1,zf,zL,zN⟩:=zd;clear hB)
        | (go_at_call 15;refine (MC.out.g1 i _ hlt HB.out).mono ?_;rintro e w8 ⟨rfl,hB⟩;have B8:Hid (Below w3.heap.size w3 w8):=bstep HB.out hB;have zd:=k2c (n:=W.heap.size) hB zL HZ.out;clear z0 z1 zf zL;obtain ⟨zB,z0,z1,zf,zL,zN⟩:=zd;clear hB)
        | (go_at_call 22;refine (MC.out.l2 i _ hlt (B8.out.alloc B8.out.size _)).mono ?_;rintro e w9 ⟨rfl,hB⟩;have B9:Hid (Below w3.heap.size w3 w9):=bstep (B8.out.alloc B8.out.size _) hB;obtain ⟨vB,v0,v1,vf,vL,vN⟩:=k2c (n:=w8.heap.size) hB (by simp) (halloc1 _ _);have L8:Hid (W.heap.size<w8.heap.size):=zL;have zd:=k2c (n:=W.heap.size) hB (by simp;omega) (hkA zB.out);clear zB z0 z1 zf zL zN;obtain ⟨zB,z0,z1,zf,zL,zN⟩:=zd;clear hB)
        | (go_at_call 18;refine (MC.out.t2 i _ hlt B9.out).mono ?_;rintro e w10 ⟨rfl,hB⟩;have B10:Hid (Below w3.heap.size w3 w10):=bstep B9.out hB;have vd:=k2c (n:=w8.heap.size) hB vL vB.out;clear vB v0 v1 vf vL vN;obtain ⟨vB,v0,v1,vf,vL,vN⟩:=vd;have zd:=k2c (n:=W.heap.size) hB zL zB.out;clear zB z0 z1 zf zL zN;obtain ⟨zB,z0,z1,zf,zL,zN⟩:=zd;clear hB))
            go_roundw
            case rel=>exact ⟨i+1,by go_num,by omega,(by first|exact B11|(rw [Hid];exact B11.out.alloc B11.out.size _)),(by first|exact zB|(rw [Hid];exact hkA zB.out))⟩
            case measure=>simp [intOf];omega
      · have hb0I:¬ (0:Int)<(B:Int):=by omega
        go_wp2_with (first
        | (go_at_call 15;refine (MC.out.g1 i _ hlt HB.out).mono ?_;rintro e w8 ⟨rfl,hB⟩;have B8:Hid (Below w3.heap.size w3 w8):=bstep HB.out hB;have zd:=k2c (n:=W.heap.size) hB zL HZ.out;clear z0 z1 zf zL;obtain ⟨zB,z0,z1,zf,zL,zN⟩:=zd;clear hB)
        | (go_at_call 22;refine (MC.out.l2 i _ hlt (B8.out.alloc B8.out.size _)).mono ?_;rintro e w9 ⟨rfl,hB⟩;have B9:Hid (Below w3.heap.size w3 w9):=bstep (B8.out.alloc B8.out.size _) hB;obtain ⟨vB,v0,v1,vf,vL,vN⟩:=k2c (n:=w8.heap.size) hB (by simp) (halloc1 _ _);have L8:Hid (W.heap.size<w8.heap.size):=zL;have zd:=k2c (n:=W.heap.size) hB (by simp;omega) (hkA zB.out);clear zB z0 z1 zf zL zN;obtain ⟨zB,z0,z1,zf,zL,zN⟩:=zd;clear hB)
        | (go_at_call 18;refine (MC.out.t2 i _ hlt B9.out).mono ?_;rintro e w10 ⟨rfl,hB⟩;have B10:Hid (Below w3.heap.size w3 w10):=bstep B9.out hB;have vd:=k2c (n:=w8.heap.size) hB vL vB.out;clear vB v0 v1 vf vL vN;obtain ⟨vB,v0,v1,vf,vL,vN⟩:=vd;have zd:=k2c (n:=W.heap.size) hB zL zB.out;clear zB z0 z1 zf zL zN;obtain ⟨zB,z0,z1,zf,zL,zN⟩:=zd;clear hB))
        go_roundw
        case rel=>exact ⟨i+1,by go_num,by omega,(by first|exact B10|(rw [Hid];exact B10.out.alloc B10.out.size _)),(by first|exact zB|(rw [Hid];exact hkA zB.out))⟩
        case measure=>simp [intOf];omega
    · obtain rfl:i=A:=by omega
      have hltI:¬ (i:Int)<(i:Int):=by omega
      go_wp2
      go_ret
      exact ⟨rfl,B4.out.trans (HB.out.mono B4.out.size)⟩
theorem HeapMulti_any (d:Int) (nm:ByteArray) (a b:Int) (W:World) (hz:nm.size≤maxLen):Calls Tryz.prog 6 #[.agg #[.int .i64 d,.string nm],.int .i64 a,.int .i64 b] W fun e w'=>e=.returned (.bool true)∧Below W.heap.size W w':=by
  by_cases h:mulE (wld []) [] d nm [a,b]=0
  · obtain ⟨A,B,rfl,rfl,h1,h2,h3,h4⟩:=mul_ok h
    exact multi_yes W d A B (A * B) nm hz h h1 h2 h3 rfl h4
  · exact multi_no W d a b _ nm hz h rfl
end Go.Proofs.YtfnmmpkhopochaaGreat
