import Derived.Test.YtenpnkkkjjdccaaGreatSiX
set_option maxRecDepth 100000
namespace Go.Proofs.YtenpnkkkjjdccaaGreat
open Go.RowKit Go.Maps
theorem sameT_c (a b:Int) (W:World):Calls Tryz.prog 14 #[.agg #[.int .i64 a,.int .i64 b],.agg #[.int .i64 a,.int .i64 b]] W fun e w'=>e=.returned (.bool true)∧Below W.heap.size W w':=by
  go_enter Tryz.func14,Tryz.ntmps14
  go_wp2
  go_ret
  exact ⟨rfl,by first|exact Below.refl _ _|exact ((Below.refl _ _).alloc (Nat.le_refl _) _)|exact ((Below.refl _ _).alloc (Nat.le_refl _) _).alloc (by simp) _⟩
set_option maxHeartbeats 8000000 in
theorem wsB3 (ps:List Plc) (W:World) (v:Value) (d k1 k2:Int) (n ds:ByteArray) (fN:Int→ByteArray) (fF fE:Int→Int) (fI:Int→Bool) (fX:Int→Int→Bool)
    (HB:Hid (∀ w:World,Below W.heap.size W w→Calls Tryz.prog 6 #[v] w fun e w'=>(∃ b,e=.returned (.pointer (some ⟨b,0,none⟩))∧WAt b ps w')∧Below w.heap.size w w'))
    (HCl:Hid (∀ (x:Int) b w,WAt b ps w→Calls Tryz.prog 7 #[.pointer (some ⟨b,0,none⟩),.int .i64 x] w fun e w'=>(∃ su a1 n1 c1 ld a2 n2 c2,e=.returned (.tuple #[.agg #[.string (fN x),.string su,.slice a1 n1 c1,.int .i64 (fF x),.int .i64 ld,.slice a2 n2 c2],.int .i64 (fE x)]))∧Below w.heap.size w w'))
    (HI:Hid (∀ (x:Int) b w,WAt b ps w→Calls Tryz.prog 8 #[.pointer (some ⟨b,0,none⟩),.int .i64 x] w fun e w'=>e=.returned (.bool (fI x))∧Below w.heap.size w w'))
    (HX:Hid (∀ (x y:Int) b w,WAt b ps w→Calls Tryz.prog 9 #[.pointer (some ⟨b,0,none⟩),.int .i64 x,.int .i64 y] w fun e w'=>e=.returned (.bool (fX x y))∧Below w.heap.size w w'))
    (h0:fE d=0) (h1:fE k1=0) (h2:fE k2=0) (h3:(bits .and .i64 (fF d) 32 == 0)=false) (h4:¬ k1=d) (h5:¬ k2=d) (h6:(n.toList == [60,105,110,105,116,62])=false)
    (c0:fI d=false) (c1:fI k1=false) (c2:fI k2=false) (c3:fX d k1=true) (c4:fX d k2=true)
    (HN1:Hid (∀ b lb w2 w,Bs ps b lb w2 w→Calls Tryz.prog 11 #[.pointer (some ⟨lb,0,none⟩),.int .i64 d,.int .i64 3,.agg #[.bool false,.string (fN k1),.string n,.string ds],.int .i64 1] w fun e w'=>∃ sb,e=.returned (.tuple #[.pointer (some ⟨sb,0,none⟩),.int .i64 0])∧NewS w w' sb lb d (fN k1) n ds∧Below w.heap.size w w'))
    (HN2:Hid (∀ b lb w2 w,Bs ps b lb w2 w→Calls Tryz.prog 11 #[.pointer (some ⟨lb,0,none⟩),.int .i64 d,.int .i64 3,.agg #[.bool false,.string (fN k2),.string n,.string ds],.int .i64 1] w fun e w'=>∃ sb,e=.returned (.tuple #[.pointer (some ⟨sb,0,none⟩),.int .i64 0])∧NewS w w' sb lb d (fN k2) n ds∧Below w.heap.size w w'))
    (m1 m2:Int×Int) (ra rb rc:Int)
    (HL1:Hid (∀ b lb sb pc w2 w,Bs ps b lb w2 w→w2.heap.size≤sb→sb≠lb→SiAt w sb lb d (fN k1) n ds pc 0 none 0 0 0→Calls Tryz.prog 12 #[.pointer (some ⟨sb,0,none⟩)] w fun e w'=>e=.returned (.int .i64 0)∧Rsd w w' sb lb d (fN k1) n ds pc m1 false 0 (fN k1) ((ra,rb),rc)∧Tch (fun k=>k=sb) w w'))
    (HL2:Hid (∀ b lb sb pc w2 w,Bs ps b lb w2 w→w2.heap.size≤sb→sb≠lb→SiAt w sb lb d (fN k2) n ds pc 0 none 0 0 0→Calls Tryz.prog 12 #[.pointer (some ⟨sb,0,none⟩)] w fun e w'=>e=.returned (.int .i64 0)∧Rsd w w' sb lb d (fN k2) n ds pc m2 false 0 (fN k2) ((ra,rb),rc)∧Tch (fun k=>k=sb) w w'))
    (HC4:Hid (∀ b lb sb pc qc tb w2 w,Bs ps b lb w2 w→(w2.heap.size≤sb∧w2.heap.size≤pc∧w2.heap.size≤qc)→(sb≠lb∧pc≠lb∧qc≠lb)→SiAt w sb lb d (fN k1) n ds pc 0 (some ⟨tb,0,none⟩) 0 1 0→TgAt w tb m1.1 m1.2 false 0 (fN k1) ra rb rc→E1 w pc qc 0 0 0→Calls Tryz.prog 13 #[.pointer (some ⟨sb,0,none⟩),.agg #[.int .i64 0,.string (fN d)]] w fun e w'=>e=.returned (.tuple #[.agg #[.int .i64 ra,.int .i64 rb],.int .i64 rc])∧Tch (S3 sb pc qc) w w'))
    (HC5:Hid (∀ b lb sb pc qc tb w2 w,Bs ps b lb w2 w→(w2.heap.size≤sb∧w2.heap.size≤pc∧w2.heap.size≤qc)→(sb≠lb∧pc≠lb∧qc≠lb)→SiAt w sb lb d (fN k2) n ds pc 0 (some ⟨tb,0,none⟩) 0 1 0→TgAt w tb m2.1 m2.2 false 0 (fN k2) ra rb rc→E1 w pc qc 0 0 0→Calls Tryz.prog 13 #[.pointer (some ⟨sb,0,none⟩),.agg #[.int .i64 0,.string (fN d)]] w fun e w'=>e=.returned (.tuple #[.agg #[.int .i64 ra,.int .i64 rb],.int .i64 rc])∧Tch (S3 sb pc qc) w w')) :
    Calls Tryz.prog 3 #[v,.int .i64 d,.int .i64 k1,.int .i64 k2,.string n,.string ds] W fun e w'=>e=.returned (.bool true)∧Below W.heap.size W w':=by
  have HA:Hid (∀ w:World,Calls Tryz.prog 5 #[] w fun e w'=>e=.returned (.bool true)∧Below w.heap.size w w'):=awakeT_c
  have B0:Hid (Below W.heap.size W W):=Below.refl _ _
  have HC1:Hid (∀ b w,WAt b ps w→Calls Tryz.prog 7 #[.pointer (some ⟨b,0,none⟩),.int .i64 d] w fun e w'=>(∃ su a1 n1 c1 ld a2 n2 c2,e=.returned (.tuple #[.agg #[.string (fN d),.string su,.slice a1 n1 c1,.int .i64 (fF d),.int .i64 ld,.slice a2 n2 c2],.int .i64 (fE d)]))∧Below w.heap.size w w'):=HCl.out d
  have HC2:Hid (∀ b w,WAt b ps w→Calls Tryz.prog 7 #[.pointer (some ⟨b,0,none⟩),.int .i64 k1] w fun e w'=>(∃ su a1 n1 c1 ld a2 n2 c2,e=.returned (.tuple #[.agg #[.string (fN k1),.string su,.slice a1 n1 c1,.int .i64 (fF k1),.int .i64 ld,.slice a2 n2 c2],.int .i64 (fE k1)]))∧Below w.heap.size w w'):=HCl.out k1
  have HC3:Hid (∀ b w,WAt b ps w→Calls Tryz.prog 7 #[.pointer (some ⟨b,0,none⟩),.int .i64 k2] w fun e w'=>(∃ su a1 n1 c1 ld a2 n2 c2,e=.returned (.tuple #[.agg #[.string (fN k2),.string su,.slice a1 n1 c1,.int .i64 (fF k2),.int .i64 ld,.slice a2 n2 c2],.int .i64 (fE k2)]))∧Below w.heap.size w w'):=HCl.out k2
  clear HCl
  have HI1:Hid (∀ b w,WAt b ps w→Calls Tryz.prog 8 #[.pointer (some ⟨b,0,none⟩),.int .i64 d] w fun e w'=>e=.returned (.bool (fI d))∧Below w.heap.size w w'):=HI.out d
  have HI2:Hid (∀ b w,WAt b ps w→Calls Tryz.prog 8 #[.pointer (some ⟨b,0,none⟩),.int .i64 k1] w fun e w'=>e=.returned (.bool (fI k1))∧Below w.heap.size w w'):=HI.out k1
  have HI3:Hid (∀ b w,WAt b ps w→Calls Tryz.prog 8 #[.pointer (some ⟨b,0,none⟩),.int .i64 k2] w fun e w'=>e=.returned (.bool (fI k2))∧Below w.heap.size w w'):=HI.out k2
  have HX1:Hid (∀ b w,WAt b ps w→Calls Tryz.prog 9 #[.pointer (some ⟨b,0,none⟩),.int .i64 d,.int .i64 k1] w fun e w'=>e=.returned (.bool (fX d k1))∧Below w.heap.size w w'):=HX.out d k1
  have HX2:Hid (∀ b w,WAt b ps w→Calls Tryz.prog 9 #[.pointer (some ⟨b,0,none⟩),.int .i64 d,.int .i64 k2] w fun e w'=>e=.returned (.bool (fX d k2))∧Below w.heap.size w w'):=HX.out d k2
  clear HI HX
  rw [c0] at HI1
  rw [c1] at HI2
  rw [c2] at HI3
  rw [c3] at HX1
  rw [c4] at HX2
  have g0:(fE d == 0)=true:=by simpa using h0
  have g1:(fE k1 == 0)=true:=by simpa using h1
  have g2:(fE k2 == 0)=true:=by simpa using h2
  have g4:(k1 == d)=false:=by simpa using h4
  have g5:(k2 == d)=false:=by simpa using h5
  have SI:Hid (∀ (a b:Int) (w:World),Calls Tryz.prog 14 #[.agg #[.int .i64 a,.int .i64 b],.agg #[.int .i64 a,.int .i64 b]] w fun e w'=>e=.returned (.bool true)∧Below w.heap.size w w'):=sameT_c
  go_enter Tryz.func3,Tryz.ntmps3
  go_wp2_with (first
    | (go_at_call 5;refine (HA.out _).mono ?_;rintro e w1 ⟨rfl,hb⟩;have B1:Hid (Below W.heap.size W w1):=hb;clear hb HA)
    | (go_at_call 6;refine (HB.out _ B1.out).mono ?_;rintro e w2 ⟨⟨b,rfl,hw⟩,hb⟩;have H2:Hid (WAt b ps w2):=hw;have B2:Hid (Below W.heap.size W w2):=bstep B1.out hb;clear hw hb HB B1)
    | (go_at_call 7;refine (HC1.out _ _ H2.out).mono ?_;rintro e w3 ⟨⟨su3,a3,n3,c3,l3,p3,q3,t3,rfl⟩,hb⟩;have B3:Hid (Below w2.heap.size w2 w3):=hb;clear hb HC1)
    | (go_at_call 7;refine (HC2.out _ _ (H2.out.below (B3.out.alloc B3.out.size _))).mono ?_;rintro e w4 ⟨⟨su4,a4,n4,c4,l4,p4,q4,t4,rfl⟩,hb⟩;have D4:Hid (w4.heap[w3.heap.size]?=some (.cells #[.string (fN d),.string su3,.slice a3 n3 c3,.int .i64 (fF d),.int .i64 l3,.slice p3 q3 t3] 29 (0,0))):=(hb.block w3.heap.size (by simp)).trans (halloc1 _ _);have B4:Hid (Below w2.heap.size w2 w4):=bstep (B3.out.alloc B3.out.size _) hb;clear hb HC2 B3)
    | (go_at_call 7;refine (HC3.out _ _ (H2.out.below (B4.out.alloc B4.out.size _))).mono ?_;rintro e w5 ⟨⟨su5,a5,n5,c5,l5,p5,q5,t5,rfl⟩,hb⟩;have D5:Hid (w5.heap[w3.heap.size]?=some (.cells #[.string (fN d),.string su3,.slice a3 n3 c3,.int .i64 (fF d),.int .i64 l3,.slice p3 q3 t3] 29 (0,0))∧w5.heap[w4.heap.size]?=some (.cells #[.string (fN k1),.string su4,.slice a4 n4 c4,.int .i64 (fF k1),.int .i64 l4,.slice p4 q4 t4] 29 (0,0))):=⟨(hb.block w3.heap.size (by have:=lt_of_blk D4.out;simp;omega)).trans (hkeep D4.out),(hb.block w4.heap.size (by simp)).trans (halloc1 _ _)⟩;have f5:w5.cell? ⟨w3.heap.size,3,none⟩=some (.int .i64 (fF d)):=(cell_of_row w5 _ 3 _ _ _ D5.out.1).trans rfl;have z5:w3.heap.size<w5.heap.size:=lt_of_blk D5.out.1;have B5:Hid (Below w2.heap.size w2 w5):=bstep (B4.out.alloc B4.out.size _) hb;clear hb HC3 B4 D4)
    | (go_at_call 8;refine (HI1.out _ _ (H2.out.below (B5.out.alloc B5.out.size _))).mono ?_;rintro e x0 ⟨rfl,hb⟩;have X0:Hid (Below w2.heap.size w2 x0):=bstep (B5.out.alloc B5.out.size _) hb;have K0:Hid (KT x0 w3.heap.size w4.heap.size w5.heap.size (fN d) (fN k1) (fN k2)):=(show KT (w5.alloc (.cells #[.string (fN k2),.string su5,.slice a5 n5 c5,.int .i64 (fF k2),.int .i64 l5,.slice p5 q5 t5] 29)) w3.heap.size w4.heap.size w5.heap.size (fN d) (fN k1) (fN k2) from ⟨(cell_of_row _ w3.heap.size 0 _ _ _ (hkeep D5.out.1)).trans rfl,(cell_of_row _ w4.heap.size 0 _ _ _ (hkeep D5.out.2)).trans rfl,(cell_of_row _ w5.heap.size 0 _ _ _ (halloc1 _ _)).trans rfl⟩).bel hb;clear hb HI1 f5)
    | (go_at_call 8;refine (HI2.out _ _ (H2.out.below X0.out)).mono ?_;rintro e x1 ⟨rfl,hb⟩;have X1:Hid (Below w2.heap.size w2 x1):=bstep X0.out hb;have K1:Hid (KT x1 w3.heap.size w4.heap.size w5.heap.size (fN d) (fN k1) (fN k2)):=K0.out.bel hb;clear hb HI2 X0 K0)
    | (go_at_call 8;refine (HI3.out _ _ (H2.out.below X1.out)).mono ?_;rintro e x2 ⟨rfl,hb⟩;have X2:Hid (Below w2.heap.size w2 x2):=bstep X1.out hb;have K2:Hid (KT x2 w3.heap.size w4.heap.size w5.heap.size (fN d) (fN k1) (fN k2)):=K1.out.bel hb;clear hb HI3 X1 K1)
    | (go_at_call 9;refine (HX1.out _ _ (H2.out.below X2.out)).mono ?_;rintro e x3 ⟨rfl,hb⟩;have X3:Hid (Below w2.heap.size w2 x3):=bstep X2.out hb;have K3:Hid (KT x3 w3.heap.size w4.heap.size w5.heap.size (fN d) (fN k1) (fN k2)):=K2.out.bel hb;clear hb HX1 X2 K2)
    | (go_at_call 9;refine (HX2.out _ _ (H2.out.below X3.out)).mono ?_;rintro e x4 ⟨rfl,hb⟩;have X4:Hid (Below w2.heap.size w2 x4):=bstep X3.out hb;have K4:Hid (KT x4 w3.heap.size w4.heap.size w5.heap.size (fN d) (fN k1) (fN k2)):=K3.out.bel hb;clear hb HX2 X3 K3)
    | (go_at_call 10;refine (lnew_c b _).mono ?_;rintro e w6 ⟨rfl,hl,hz6,hb⟩;have B6:Hid (Below w2.heap.size w2 w6):=bstep X4.out hb;have K6:=K4.out.bel hb;have HK6:Hid (KT w6 w3.heap.size w4.heap.size w5.heap.size (fN d) (fN k1) (fN k2)):=K6;have ka:=K6.cb;have kl:=K6.lt;have S6:Hid (Bs ps b (x4.heap.size+1) w2 w6):=⟨H2.out,bstep X4.out hb,hl⟩;have hlb:x4.heap.size+1<w6.heap.size:=hz6;clear hl hb X4 K4 K6 hz6)
    | (go_at_call 11;refine (HN1.out _ _ _ _ S6.out).mono ?_;rintro e w7 ⟨sb,rfl,hns,hb⟩;obtain ⟨u1,pc,qc,u2,u3,u4,u5⟩:=hns;have K7:=HK6.out.bel hb;have kb:=K7.cc;have HK7:Hid (KT w7 w3.heap.size w4.heap.size w5.heap.size (fN d) (fN k1) (fN k2)):=K7;have S7:Hid (Bs ps b (x4.heap.size+1) w2 w7):=S6.out.bl hb;have hz7:w6.heap.size≤w7.heap.size:=hb.size;have SS7:Hid (SiAt w7 sb (x4.heap.size+1) d (fN k1) n ds pc 0 none 0 0 0):=u4;have EE7:Hid (E1 w7 pc qc 0 0 0):=u5;have ls:=lt_of_blk u4;have lp:=u5.lt;clear hb HN1 K7 ka HK6 u4 u5)
    | (go_at_call 11;refine (HN2.out _ _ _ _ S7.out).mono ?_;rintro e w8 ⟨sv,rfl,hns,hb⟩;obtain ⟨v1,pv,qv,v2,v3,v4,v5⟩:=hns;have HK8:Hid (KT w8 w3.heap.size w4.heap.size w5.heap.size (fN d) (fN k1) (fN k2)):=HK7.out.bel hb;have S8:Hid (Bs ps b (x4.heap.size+1) w2 w8):=S7.out.bl hb;have hz8:w7.heap.size≤w8.heap.size:=hb.size;have SS8:Hid (SiAt w8 sb (x4.heap.size+1) d (fN k1) n ds pc 0 none 0 0 0):=SS7.out.keep (hb.block _ ls);have EE8:Hid (E1 w8 pc qc 0 0 0):=EE7.out.bel hb;have ST8:Hid (SiAt w8 sv (x4.heap.size+1) d (fN k2) n ds pv 0 none 0 0 0):=v4;have ET8:Hid (E1 w8 pv qv 0 0 0):=v5;have lsv:=lt_of_blk v4;have lpv:=v5.lt;have nse:=ne_se SS8.out EE8.out;have nte:=ne_se v4 v5;have hz2:w2.heap.size≤w6.heap.size:=B6.out.size;clear hb HN2 kb v4 v5 SS7 EE7 HK7 S7 S6)
    | (go_at_call 12;refine (HL1.out _ _ _ _ _ _ S8.out (by omega) (by omega) SS8.out).mono ?_;rintro e w9 ⟨rfl,hr,ht⟩;obtain ⟨tb,htb,hs9,hg9⟩:=hr;have S9:Hid (Bs ps b (x4.heap.size+1) w2 w9):=S8.out.tch ht (fun k e=>by omega);have T9:Hid (Tch (fun k=>k=sb) w8 w9):=ht;have z9:=ht.size;have ltb:=lt_of_blk hg9;have SS9:Hid (SiAt w9 sb (x4.heap.size+1) d (fN k1) n ds pc 0 (some ⟨tb,0,none⟩) 0 1 0):=hs9;have GT9:Hid (TgAt w9 tb m1.1 m1.2 false 0 (fN k1) ra rb rc):=hg9;clear ht hs9 hg9 HL1)
    | (go_at_call 12;refine (HL2.out _ _ _ _ _ _ S9.out (by omega) (by omega) (ST8.out.keep (T9.out.blk sv lsv (by omega)))).mono ?_;rintro e w10 ⟨rfl,hr,ht⟩;obtain ⟨tv,htv,hs10,hg10⟩:=hr;have S10:Hid (Bs ps b (x4.heap.size+1) w2 w10):=S9.out.tch ht (fun k e=>by omega);have z10:=ht.size;have ltv:=lt_of_blk hg10;have SS10:Hid (SiAt w10 sb (x4.heap.size+1) d (fN k1) n ds pc 0 (some ⟨tb,0,none⟩) 0 1 0):=SS9.out.keep (ht.blk sb (by omega) (by omega));have GT10:Hid (TgAt w10 tb m1.1 m1.2 false 0 (fN k1) ra rb rc):=(ht.blk tb ltb (by omega)).trans GT9.out;have EE10:Hid (E1 w10 pc qc 0 0 0):=((EE8.out.tch T9.out (by omega) (by omega)).tch ht (by omega) (by omega));have ST10:Hid (SiAt w10 sv (x4.heap.size+1) d (fN k2) n ds pv 0 (some ⟨tv,0,none⟩) 0 1 0):=hs10;have GV10:Hid (TgAt w10 tv m2.1 m2.2 false 0 (fN k2) ra rb rc):=hg10;have ET10:Hid (E1 w10 pv qv 0 0 0):=((ET8.out.tch T9.out (by omega) (by omega)).tch ht (by omega) (by omega));have kk:=((HK8.out.tch T9.out (by omega) (by omega) (by omega)).tch ht (by omega) (by omega) (by omega));have HK10:Hid (KT w10 w3.heap.size w4.heap.size w5.heap.size (fN d) (fN k1) (fN k2)):=kk;have kx:=kk.ca;clear ht hs10 hg10 HL2 kk SS9 GT9 EE8 ET8 SS8 ST8 HK8 T9 S9 S8)
    | (go_at_call 13;refine (HC4.out _ _ _ _ _ _ _ _ S10.out ⟨by omega,by omega,by omega⟩ ⟨by omega,by omega,by omega⟩ SS10.out GT10.out EE10.out).mono ?_;rintro e w11 ⟨rfl,h0⟩;have z11:=h0.size;have ht:=h0.alloc (.cells #[.int .i64 ra,.int .i64 rb] 45);have S11:Hid (Bs ps b (x4.heap.size+1) w2 (w11.alloc (.cells #[.int .i64 ra,.int .i64 rb] 45))):=S10.out.tch ht (fun k e=>by rcases e with e|e|e <;> omega);have ST11:Hid (SiAt (w11.alloc (.cells #[.int .i64 ra,.int .i64 rb] 45)) sv (x4.heap.size+1) d (fN k2) n ds pv 0 (some ⟨tv,0,none⟩) 0 1 0):=ST10.out.keep (ht.blk sv (by omega) (by rintro (e|e|e) <;> omega));have GV11:Hid (TgAt (w11.alloc (.cells #[.int .i64 ra,.int .i64 rb] 45)) tv m2.1 m2.2 false 0 (fN k2) ra rb rc):=(ht.blk tv ltv (by rintro (e|e|e) <;> omega)).trans GV10.out;have ET11:Hid (E1 (w11.alloc (.cells #[.int .i64 ra,.int .i64 rb] 45)) pv qv 0 0 0):=ET10.out.tch ht (by rintro (e|e|e) <;> omega) (by rintro (e|e|e) <;> omega);have kk:=HK10.out.tch h0 (by rintro (e|e|e) <;> omega) (by rintro (e|e|e) <;> omega) (by rintro (e|e|e) <;> omega);have ky:=kk.ca;have l11:w3.heap.size<w11.heap.size:=kk.lt.1;clear h0 ht HC4 kk HK10 kx SS10 GT10 EE10 S10 ST10 GV10 ET10)
    | (go_at_call 13;refine (HC5.out _ _ _ _ _ _ _ _ S11.out ⟨by omega,by omega,by omega⟩ ⟨by omega,by omega,by omega⟩ ST11.out GV11.out ET11.out).mono ?_;rintro e w12 ⟨rfl,ht⟩;have S12:Hid (Below w2.heap.size w2 w12):=(S11.out.tch ht (fun k e=>by rcases e with e|e|e <;> omega)).bel;have D12:w12.heap[w11.heap.size]?=some (.cells #[.int .i64 ra,.int .i64 rb] 45 (0,0)):=(ht.blk w11.heap.size (by simp) (by rintro (e|e|e) <;> omega)).trans (halloc1 _ _);have l12:w11.heap.size<w12.heap.size:=lt_of_blk D12;have d0:w12.cell? ⟨w11.heap.size,0,none⟩=some (.int .i64 ra):=(cell_of_row w12 _ 0 _ _ _ D12).trans rfl;have d1:w12.cell? ⟨w11.heap.size,1,none⟩=some (.int .i64 rb):=(cell_of_row w12 _ 1 _ _ _ D12).trans rfl;clear ht D12 HC5 ky ST11 GV11 ET11 S11)
    | (go_at_call 14;refine (SI.out _ _ _).mono ?_;rintro e w13 ⟨rfl,hb⟩;have B13:Hid (Below w2.heap.size w2 w13):=bstep (S12.out.alloc S12.out.size _) hb;clear hb SI S12))
  go_ret
  exact ⟨rfl,bstep B2.out B13.out⟩
def nmF (ps:List Plc) (x:Int):ByteArray:=match plcI ps x with
  | some q=>q.c.nm
  | none=>⟨#[]⟩
def flF (ps:List Plc) (x:Int):Int:=match plcI ps x with
  | some q=>q.c.fl
  | none=>0
def erF (ps:List Plc) (x:Int):Int:=match plcI ps x with
  | some _=>0
  | none=>3
theorem clsF {b:Nat} {ps:List Plc} (hB:∀ q∈ps,PlcB q) (x:Int) (w:World) (hw:WAt b ps w):Calls Tryz.prog 7 #[.pointer (some ⟨b,0,none⟩),.int .i64 x] w fun e w'=>(∃ su a1 n1 c1 ld a2 n2 c2,e=.returned (.tuple #[.agg #[.string (nmF ps x),.string su,.slice a1 n1 c1,.int .i64 (flF ps x),.int .i64 ld,.slice a2 n2 c2],.int .i64 (erF ps x)]))∧Below w.heap.size w w':=by
  unfold nmF flF erF
  cases hq:plcI ps x with
  | none =>
    have q:=class_c hw hB x
    rw [hq] at q
    exact q.mono fun e w' zz=>⟨⟨_,_,_,_,_,_,_,_,zz.1⟩,zz.2⟩
  | some q =>
    refine (class_s hw hB x q hq).mono ?_
    rintro e w' ⟨⟨a1,n1,c1,a2,n2,c2,h⟩,hb⟩
    exact ⟨⟨_,_,_,_,_,_,_,_,h⟩,hb⟩
theorem erF_some {ps:List Plc} {x:Int} (h:erF ps x=0):∃ (k:Nat) (q:Plc),x=(k:Int)∧ps[k]?=some q∧plcI ps x=some q∧nmF ps x=q.c.nm∧flF ps x=q.c.fl:=by
  rcases plcI_cases ps x with ⟨h1,_⟩|⟨k,q,h1,h2,h3⟩
  · unfold erF at h;rw [h1] at h;cases h
  · exact ⟨k,q,h1,h2,h3,by unfold nmF;rw [h3],by unfold flF;rw [h3]⟩
theorem newN {ps:List Plc} {d:Nat} {q:Plc} (hq:ps[d]?=some q) {c n ds:ByteArray} (hc:c.size≤maxLen) (hn:n.size≤maxLen) (hd:ds.size≤maxLen) (hr:¬ rckE c.data.toList n.data.toList ds.data.toList=0) {b lb:Nat} {w2 w:World} (hB:Bs ps b lb w2 w) :
    Calls Tryz.prog 11 #[.pointer (some ⟨lb,0,none⟩),.int .i64 (d:Int),.int .i64 3,.agg #[.bool false,.string c,.string n,.string ds],.int .i64 1] w fun e w'=>e=.returned (.tuple #[.pointer none,.int .i64 1])∧Below w.heap.size w w':=by
  have hl:d<ps.length:=(List.getElem?_eq_some_iff.1 hq).1
  exact snew_no lb b (d:Int) c n ds ps.length _ hr w hB.lnk (by omega) (by omega) (fun v hv=>len_c (hB.at hv)) (fun v=>refCheck_any false c n ds hc hn hd v)
theorem newY {ps:List Plc} {d:Nat} {q:Plc} (hq:ps[d]?=some q) {c n ds:ByteArray} (hc:c.size≤maxLen) (hn:n.size≤maxLen) (hd:ds.size≤maxLen) (hr:rckE c.data.toList n.data.toList ds.data.toList=0) {b lb:Nat} {w2 w:World} (hB:Bs ps b lb w2 w) :
    Calls Tryz.prog 11 #[.pointer (some ⟨lb,0,none⟩),.int .i64 (d:Int),.int .i64 3,.agg #[.bool false,.string c,.string n,.string ds],.int .i64 1] w fun e w'=>∃ sb,e=.returned (.tuple #[.pointer (some ⟨sb,0,none⟩),.int .i64 0])∧NewS w w' sb lb (d:Int) c n ds∧Below w.heap.size w w':=by
  have hl:d<ps.length:=(List.getElem?_eq_some_iff.1 hq).1
  exact snew_yes lb b (d:Int) c n ds ps.length w hB.lnk (by omega) (by omega) (fun v hv=>len_c (hB.at hv)) (fun v=>by have q:=refCheck_any false c n ds hc hn hd v;rw [hr] at q;exact q)
theorem met_x {ps:List Plc} (hi:WI ps) {d:Int} {c n ds:ByteArray} (h:(metR ps d false c n ds).2=0):∃ m x,metR ps d false c n ds=(m,0)∧methI ps m.1 m.2=some x∧x.nm=n∧x.ds=ds:=by
  have e:metR ps d false c n ds=((metR ps d false c n ds).1,0):=Prod.ext rfl h
  obtain ⟨⟨x,hx,h1,h2⟩,_,_⟩:=lby_facts hi (met_facts e).lb
  refine ⟨_,x,e,hx,?_,?_⟩
  · exact ByteArray.ext (Array.toList_inj.1 (by rw [← Lib.toList_data,← Lib.toList_data];exact h1))
  · exact ByteArray.ext (Array.toList_inj.1 (by rw [← Lib.toList_data,← Lib.toList_data];exact h2))
theorem ext_b {ps:List Plc} {d k:Nat} (h:extI ps (d:Int) (k:Int)=true):extB (ps.map nd) d k=true:=by
  unfold extI at h
  rw [Bool.and_eq_true] at h
  exact h.2
theorem WholeSupers_any (v:Value) (l:List Cls) (d k1 k2:Int) (n ds:ByteArray) (W:World) (h:IsClss W v l) (hz:∀ c∈l,ClsZ c) (hn:n.size≤maxLen) (hd:ds.size≤maxLen) :
    Calls Tryz.prog 3 #[v,.int .i64 d,.int .i64 k1,.int .i64 k2,.string n,.string ds] W fun e w'=>e=.returned (.bool true)∧Below W.heap.size W w':=by
  have hcw:=clss_w h
  obtain ⟨ps,hps⟩:∃ ps,ps=wld l:=⟨_,rfl⟩
  have hi:WI ps:=by rw [hps];exact wld_wi l hcw
  have hnw:NmW ps:=by rw [hps];exact nmW l hcw
  have HB:Hid (∀ w:World,Below W.heap.size W w→Calls Tryz.prog 6 #[v] w fun e w'=>(∃ b,e=.returned (.pointer (some ⟨b,0,none⟩))∧WAt b ps w')∧Below w.heap.size w w'):=fun w hb=>by rw [hps];exact builtT_c v l w (clss_keep h hb) hz
  have HC:Hid (∀ (x:Int) b w,WAt b ps w→Calls Tryz.prog 7 #[.pointer (some ⟨b,0,none⟩),.int .i64 x] w fun e w'=>(∃ su a1 n1 c1 ld a2 n2 c2,e=.returned (.tuple #[.agg #[.string (nmF ps x),.string su,.slice a1 n1 c1,.int .i64 (flF ps x),.int .i64 ld,.slice a2 n2 c2],.int .i64 (erF ps x)]))∧Below w.heap.size w w'):=fun x b w hw=>clsF hi.pb x w hw
  have HI:Hid (∀ (x:Int) b w,WAt b ps w→Calls Tryz.prog 8 #[.pointer (some ⟨b,0,none⟩),.int .i64 x] w fun e w'=>e=.returned (.bool (ifcI ps x))∧Below w.heap.size w w'):=fun x b w hw=>isIface_c hw x
  have HX:Hid (∀ (x y:Int) b w,WAt b ps w→Calls Tryz.prog 9 #[.pointer (some ⟨b,0,none⟩),.int .i64 x,.int .i64 y] w fun e w'=>e=.returned (.bool (extI ps x y))∧Below w.heap.size w w'):=fun x y b w hw=>extends_c hw hi x y
  by_cases h0:erF ps d=0
  case neg=>exact ws7_0 ps W v d k1 k2 n ds _ _ _ HB HC h0
  by_cases h1:erF ps k1=0
  case neg=>exact ws7_1 ps W v d k1 k2 n ds _ _ _ HB HC h0 h1
  by_cases h2:erF ps k2=0
  case neg=>exact ws7_2 ps W v d k1 k2 n ds _ _ _ HB HC h0 h1 h2
  cases h3:(bits .and .i64 (flF ps d) 32 == 0)
  case true=>exact ws7_3 ps W v d k1 k2 n ds _ _ _ HB HC h0 h1 h2 h3
  by_cases h4:k1=d
  case pos=>exact ws7_4 ps W v d k1 k2 n ds _ _ _ HB HC h0 h1 h2 h3 h4
  by_cases h5:k2=d
  case pos=>exact ws7_5 ps W v d k1 k2 n ds _ _ _ HB HC h0 h1 h2 h3 h4 h5
  cases h6:(n.toList == [60,105,110,105,116,62])
  case true=>exact ws7_6 ps W v d k1 k2 n ds _ _ _ HB HC h0 h1 h2 h3 h4 h5 h6
  cases c0:ifcI ps d
  case true=>exact ws9_0 ps W v d k1 k2 n ds _ _ _ _ _ HB HC HI HX h0 h1 h2 h3 h4 h5 h6 c0
  cases c1:ifcI ps k1
  case true=>exact ws9_1 ps W v d k1 k2 n ds _ _ _ _ _ HB HC HI HX h0 h1 h2 h3 h4 h5 h6 c0 c1
  cases c2:ifcI ps k2
  case true=>exact ws9_2 ps W v d k1 k2 n ds _ _ _ _ _ HB HC HI HX h0 h1 h2 h3 h4 h5 h6 c0 c1 c2
  cases c3:extI ps d k1
  case false=>exact ws9_3 ps W v d k1 k2 n ds _ _ _ _ _ HB HC HI HX h0 h1 h2 h3 h4 h5 h6 c0 c1 c2 c3
  cases c4:extI ps d k2
  case false=>exact ws9_4 ps W v d k1 k2 n ds _ _ _ _ _ HB HC HI HX h0 h1 h2 h3 h4 h5 h6 c0 c1 c2 c3 c4
  obtain ⟨d',q,ed,hq,hp,en,ef⟩:=erF_some h0
  obtain ⟨a,q1,e1,hq1,hp1,en1,_⟩:=erF_some h1
  obtain ⟨b,q2,e2,hq2,hp2,en2,_⟩:=erF_some h2
  subst ed e1 e2
  have z0:=hi.nm q (List.mem_of_getElem? hq)
  have z1:=hi.nm q1 (List.mem_of_getElem? hq1)
  have z2:=hi.nm q2 (List.mem_of_getElem? hq2)
  have K0:=hnw.k hq
  have K1:=hnw.k hq1
  have K2:=hnw.k hq2
  have r1:=rck_valid (n:=n.data.toList) (d:=ds.data.toList) K1.valid
  have r2:=rck_valid (n:=n.data.toList) (d:=ds.data.toList) K2.valid
  rw [← en] at z0 K0
  rw [← en1] at z1 K1 r1
  rw [← en2] at z2 K2 r2
  by_cases hr:(memberL n.data.toList&&(pdE ds.data.toList == 0))=true
  case neg =>
    rw [if_neg hr] at r1 r2
    exact wsA ps W v _ _ _ n ds _ _ _ _ _ HB HC HI HX h0 h1 h2 h3 h4 h5 h6 c0 c1 c2 c3 c4 (fun b lb w2 w hB=>newN hq z1 hn hd (by rw [r1];decide) hB) (fun b lb w2 w hB=>newN hq z2 hn hd (by rw [r2];decide) hB)
  rw [if_pos hr] at r1 r2
  have HN1:Hid (∀ b lb w2 w,Bs ps b lb w2 w→Calls Tryz.prog 11 #[.pointer (some ⟨lb,0,none⟩),.int .i64 (d':Int),.int .i64 3,.agg #[.bool false,.string (nmF ps (a:Int)),.string n,.string ds],.int .i64 1] w fun e w'=>∃ sb,e=.returned (.tuple #[.pointer (some ⟨sb,0,none⟩),.int .i64 0])∧NewS w w' sb lb (d':Int) (nmF ps (a:Int)) n ds∧Below w.heap.size w w'):=fun b lb w2 w hB=>newY hq z1 hn hd r1 hB
  have HN2:Hid (∀ b' lb w2 w,Bs ps b' lb w2 w→Calls Tryz.prog 11 #[.pointer (some ⟨lb,0,none⟩),.int .i64 (d':Int),.int .i64 3,.agg #[.bool false,.string (nmF ps (b:Int)),.string n,.string ds],.int .i64 1] w fun e w'=>∃ sb,e=.returned (.tuple #[.pointer (some ⟨sb,0,none⟩),.int .i64 0])∧NewS w w' sb lb (d':Int) (nmF ps (b:Int)) n ds∧Below w.heap.size w w'):=fun b' lb w2 w hB=>newY hq z2 hn hd r2 hB
  by_cases g1:(metR ps (d':Int) false (nmF ps (a:Int)) n ds).2=0
  case neg =>
    exact wsB1 ps W v _ _ _ n ds _ _ _ _ _ HB HC HI HX h0 h1 h2 h3 h4 h5 h6 c0 c1 c2 c3 c4 HN1 HN2 _ g1 (fun _ _ _ _ _=>True) (fun b' lb sb pc w2 w hB hz hne hS=>(lnk_no hi hB _ _ n ds pc z1 hn hd hz hne hS g1).mono fun e w' zz=>⟨zz.1,trivial,zz.2⟩)
  obtain ⟨m1,x1,hm1,hx1,hxn1,hxd1⟩:=met_x hi g1
  cases s1:stB x1.fl
  case true =>
    exact wsB1 ps W v _ _ _ n ds _ _ _ _ _ HB HC HI HX h0 h1 h2 h3 h4 h5 h6 c0 c1 c2 c3 c4 HN1 HN2 23 (by decide) (fun _ _ _ _ _=>True) (fun b' lb sb pc w2 w hB hz hne hS=>(lnk_yes hi hB _ _ n ds pc z1 hn hd hz hne hS hm1 hx1 (prf_valid K1.valid).2).mono fun e w' zz=>⟨by rw [zz.1,s1];rfl,trivial,zz.2.2⟩)
  by_cases g2:(metR ps (d':Int) false (nmF ps (b:Int)) n ds).2=0
  case neg =>
    exact wsB2 ps W v _ _ _ n ds _ _ _ _ _ HB HC HI HX h0 h1 h2 h3 h4 h5 h6 c0 c1 c2 c3 c4 HN1 HN2 (fun _ _ _ _ _=>True) (fun b' lb sb pc w2 w hB hz hne hS=>(lnk_yes hi hB _ _ n ds pc z1 hn hd hz hne hS hm1 hx1 (prf_valid K1.valid).2).mono fun e w' zz=>⟨by rw [zz.1,s1];rfl,trivial,zz.2.2⟩) _ g2 (fun _ _ _ _ _=>True) (fun b' lb sb pc w2 w hB hz hne hS=>(lnk_no hi hB _ _ n ds pc z2 hn hd hz hne hS g2).mono fun e w' zz=>⟨zz.1,trivial,zz.2⟩)
  obtain ⟨m2,x2,hm2,hx2,hxn2,hxd2⟩:=met_x hi g2
  cases s2:stB x2.fl
  case true =>
    exact wsB2 ps W v _ _ _ n ds _ _ _ _ _ HB HC HI HX h0 h1 h2 h3 h4 h5 h6 c0 c1 c2 c3 c4 HN1 HN2 (fun _ _ _ _ _=>True) (fun b' lb sb pc w2 w hB hz hne hS=>(lnk_yes hi hB _ _ n ds pc z1 hn hd hz hne hS hm1 hx1 (prf_valid K1.valid).2).mono fun e w' zz=>⟨by rw [zz.1,s1];rfl,trivial,zz.2.2⟩) 23 (by decide) (fun _ _ _ _ _=>True) (fun b' lb sb pc w2 w hB hz hne hS=>(lnk_yes hi hB _ _ n ds pc z2 hn hd hz hne hS hm2 hx2 (prf_valid K2.valid).2).mono fun e w' zz=>⟨by rw [zz.1,s2];rfl,trivial,zz.2.2⟩)
  have hf:hasI q.c.fl 32=true:=by rw [← ef];unfold hasI;rw [bne,h3];rfl
  have p1:=spc_super hq hf K1 (by omega) c1 c3 r1 h6 hx1 hxn1 hxd1 s1
  have p2:=spc_super hq hf K2 (by omega) c2 c4 r2 h6 hx2 hxn2 hxd2 s2
  obtain ⟨r,hr⟩:∃ r,spcI ps (d':Int) false (nmF ps (a:Int)) n ds m1=r:=⟨_,rfl⟩
  have hr2:spcI ps (d':Int) false (nmF ps (b:Int)) n ds m2=r:=by rw [p2,← p1,hr]
  refine wsB3 ps W v _ _ _ n ds _ _ _ _ _ HB HC HI HX h0 h1 h2 h3 h4 h5 h6 c0 c1 c2 c3 c4 HN1 HN2 m1 m2 r.1.1 r.1.2 r.2 (fun b' lb sb pc w2 w hB hz hne hS=>(lnk_yes hi hB _ _ n ds pc z1 hn hd hz hne hS hm1 hx1 (prf_valid K1.valid).2).mono fun e w' zz=>?_) (fun b' lb sb pc w2 w hB hz hne hS=>(lnk_yes hi hB _ _ n ds pc z2 hn hd hz hne hS hm2 hx2 (prf_valid K2.valid).2).mono fun e w' zz=>?_) (fun b' lb sb pc qc tb w2 w hB hz hne hS hT hE=>?_) (fun b' lb sb pc qc tb w2 w hB hz hne hS hT hE=>?_)
  · rw [s1,hr] at zz;exact ⟨zz.1,zz.2.1,zz.2.2⟩
  · rw [s2,hr2] at zz;exact ⟨zz.1,zz.2.1,zz.2.2⟩
  · exact call_any hi hB d' _ n ds hz hne m1 r hS hT hE K0 z0 K1 z1 c0 (ext_b c3)
  · exact call_any hi hB d' _ n ds hz hne m2 r hS hT hE K0 z0 K2 z2 c0 (ext_b c4)
end Go.Proofs.YtenpnkkkjjdccaaGreat
