import Derived.Test.YtfbhjfpkhofifaaGreatDoorSoF
import Derived.Deep.AppendLies
import Derived.Deep.DeepCutAuto
set_option maxHeartbeats 1000000
set_option maxRecDepth 100000
namespace Go.Proofs.YtfbhjfpkhofifaaGreatDoor
open Go.RowKit
theorem ClsW.ok {c:Cls} (h:ClsW c):∀ m∈c.ms,MthOK m:=fun m hm=>⟨(h.2.2.2.2.2 m hm).1,(h.2.2.2.2.2 m hm).2.1,fun i hi=>((h.2.2.2.2.2 m hm).2.2.2.2.2 i hi).2⟩
theorem ClsW.fls {c:Cls} (h:ClsW c):∀ m∈c.ms,MthFl m:=fun m hm=>(h.2.2.2.2.2 m hm).2.2.1
theorem Zcb (c:Cls) (vi vm:Value) (w:World) (hi:IsStrs w vi c.ifs) (hm:IsMths w vm c.ms) (hw:ClsW c) :
 Calls Tryz.prog 8 #[clsV c vi vm] w fun e w'=>e=.returned (.int .i64 (clsE c))∧Bw w w' :=
 Zmw c vi vm w hi hm hw.1 hw.2.1 hw.2.2.1 hw.ok hw.fls hw.2.2.2.1
theorem balT {a w:World} (o:Obj) (h:Bw a w):Bw a (w.alloc o)=True:=eq_true (h.alloc h.size _)
theorem bdrT {a w:World} (h:Bw a w):Bw a w.drew=True:=eq_true h.drew
theorem own2_new {a w:World} (h:Bw a w) (x y:ByteArray):(w.alloc (.cells #[.string x,.string y] 9)).ownsRow a.heap.size 9 1 (.slice (some ⟨w.heap.size,0,none⟩) 2 2) 2 ([x.data.toList,y.data.toList].map txtV):=by
 refine ⟨rfl,.inr ⟨w.heap.size,2,#[.string x,.string y],rfl,h.size,heap_alloc_new w _,Nat.le_refl _,by unfold maxLen;omega,rfl,?_⟩⟩;simp [txtV]
theorem Zkk {a wr w1:World} {v v':Value} {done new:List (List UInt8)} {o:Obj} (hb:Bw a wr) (hown:wr.ownsRow a.heap.size 9 1 v done.length (done.map txtV))
 (hown':w1.ownsRow a.heap.size 9 1 v' (done.length+new.length) (done.map txtV++new.map txtV)) (hg:(wr.alloc o).grownBy w1 v.ownBlock) :
 w1.ownsRow a.heap.size 9 1 v' (done++new).length ((done++new).map txtV)∧Bw a w1:=by
 constructor
 ·simpa using hown'
 ·refine (hb.alloc hb.size o).grown hg (by have:=hb.size;simp;omega) ?_;intro k hk;exact (hown.lt k hk).1
theorem app_rel0 {a wr w1:World} {v v':Value} {done new:List (List UInt8)} (hb:Bw a wr) (hown:wr.ownsRow a.heap.size 9 1 v done.length (done.map txtV))
 (hown':w1.ownsRow a.heap.size 9 1 v' (done.length+new.length) (done.map txtV++new.map txtV)) (hg:wr.grownBy w1 v.ownBlock) :
 w1.ownsRow a.heap.size 9 1 v' (done++new).length ((done++new).map txtV)∧Bw a w1:=by
 constructor
 ·simpa using hown'
 ·refine hb.grown hg hb.size ?_;intro k hk;exact (hown.lt k hk).1
theorem cell_two_new (w:World) (x y:Value) (t:TypeId):∀ j u,[x,y][j]?=some u→(w.alloc (.cells #[x,y] t)).cell? ((⟨w.heap.size,0,none⟩:Addr).add j)=some u:=by
 intro j u hj
 match j,hj with
 | 0,hj=>simp at hj;subst hj;simp [Addr.add,go_sem]
 | 1,hj=>simp at hj;subst hj;simp [Addr.add,go_sem]
theorem bal {a w:World} (h:Bw a w) (o:Obj):Bw a (w.alloc o):=h.alloc h.size _
theorem Zl0 (c:Cls) (vi vm:Value) (W:World) (hi:IsStrs W vi c.ifs) (hm:IsMths W vm c.ms) (hw:ClsW c) (hb:clsB c=true) (hG:GAll W) :
 Calls Tryz.prog 14 #[clsV c vi vm] W fun e w'=>e=.returned (.tuple #[.string ⟨(clsT c).toArray⟩,.int .i64 0])∧Bw W w':=by
 have HC:Hid (∀ w',Bw W w'→Calls Tryz.prog 8 #[clsV c vi vm] w' fun e w''=>e=.returned (.int .i64 0)∧Below w'.heap.size w' w''):=fun w' h=>by
  have:=Zcb c vi vm w' (hi.keep h) (hm.keep h) hw;rw [clsE,hb] at this;exact this
 have hS:=Zo4 hb;have hwl:=hw;obtain ⟨s1,s2,s3,s4,s5,s6⟩:=hw;obtain ⟨nm,su,ifs,fl,ld,ms⟩:=c;simp only at hi hm s1 s2 s3 s4 s5 s6;have hnm:=(Zeh hS.nm).2;have hsu:=(Zeh hS.su).2;have hld:=hS.ld;simp only at hnm hsu hld
 have hnms : nm.size ≤ 60 := by have : nm.data.toList.length = nm.size := by rw [Array.length_toList]; rfl
                                omega
 have hsus : su.size ≤ 60 := by have : su.data.toList.length = su.size := by rw [Array.length_toList]; rfl
                                omega
 obtain ⟨T,hT⟩:∃ T:ByteArray,T=⟨(Qv fl clsP).toArray⟩:=⟨_,rfl⟩;have hTs:T.size≤2100:=by rw [hT];have:=Za0 fl clsP Ze9 (by decide);simpa [ByteArray.size] using this
 have HCT:Hid (∀ w',Bw W w'→Calls Tryz.prog 35 #[.int .i64 fl] w' fun e w''=>e=.returned (.tuple #[.string T,.int .i64 (Zbt fl clsP)])∧Below w'.heap.size w' w''):=fun w' h=>by rw [hT];exact Fl.ClassText_any fl s4 w' (hG.keep h).2
 obtain ⟨D1,hD1⟩:∃ D:ByteArray,D=⟨(Lib.itoa ld).toArray⟩:=⟨_,rfl⟩;have hD1s:D1.size≤21:=by rw [hD1];exact Xx ld (by omega) (by omega)
 have HI1:Hid (∀ w',Bw W w'→Calls Tryz.prog 36 #[.int .i64 ld] w' fun e w''=>e=.returned (.string D1)∧Below w'.heap.size w' w''):=fun w' h=>by rw [hD1];exact Qq ld (by omega) (by omega) w' (hG.keep h).1.2
 obtain ⟨L1,hL1⟩:∃ D:ByteArray,D=⟨(Yg wClass [nm.data.toList]).toArray⟩:=⟨_,rfl⟩;obtain ⟨L2,hL2⟩:∃ D:ByteArray,D=⟨(Yg wSup [su.data.toList]).toArray⟩:=⟨_,rfl⟩;obtain ⟨L3,hL3⟩:∃ D:ByteArray,D=⟨(Yg wFlags [T.data.toList]).toArray⟩:=⟨_,rfl⟩;obtain ⟨L4,hL4⟩:∃ D:ByteArray,D=⟨(Yg wLoader [D1.data.toList]).toArray⟩:=⟨_,rfl⟩;have HL1:Hid (∀ (g:Nat) (w':World),w'.cell? ⟨g,0,none⟩=some (.string nm)→g<w'.heap.size→Calls Tryz.prog 34 #[.string ⟨#[99,108,97,115,115]⟩,.slice (some ⟨g,0,none⟩) 1 1] w' fun e w''=>e=.returned (.string L1)∧Below w'.heap.size w' w''):=fun g w' h0 hg=>by
  rw [hL1];exact Qg ⟨#[99,108,97,115,115]⟩ nm g w' h0 hg (by have h9:(⟨#[99,108,97,115,115]⟩:ByteArray).size=5:=(rfl);omega)
 have HL2:Hid (∀ (g:Nat) (w':World),w'.cell? ⟨g,0,none⟩=some (.string su)→g<w'.heap.size→Calls Tryz.prog 34 #[.string ⟨#[115,117,112,101,114]⟩,.slice (some ⟨g,0,none⟩) 1 1] w' fun e w''=>e=.returned (.string L2)∧Below w'.heap.size w' w''):=fun g w' h0 hg=>by
  rw [hL2];exact Qg ⟨#[115,117,112,101,114]⟩ su g w' h0 hg (by have h9:(⟨#[115,117,112,101,114]⟩:ByteArray).size=5:=(rfl);omega)
 have HL3:Hid (∀ (g:Nat) (w':World),w'.cell? ⟨g,0,none⟩=some (.string T)→g<w'.heap.size→Calls Tryz.prog 34 #[.string ⟨#[102,108,97,103,115]⟩,.slice (some ⟨g,0,none⟩) 1 1] w' fun e w''=>e=.returned (.string L3)∧Below w'.heap.size w' w''):=fun g w' h0 hg=>by
  rw [hL3];exact Qg ⟨#[102,108,97,103,115]⟩ T g w' h0 hg (by have h9:(⟨#[102,108,97,103,115]⟩:ByteArray).size=5:=(rfl);omega)
 have HL4:Hid (∀ (g:Nat) (w':World),w'.cell? ⟨g,0,none⟩=some (.string D1)→g<w'.heap.size→Calls Tryz.prog 34 #[.string ⟨#[108,111,97,100,101,114]⟩,.slice (some ⟨g,0,none⟩) 1 1] w' fun e w''=>e=.returned (.string L4)∧Below w'.heap.size w' w''):=fun g w' h0 hg=>by
  rw [hL4];exact Qg ⟨#[108,111,97,100,101,114]⟩ D1 g w' h0 hg (by have h9:(⟨#[108,111,97,100,101,114]⟩:ByteArray).size=6:=(rfl);omega)
 have HLI:Hid (∀ (p:List UInt8) (g:Nat) (w':World),p∈ifs→w'.cell? ⟨g,0,none⟩=some (.string ⟨p.toArray⟩)→g<w'.heap.size→Calls Tryz.prog 34 #[.string ⟨#[105,102,97,99,101]⟩,.slice (some ⟨g,0,none⟩) 1 1] w' fun e w''=>e=.returned (.string ⟨(Yg wIface [p]).toArray⟩)∧Below w'.heap.size w' w''):=fun p g w' hp h0 hg=>by
  have h8:=(Zeh (hS.ifs p hp)).2;exact Qg ⟨#[105,102,97,99,101]⟩ ⟨p.toArray⟩ g w' h0 hg (by have h9:(⟨#[105,102,97,99,101]⟩:ByteArray).size=5:=(rfl);have h7:(⟨p.toArray⟩:ByteArray).size=p.length:=(by simp [ByteArray.size]);omega)
 have HML:Hid (∀ (m:Mth) (va:Option Addr) (vcap:Nat) (w':World),m∈ms→IsInss W (.slice va m.code.length vcap) m.code→Bw W w'→Calls Tryz.prog 37 #[.agg #[.string m.nm,.string m.ds,.int .i64 m.fl,.int .i64 m.lo,.int .i64 m.st,.slice va m.code.length vcap]] w' fun e w''=>∃ v,e=.returned v∧w''.ownsRow w'.heap.size 9 1 v (X6 m).length ((X6 m).map txtV)∧Below w'.heap.size w' w''):=fun m va vcap w' hm hI h=>by
  obtain ⟨t1,t2,t3,t4,t5,t6⟩:=s6 m hm;have hMS:=hS.ms m hm;have n1:=Zb4 hMS.mem;have n2:=Znx hMS.desc;have e1:m.nm.data.toList.length=m.nm.size:=by rw [Array.length_toList];rfl
  have e2:m.ds.data.toList.length=m.ds.size:=by rw [Array.length_toList];rfl
  exact Zdn m.nm m.ds m.fl m.lo m.st _ m.code t3 w' (hI.keep h) (hG.keep h) (by omega) (by omega) hMS.lo hMS.st t6 hMS.num
 have hcl:=Zh4 hS;have hct:=clsT_len hS;have HTX:Hid (clsT ⟨nm,su,ifs,fl,ld,ms⟩=Lib.join (Zec ⟨nm,su,ifs,fl,ld,ms⟩++[[]]) [10]):=(Zof _).symm;have HLS:Hid (Zec ⟨nm,su,ifs,fl,ld,ms⟩=[L1.data.toList,L2.data.toList]++ifs.map (fun p=>Yg wIface [p])++[L3.data.toList,L4.data.toList]++ms.flatMap X6++[wEnd]):=by
  rw [Hid,hL1,hL2,hL3,hL4,hT,hD1];rfl
 have HMN:Hid (∀ m∈ms,(X6 m).length≤203):=fun m hm=>(Zdl (hS.ms m hm)).1;have hnif:ifs.length≤20:=hS.nif;have hnmm:ms.length≤40:=hS.nms;generalize clsT ⟨nm,su,ifs,fl,ld,ms⟩=CT at *;generalize Zec ⟨nm,su,ifs,fl,ld,ms⟩=CL at *;have HCL:Hid _:=hcl;have HCT2:Hid _:=hct;obtain ⟨ai,capi,rfl,i1,i2,i3⟩:=hi;obtain ⟨am,capm,rfl,m1,m2,m3⟩:=hm;have HIA:Hid _:=i3;have HMA:Hid _:=m3;unfold maxLen at i2 m2;simp only [clsV] at HC ⊢;obtain ⟨K,hK⟩:∃ K,ifs.length=K:=⟨_,rfl⟩;obtain ⟨M,hM⟩:∃ M,ms.length=M:=⟨_,rfl⟩;rw [hK] at i1 HC hnif ⊢;rw [hM] at m1 HC hnmm ⊢;have HK:Hid (ifs.length=K):=hK;have HL:Hid (ms.length=M):=hM;obtain ⟨i0,hi9,hz0,hz1,hz2⟩:=info_parts Tryz.info9;clear hb hS hwl s1 s2 s3 s4 s5 s6 hnm hsu hld hnms hsus hT hTs hD1 hD1s hL1 hL2 hL3 hL4 hcl hct i3 m3 hK hM hG;generalize Zbt fl clsP=te at *;obtain ⟨Wc,hWc⟩:∃ x,x=W.alloc (.cells #[.string nm,.string su,.slice ai K capi,.int .i64 fl,.int .i64 ld,.slice am M capm] 25):=⟨_,rfl⟩;have HWc:Hid (Bw W Wc):=by rw [hWc];exact (Below.refl _ _).alloc (Nat.le_refl _) _
 have HCc:Hid (CB Wc W.heap.size nm su (.slice ai K capi) fl ld (.slice am M capm)):=by rw [hWc];exact ⟨by simp,by simp [go_sem],by simp [go_sem],by simp [go_sem],by simp [go_sem],by simp [go_sem],by simp [go_sem]⟩
 have HWE:Hid (Wc=W.alloc (.cells #[.string nm,.string su,.slice ai K capi,.int .i64 fl,.int .i64 ld,.slice am M capm] 25)):=hWc;clear hWc;go_enter Tryz.func14,Tryz.ntmps14;go_wp2_with (go_at_call 8;rw [← HWE.out];refine (HC.out _ HWc.out).mono ?_;rintro e w1 ⟨rfl,hb1⟩;obtain ⟨hs1,a0,a1,_⟩:=HCc.out.keep hb1;have B1:Hid (Bw Wc w1):=hb1;clear hb1)
 clear HWE HC;go_cut [4] (fun s4 wx=>Hid (∃ g,s4=.slice (some ⟨g,0,none⟩) 2 2∧wx.ownsRow Wc.heap.size 9 1 (.slice (some ⟨g,0,none⟩) 2 2) 2 ([L1.data.toList,L2.data.toList].map txtV)∧Bw Wc wx))
 case first =>
  go_region_held3 (fun w'=>w'.cell? ⟨W.heap.size,0,none⟩=some (.string nm)∧w'.cell? ⟨W.heap.size,1,none⟩=some (.string su)) (go_keep)
   (first
    | (go_at_call 34;refine (HL1.out _ _ ?_ ?_).mono ?_;(simp [go_sem]);(focus (first|(simp;done)|(simp;omega)|omega));rintro e w2 ⟨rfl,hb2⟩;have B2:Hid (Bw Wc w2):=Below.step (by simp (maxDischargeDepth:=8) only [balT,bdrT,B1.out]) hb2;obtain ⟨hs2,b0,b1,_⟩:=HCc.out.keep B2.out;have zs:=hb2.size;(try simp at zs);have z1:=hb2.cell (p:=⟨w1.heap.size,0,none⟩);have z2:=hb2.cell (p:=⟨w1.heap.size+1,0,none⟩);(try simp [go_sem] at z1);(try simp [go_sem] at z2);clear hb2 a0 a1 hs1 HL1)
    | (go_at_call 34;have hB2:=B2;clear hB2;refine (HL2.out _ _ ?_ ?_).mono ?_;(simp [go_sem, *]);(focus (first|(simp;done)|(simp;omega)|omega));rintro e w3 ⟨rfl,hb3⟩;have B3:Hid (Bw Wc w3):=Below.step (by simp (maxDischargeDepth:=8) only [balT,B2.out]) hb3;obtain ⟨hs3,c0,c1,_⟩:=HCc.out.keep B3.out;clear hb3 b0 b1 hs2 HL2))
  all_goals (go_wp2_with fail)
  all_goals go_meet
  all_goals exact ⟨_,rfl,own2_new B3.out _ _,bal B3.out _⟩
 case rest =>
  obtain ⟨g4,rfl,HO0,HB0⟩:=hcut.out;have HO0:Hid _:=HO0;have HB0:Hid (Bw Wc wc):=HB0;clear hcut B1 a0 a1 hs1 HL1 HL2;obtain ⟨y9,_,_,y2,_⟩:=HCc.out.keep HB0.out;go_wp2;clear y9 y2;go_loopw [4,26] (fun sv iv wr=>∃ (i:Nat) (done:List (List UInt8)),iv=.int .i64 i∧i≤K∧done.length=2+i∧Hid (done=[L1.data.toList,L2.data.toList]++(ifs.take i).map (fun p=>Yg wIface [p]))∧Hid (wr.ownsRow Wc.heap.size 9 1 sv done.length (done.map txtV))∧Hid (Bw Wc wr)) (fun _ iv _=>K - (intOf iv).toNat)
  case atStart=>exact ⟨0,[L1.data.toList,L2.data.toList],rfl,Nat.zero_le _,rfl,by simp [Hid],HO0,HB0⟩
  case round =>
   obtain ⟨i,done,rfl,hi,hdl,hD,hown,hb⟩:=hrel;clear HO0 HB0;by_cases hlt:i<K
   ·obtain ⟨bk,o,hao,hbk,hc⟩:=HIA.out (by intro e;have:=HK.out;rw [e] at this;simp at this;omega);obtain ⟨x,hx⟩:∃ x,ifs[i]?=some x:=⟨_,List.getElem?_eq_getElem (by rw [HK.out];exact hlt)⟩;subst hao;have HPX:Hid (∀ (g:Nat) (w':World),w'.cell? ⟨g,0,none⟩=some (.string ⟨x.toArray⟩)→g<w'.heap.size→Calls Tryz.prog 34 #[.string ⟨#[105,102,97,99,101]⟩,.slice (some ⟨g,0,none⟩) 1 1] w' fun e w''=>e=.returned (.string ⟨(Yg wIface [x]).toArray⟩)∧Below w'.heap.size w' w''):=fun g w'=>HLI.out x g w' (List.mem_of_getElem? hx);have HN:Hid (done++[Yg wIface [x]]=[L1.data.toList,L2.data.toList]++(ifs.take (i+1)).map (fun p=>Yg wIface [p])):=by
     rw [Hid,hD.out,List.take_add_one,hx];simp
    have p0:=(hb.out.cell (Nat.lt_of_lt_of_le hbk HWc.out.size)).trans ((HWc.out.cell hbk).trans (hc i x hx));obtain ⟨X,hX⟩:∃ X:ByteArray,X=⟨x.toArray⟩:=⟨_,rfl⟩;obtain ⟨P,hP⟩:∃ P:ByteArray,P=⟨(Yg wIface [x]).toArray⟩:=⟨_,rfl⟩;rw [← hX,← hP] at HPX;rw [← hX] at p0;have HPP:Hid ([Yg wIface [x]].map txtV=[.string P]):=by rw [Hid,hP];rfl
    generalize Yg wIface [x]=PL at *;clear hc hD hP hX hx HIA HMA HLI HML HMN;go_wp2_with (first
     | (go_at_call 34;refine (HPX.out _ _ ?_ ?_).mono ?_;(simp [go_sem]);(simp);rintro e w2 ⟨rfl,hb2⟩;have B2:Hid (Bw Wc w2):=Below.step (bal hb.out _) hb2;have O2:Hid (w2.ownsRow Wc.heap.size 9 1 u4 done.length (done.map txtV)):=Jj hown.out (((Below.refl _ _).alloc (Nat.le_refl _) _).trans (hb2.mono (by simp)));have z2:=B2.out.size;clear hb2)
     | (at_builtin;refine wpList_append_own _ rfl _ _ 22 rfl Wc.heap.size 9 i0 (.string ⟨#[]⟩) 1 16 Tryz.underlying22 hi9 hz0 hz1 hz2 rfl (by decide) _ _ _ rfl (O2.out.alloc _) ⟨w2.heap.size,0,none⟩ 1 1 [.string P] rfl rfl ?c1 ?c2 ?c3 ?c4 ?c5 ?_))
    case c1=>exact cell_one_new _ _ _
    case c2=>intro u hu;simp at hu;subst hu;rfl
    case c3=>unfold maxLen;omega
    case c4=>omega
    case c5=>simp;omega
    ·intro v' w3 hown' hgrow _;have R:=Zkk (new:=[PL]) B2.out O2.out (by rw [HPP.out,hdl];exact hown') hgrow;have R1:Hid _:=R.1;have R2:Hid _:=R.2;clear hown' hgrow hown O2 B2 R;go_wp2;go_roundw
     case rel=>exact ⟨i+1,done++[PL],by go_num,by omega,by simp;omega,HN,R1,R2⟩
     case measure=>simp [intOf];omega
   ·have e:i=K:=by omega
    subst e;have HD2:Hid (done=[L1.data.toList,L2.data.toList]++ifs.map (fun p=>Yg wIface [p])):=by rw [Hid,hD.out,List.take_of_length_le (by rw [HK.out];exact Nat.le_refl _)]
    have hdle:done.length≤22:=by omega
    clear hD HIA HLI hdl;obtain ⟨g0,d0,d1,d2,d3,d4,d5⟩:=HCc.out.keep hb.out;go_wp2_with (go_at_call 35;refine (HCT.out _ (Below.step HWc.out hb.out)).mono ?_;rintro e w2 ⟨rfl,hb2⟩;have B2:Hid (Bw Wc w2):=Below.step hb.out hb2;have O2:Hid (w2.ownsRow Wc.heap.size 9 1 u4 done.length (done.map txtV)):=Jj hown.out hb2;obtain ⟨e9,e0,e1,e2,e3,e4,e5⟩:=HCc.out.keep B2.out;clear hb2 hown)
    clear d0 d1 d2 d3 d4 d5 g0 e0 e1 e2 e3
    go_region_held3 (fun w'=>w'.cell? ⟨W.heap.size,4,none⟩=some (.int .i64 ld)) (go_keep)
     (first
      | (go_at_call 34;refine (HL3.out _ _ ?_ ?_).mono ?_;(simp [go_sem]);(focus (first|(simp;done)|(simp;omega)));rintro e w3 ⟨rfl,hb3⟩;have B3:Hid (Bw Wc w3):=Below.step (by simp (maxDischargeDepth:=8) only [balT,bdrT,B2.out]) hb3;have O3:Hid (w3.ownsRow Wc.heap.size 9 1 u4 done.length (done.map txtV)):=Jj O2.out ((((Below.refl _ _).alloc (Nat.le_refl _) _).drew).trans (hb3.mono (by simp)));obtain ⟨f9,_,_,_,_,f4,_⟩:=HCc.out.keep B3.out;clear hb3 e4 e5 e9 HL3)
      | (go_at_call 36;have hB3:=B3;clear hB3;refine (HI1.out _ (Below.step HWc.out B3.out)).mono ?_;rintro e w4 ⟨rfl,hb4⟩;have B4:Hid (Bw Wc w4):=Below.step B3.out hb4;have O4:Hid (w4.ownsRow Wc.heap.size 9 1 u4 done.length (done.map txtV)):=Jj O3.out hb4;obtain ⟨h9,_,_,_,_,h4,_⟩:=HCc.out.keep B4.out;clear hb4 f4 f9 HI1)
      | (go_at_call 34;have hB4:=B4;clear hB4;refine (HL4.out _ _ ?_ ?_).mono ?_;(simp [go_sem]);(focus (first|(simp;done)|(simp;omega)));rintro e w5 ⟨rfl,hb5⟩;have B5:Hid (Bw Wc w5):=Below.step (bal B4.out _) hb5;have O5:Hid (w5.ownsRow Wc.heap.size 9 1 u4 done.length (done.map txtV)):=Jj O4.out (((Below.refl _ _).alloc (Nat.le_refl _) _).trans (hb5.mono (by simp)));have z5:=B5.out.size;obtain ⟨k9,_,_,_,_,k4,_⟩:=HCc.out.keep B5.out;clear hb5 h4 h9 HL4)
      | (have hB5:=B5;clear hB5;refine step_append_lies _ rfl (.tmp 43) (.tmp 52) 22 rfl Wc.heap.size 9 i0 (.string ⟨#[]⟩) 1 16 Tryz.underlying22 hi9 hz0 hz1 hz2 rfl (by decide) u4 done.length (done.map txtV) (by simp [Act.eval]) (O5.out.alloc _) ⟨w5.heap.size,0,none⟩ 2 2 [.string L3,.string L4] (by simp [Act.eval]) rfl (cell_two_new _ _ _ _) ?_ (by decide) ?_ ?_ ?_ _ rfl ?_;(intro u hu;simp at hu;rcases hu with rfl|rfl <;> rfl);(unfold maxLen;omega);omega;(simp;omega);intro g7 cap7 w7 hown7 hgrow7 _ _;have R:=Zkk (new:=[L3.data.toList,L4.data.toList]) B5.out O5.out hown7 hgrow7;have O7:Hid (w7.ownsRow Wc.heap.size 9 1 (.slice (some ⟨g7,0,none⟩) (done.length+2) cap7) (done++[L3.data.toList,L4.data.toList]).length ((done++[L3.data.toList,L4.data.toList]).map txtV)):=R.1;have B7:Hid (Bw Wc w7):=R.2;obtain ⟨l9,_,_,_,_,l4,l5⟩:=HCc.out.keep B7.out;clear hown7 hgrow7 R k4 k9))
    have HD3:Hid (done++[L3.data.toList,L4.data.toList]=[L1.data.toList,L2.data.toList]++ifs.map (fun p=>Yg wIface [p])++[L3.data.toList,L4.data.toList]):=by rw [Hid,HD2.out]
    have HDL:Hid ((done++[L3.data.toList,L4.data.toList]).length≤24+203 * 0):=by unfold Hid;simp;omega
    clear B2 B3 B4 B5 O2 O3 O4 O5 hb HD2;generalize done++[L3.data.toList,L4.data.toList]=dn at *;generalize [L1.data.toList,L2.data.toList]++ifs.map (fun p=>Yg wIface [p])++[L3.data.toList,L4.data.toList]=pre at *;go_wp2;clear l4 l5 l9 z5;go_loopw [4,57] (fun sv iv wr=>∃ (k:Nat) (d2:List (List UInt8)),iv=.int .i64 k∧k≤M∧Hid (d2.length≤24+203 * k)∧Hid (d2=pre++(ms.take k).flatMap X6)∧Hid (wr.ownsRow Wc.heap.size 9 1 sv d2.length (d2.map txtV))∧Hid (Bw Wc wr)) (fun _ iv _=>M - (intOf iv).toNat)
    case atStart=>exact ⟨0,dn,rfl,Nat.zero_le _,HDL,by simp [Hid,HD3.out],O7,B7⟩
    case round =>
     obtain ⟨k,d2,rfl,hk,hdl2,hD2,hown2,hb2⟩:=hrel;clear O7 B7 HD3 HDL;by_cases hlt2:k<M
     ·obtain ⟨bk,o,hao,hbk,hc⟩:=HMA.out (by intro e;have:=HL.out;rw [e] at this;simp at this;omega);obtain ⟨x,hx⟩:∃ x,ms[k]?=some x:=⟨_,List.getElem?_eq_getElem (by rw [HL.out];exact hlt2)⟩;subst hao;have hN:=HMN.out x (List.mem_of_getElem? hx);have hN0:0<(X6 x).length:=by simp [X6]
      have HN:Hid (d2++X6 x=pre++(ms.take (k+1)).flatMap X6):=by
       rw [Hid,hD2.out,List.take_add_one,hx];simp
      obtain ⟨p0,p1,p2,p3,p4,vc,p5,hI⟩:=hc k x hx;have HI2:Hid (IsInss W vc x.code):=hI;obtain ⟨va,vcap,rfl,_,_,_⟩:=hI;have HPX:Hid (∀ (w':World),Bw W w'→Calls Tryz.prog 37 #[.agg #[.string x.nm,.string x.ds,.int .i64 x.fl,.int .i64 x.lo,.int .i64 x.st,.slice va x.code.length vcap]] w' fun e w''=>∃ v,e=.returned v∧w''.ownsRow w'.heap.size 9 1 v (X6 x).length ((X6 x).map txtV)∧Below w'.heap.size w' w''):=fun w' h=>HML.out x va vcap w' (List.mem_of_getElem? hx) HI2.out h;have keepc:∀ (j:Nat) (v:Value),W.cell? ⟨bk,j,none⟩=some v→wr.cell? ⟨bk,j,none⟩=some v:=fun j v h=>(hb2.out.cell (p:=⟨bk,j,none⟩) (Nat.lt_of_lt_of_le hbk HWc.out.size)).trans ((HWc.out.cell (p:=⟨bk,j,none⟩) hbk).trans h);replace p0:=keepc _ _ p0;replace p1:=keepc _ _ p1;replace p2:=keepc _ _ p2;replace p3:=keepc _ _ p3;replace p4:=keepc _ _ p4;replace p5:=keepc _ _ p5;have HDN:Hid ((d2++X6 x).length≤24+203 * (k+1)):=by unfold Hid;have:=hdl2.out;simp;omega
      have hdd:=hdl2.out;generalize X6 x=NL at *;obtain ⟨xn,xd,xf,xl,xs,xc⟩:=x;simp only at p0 p1 p2 p3 p4 p5 HPX;clear hc keepc hx HMA HML HMN hD2 hdl2 HI2;generalize hDLq:d2.length=DL at *;have HDL2:Hid (d2.length=DL):=hDLq;clear hDLq;go_wp2_with (first
       | (go_at_call 37;refine (HPX.out _ (Below.step HWc.out (bal hb2.out _))).mono ?_;rintro e w2 ⟨v,rfl,ho,hb3⟩;obtain ⟨gx,cx,rfl,_,_⟩:=ho.form hN0;have B3:Hid (Bw Wc w2):=Below.step (bal hb2.out _) hb3;have O3:Hid (w2.ownsRow Wc.heap.size 9 1 u4 DL (d2.map txtV)):=Jj hown2.out (((Below.refl _ _).alloc (Nat.le_refl _) _).trans (hb3.mono (by simp)));have z2:=B3.out.size;have HO:Hid (World.ownsRow w2 _ 9 1 (.slice (some ⟨gx,0,none⟩) NL.length cx) NL.length (NL.map txtV)):=ho;clear hb3 ho)
       | (at_builtin;refine wpList_append_own _ rfl _ _ 22 rfl Wc.heap.size 9 i0 (.string ⟨#[]⟩) 1 16 Tryz.underlying22 hi9 hz0 hz1 hz2 rfl (by decide) _ _ _ rfl O3.out ⟨gx,0,none⟩ NL.length cx (NL.map txtV) rfl ?c0 ?c1 ?c2 ?c3 ?c4 ?c5 ?_))
      case c0=>simp
      case c1=>intro j u hj;rw [show ((⟨gx,0,none⟩:Addr).add j)=⟨gx,j,none⟩ by simp [Addr.add];omega];rw [HO.out.cellAt j (by have:=(List.getElem?_eq_some_iff.1 hj).1;simpa using this)];exact hj
      case c2=>intro u hu;obtain ⟨y,_,rfl⟩:=List.mem_map.1 hu;rfl
      case c3=>unfold maxLen;omega
      case c4=>omega
      case c5=>omega
      ·intro v' w3 hown' hgrow _;have R:=app_rel0 (new:=NL) B3.out (by rw [HDL2.out];exact O3.out) (by rw [HDL2.out];exact hown') hgrow;have R1:Hid _:=R.1;have R2:Hid _:=R.2;clear hown' hgrow hown2 O3 B3 HO R;go_wp2;go_roundw
       case rel =>
        first
         | exact ⟨k+1,d2++NL,by go_num,by omega,HDN,HN,R1,R2⟩
         | ((repeat apply Exists.intro);exact ⟨⟨k+1,d2++NL,by go_num,by omega,HDN,HN,R1,R2⟩,rfl⟩)
       case measure=>simp [intOf];omega
     ·have e:k=M:=by omega
      subst e;have HF:Hid (Lib.join (d2++[wEnd,[]]) [10]=CT):=by
       rw [Hid,HTX.out,HLS.out,hD2.out,List.take_of_length_le (by rw [HL.out];exact Nat.le_refl _)];simp
      have HJ:Hid (∀ (v:Value) (w':World),w'.ownsRow Wc.heap.size 9 1 v (d2++[wEnd,[]]).length ((d2++[wEnd,[]]).map txtV)→Calls Tryz.prog 38 #[v,.string ⟨#[10]⟩] w' fun e w''=>e=.returned (.string ⟨CT.toArray⟩)∧Below w'.heap.size w' w''):=fun v w' h=>by
       have:=Zmi h (by rw [HF.out];have:=HCT2.out;omega) (by have:=hdl2.out;simp;omega);rw [HF.out] at this;exact this
      have hdd:=hdl2.out;generalize hDLq:d2.length=DL at *;have HDL2:Hid (d2.length=DL):=hDLq;clear hDLq hD2 hdl2 HMA HML HMN HTX HLS HCL HCT2 HF;have hz:=hb2.out.size;go_wp2_with (at_builtin;refine wpList_append_own _ rfl _ _ 22 rfl Wc.heap.size 9 i0 (.string ⟨#[]⟩) 1 16 Tryz.underlying22 hi9 hz0 hz1 hz2 rfl (by decide) _ _ _ rfl (hown2.out.alloc _) ⟨wr.heap.size,0,none⟩ 2 2 [.string ⟨#[101,110,100]⟩,.string ⟨#[]⟩] rfl rfl ?c1 ?c2 ?c3 ?c4 ?c5 ?_)
      case c1=>exact cell_two_new _ _ _ _
      case c2=>intro u hu;simp at hu;rcases hu with rfl|rfl <;> rfl
      case c3=>unfold maxLen;omega
      case c4=>omega
      case c5=>simp;omega
      ·intro v' w3 hown' hgrow _;have R:=Zkk (new:=[wEnd,[]]) hb2.out (by rw [HDL2.out];exact hown2.out) (by rw [HDL2.out];exact hown') hgrow;have R1:=HJ.out _ _ R.1;have R3:Hid (Calls Tryz.prog 38 #[v',.string ⟨#[10]⟩] w3 fun e w''=>e=.returned (.string ⟨CT.toArray⟩)∧Bw w3 w''):=R1;have R2:Hid (Bw Wc w3):=R.2;clear hown' hgrow hown2 HJ R R1;go_wp2_with (go_at_call 38;refine (R3.out).mono ?_;rintro e w4 ⟨rfl,hb4⟩)
       go_ret2
       exact ⟨rfl,Below.step HWc.out (Below.step R2.out hb4)⟩
def mthC (p:Mth×Value):List Value:=[.string p.1.nm,.string p.1.ds,.int .i64 p.1.fl,.int .i64 p.1.lo,.int .i64 p.1.st,p.2]
def Qk (l:List (Mth×Value)):List Value:=l.flatMap mthC
theorem Zch (l:List (Mth×Value)):(Qk l).length=l.length * 6:=by
 induction l with
 | nil=>rfl
 | cons t ts ih=>simp only [Qk,List.flatMap_cons,List.length_append,mthC] at *;rw [ih];simp;omega
theorem Zhn (a b:List (Mth×Value)):Qk (a++b)=Qk a++Qk b:=List.flatMap_append
theorem flatM_at (l:List (Mth×Value)) (k:Nat) (p:Mth×Value) (h:l[k]?=some p) (j:Nat) (hj:j<6):(Qk l)[k * 6+j]?=(mthC p)[j]?:=by
 induction l generalizing k with
 | nil=>simp at h
 | cons u ts ih =>
   have e:Qk (u::ts)=mthC u++Qk ts:=by simp [Qk]
   rw [e]
   cases k with
   | zero=>simp at h;subst h;rw [List.getElem?_append_left (by simp [mthC];omega)];simp
   | succ k =>
     simp at h;rw [List.getElem?_append_right (by simp [mthC];omega)];have:=ih k h;rw [← this]
     congr 1
     simp [mthC];omega
theorem Q6 {w:World} {n1 n2 e1 e2 s1 s2:Nat} {v1 v2:Value} {l1 l2:Nat} {x1 x2:List Value} (h1:w.ownsRow n1 e1 s1 v1 l1 x1) (h2:w.ownsRow n2 e2 s2 v2 l2 x2) (hne:e1≠e2):v1.ownBlock=none∨v1.ownBlock≠v2.ownBlock:=by
 rcases h1.2 with ⟨rfl,_⟩|⟨g,cap,cur,rfl,_,hg,_⟩
 ·exact .inl rfl
 ·refine .inr fun e=>?_;rcases h2.2 with ⟨rfl,_⟩|⟨g2,cap2,cur2,rfl,_,hg2,_⟩
  ·simp [Value.ownBlock] at e
  ·simp [Value.ownBlock] at e;subst e;rw [hg] at hg2;simp only [Option.some.injEq,Obj.cells.injEq] at hg2;exact hne hg2.2.1
theorem Qe {w:World} {n1 e1 s1:Nat} {v1:Value} {l1:Nat} {x1:List Value} (h1:w.ownsRow n1 e1 s1 v1 l1 x1) {b:Nat} {cs:Array Value} {t:TypeId} (hb:w.heap[b]?=some (.cells cs t (0,0))) (hne:e1≠t):some b≠v1.ownBlock:=by
 rcases h1.2 with ⟨rfl,_⟩|⟨g,cap,cur,rfl,_,hg,_⟩
 ·simp [Value.ownBlock]
 ·intro e;simp [Value.ownBlock] at e;subst e;rw [hg] at hb;simp only [Option.some.injEq,Obj.cells.injEq] at hb;exact hne hb.2.1
theorem below_grown {w w':World} (h:Bw w w') (r:Option Nat):w.grownBy w' r:=⟨h.os,h.tape,h.output,h.size,fun k hk _=>h.block k hk⟩
theorem Jc (w:World) (g j:Nat) (v:Value):w.grownBy (w.setCell ⟨g,j,none⟩ v) (some g):=⟨rfl,rfl,rfl,by simp,fun k _ hne=>heap_setCell_other w ⟨g,j,none⟩ k v (fun e=>hne (by rw [e]))⟩
structure RowC (w:World) (N:Nat) (vi vm:Value) (c:Cls) (pm:List (Mth×Value)) (B:Nat):Prop where
 lo:N≤B
 hi:B≤w.heap.size
 ifs:w.ownsRow N 9 1 vi c.ifs.length (c.ifs.map strV)
 eq:pm.map Prod.fst=c.ms
 ms:w.ownsRow N 34 6 vm pm.length (Qk pm)
 old:∀ p∈pm.dropLast,w.ownsRow N 73 7 p.2 p.1.code.length (Xy p.1.code)∧∀ k,p.2.ownBlock=some k→k<B
 last:∀ p,pm.getLast?=some p→w.ownsRow B 73 7 p.2 p.1.code.length (Xy p.1.code)
theorem RowC.len {w:World} {N:Nat} {vi vm:Value} {c:Cls} {pm:List (Mth×Value)} {B:Nat} (h:RowC w N vi vm c pm B):pm.length=c.ms.length:=by rw [← h.eq,List.length_map]
theorem RowC.all {w:World} {N:Nat} {vi vm:Value} {c:Cls} {pm:List (Mth×Value)} {B:Nat} (h:RowC w N vi vm c pm B):∀ p∈pm,w.ownsRow N 73 7 p.2 p.1.code.length (Xy p.1.code):=by
 intro p hp;rcases List.eq_nil_or_concat pm with e|⟨l,q,e⟩
 ·subst e;simp at hp
 ·rw [List.concat_eq_append] at e;subst e;rcases List.mem_append.1 hp with h1|h1
  ·exact (h.old p (by rw [List.dropLast_concat];exact h1)).1
  ·simp at h1;subst h1;have:=h.last p (by simp);obtain ⟨h1,h2⟩:=this;refine ⟨h1,?_⟩;rcases h2 with h2|⟨g,cap,cur,e,hb,r⟩
   ·exact .inl h2
   ·exact .inr ⟨g,cap,cur,e,Nat.le_trans h.lo hb,r⟩
theorem RowC.keep {w w':World} {N:Nat} {vi vm:Value} {c:Cls} {pm:List (Mth×Value)} {B:Nat} {r:Option Nat} (h:RowC w N vi vm c pm B) (hg:w.grownBy w' r) (h1:vi.ownBlock=none∨vi.ownBlock≠r) (h2:vm.ownBlock=none∨vm.ownBlock≠r) (h3:∀ p∈pm,p.2.ownBlock=none∨p.2.ownBlock≠r):RowC w' N vi vm c pm B where
 lo:=h.lo
 hi:=Nat.le_trans h.hi hg.size
 ifs:=h.ifs.kept hg h1
 eq:=h.eq
 ms:=h.ms.kept hg h2
 old:=fun p hp=>⟨(h.old p hp).1.kept hg (h3 p (List.dropLast_subset _ hp)),(h.old p hp).2⟩
 last:=fun p hp=>(h.last p hp).kept hg (h3 p (List.mem_of_getLast? hp))
theorem RowC.below {w w':World} {N:Nat} {vi vm:Value} {c:Cls} {pm:List (Mth×Value)} {B:Nat} (h:RowC w N vi vm c pm B) (hb:Bw w w'):RowC w' N vi vm c pm B :=
 h.keep (r:=none) (below_grown hb none) (by cases vi.ownBlock <;> simp) (by cases vm.ownBlock <;> simp) (fun p _=>by cases p.2.ownBlock <;> simp)
theorem RowC.other {w w':World} {N:Nat} {vi vm:Value} {c:Cls} {pm:List (Mth×Value)} {B:Nat} (h:RowC w N vi vm c pm B) {b:Nat} {cs:Array Value} {t:TypeId} (hb:w.heap[b]?=some (.cells cs t (0,0))) (h9:9≠t) (h34:34≠t) (h73:73≠t) (hg:w.grownBy w' (some b)):RowC w' N vi vm c pm B :=
 h.keep hg (.inr (Qe h.ifs hb h9).symm) (.inr (Qe h.ms hb h34).symm) (fun p hp=>.inr (Qe (h.all p hp) hb h73).symm)
theorem RowC.scal {w:World} {N:Nat} {vi vm:Value} {c c':Cls} {pm:List (Mth×Value)} {B:Nat} (h:RowC w N vi vm c pm B) (h1:c'.ifs=c.ifs) (h2:c'.ms=c.ms):RowC w N vi vm c' pm B where
 lo:=h.lo
 hi:=h.hi
 ifs:=by rw [h1];exact h.ifs
 eq:=by rw [h2];exact h.eq
 ms:=h.ms
 old:=h.old
 last:=h.last
theorem RowC.iface {w w':World} {N:Nat} {vi vi' vm:Value} {c:Cls} {pm:List (Mth×Value)} {B:Nat} (h:RowC w N vi vm c pm B) {p:List UInt8} (hg:w.grownBy w' vi.ownBlock) (ho:w'.ownsRow N 9 1 vi' (c.ifs.length+1) (c.ifs.map strV++[strV p])):RowC w' N vi' vm { c with ifs:=c.ifs++[p] } pm B where
 lo:=h.lo
 hi:=Nat.le_trans h.hi hg.size
 ifs:=by simpa using ho
 eq:=h.eq
 ms:=h.ms.kept hg (Q6 h.ms h.ifs (by decide))
 old:=fun p hp=>⟨(h.old p hp).1.kept hg (Q6 (h.old p hp).1 h.ifs (by decide)),(h.old p hp).2⟩
 last:=fun p hp=>(h.last p hp).kept hg (Q6 (h.last p hp) h.ifs (by decide))
theorem RowC.method {w w':World} {N:Nat} {vi vm vm':Value} {c:Cls} {pm:List (Mth×Value)} {B:Nat} (h:RowC w N vi vm c pm B) {m:Mth} (hm:m.code=[]) (hg:w.grownBy w' vm.ownBlock) (ho:w'.ownsRow N 34 6 vm' (pm.length+1) (Qk pm++mthC (m,.slice none 0 0))):RowC w' N vi vm' { c with ms:=c.ms++[m] } (pm++[(m,.slice none 0 0)]) w'.heap.size where
 lo:=Nat.le_trans h.lo (Nat.le_trans h.hi hg.size)
 hi:=Nat.le_refl _
 ifs:=h.ifs.kept hg (Q6 h.ifs h.ms (by decide))
 eq:=by simp [h.eq]
 ms:=by
  have:Qk (pm++[(m,.slice none 0 0)])=Qk pm++mthC (m,.slice none 0 0):=by rw [Zhn];simp [Qk]
  rw [this,List.length_append];exact ho
 old:=fun p hp=>by
  rw [List.dropLast_concat] at hp;have h1:=h.all p hp;refine ⟨h1.kept hg (Q6 h1 h.ms (by decide)),fun k hk=>Nat.lt_of_lt_of_le (h1.lt k hk).2 hg.size⟩
 last:=fun p hp=>by
  simp at hp;subst hp;simp only [hm];exact World.ownsRow_nil _ _ _ _
theorem Znj {w:World} {N e s g n cap:Nat} {xs:List Value} (h:w.ownsRow N e s (.slice (some ⟨g,0,none⟩) n cap) n xs) (j:Nat) (_hj:j<n * s) (u:Value):(w.setCell ⟨g,j,none⟩ u).ownsRow N e s (.slice (some ⟨g,0,none⟩) n cap) n (xs.set j u):=by
 refine ⟨by rw [List.length_set];exact h.1,?_⟩;rcases h.2 with ⟨e,_⟩|⟨g',cap',cur,e,hb,hg,hn,hc,hs,ht⟩
 ·cases e
 ·simp only [Value.slice.injEq,Option.some.injEq,Addr.mk.injEq] at e;obtain ⟨⟨rfl,_⟩,_,rfl⟩:=e;refine .inr ⟨g,cap,cur.setIfInBounds j u,rfl,hb,Go.Joins.block_setCell hg u,hn,hc,by simpa using hs,?_⟩;rw [Array.toList_setIfInBounds,← ht,List.take_set]
theorem Zhm (l:List (Mth×Value)) (p p':Mth×Value) (j:Nat) (u:Value) (hp:(mthC p).set j u=mthC p'):(Qk (l++[p])).set (l.length * 6+j) u=Qk (l++[p']):=by
 have e1:∀ x:Mth×Value,Qk (l++[x])=Qk l++mthC x:=fun x=>by rw [Zhn];simp [Qk]
 rw [e1,e1,List.set_append_right _ _ (by rw [Zch];omega),Zch,show l.length * 6+j - l.length * 6=j by omega,hp]
theorem add0 (g j:Nat):(⟨g,0,none⟩:Addr).add j=⟨g,j,none⟩:=by unfold Addr.add;split <;> simp_all
theorem RowC.at {w:World} {N:Nat} {vi vm:Value} {c:Cls} {pm:List (Mth×Value)} {B:Nat} (h:RowC w N vi vm c pm B) (hne:pm≠[]):∃ g cap cur,vm=.slice (some ⟨g,0,none⟩) pm.length cap∧N≤g∧w.heap[g]?=some (.cells cur 34 (0,0))∧pm.length≤cap∧cap≤maxLen∧cur.size=cap * 6∧∀ k p,pm[k]?=some p→∀ j,j<6→w.cell? ⟨g,k * 6+j,none⟩=(mthC p)[j]?:=by
 have hms:=h.ms;rcases h.ms.2 with ⟨_,h0⟩|⟨g,cap,cur,e,hb,hg,hn,hc,hs,ht⟩
 ·exact absurd (List.length_eq_zero_iff.1 h0) hne
 ·refine ⟨g,cap,cur,e,hb,hg,hn,hc,hs,fun k p hk j hj=>?_⟩;have h1:=flatM_at pm k p hk j hj;have h2:(mthC p)[j]?=some ((mthC p)[j]'(by simp [mthC];omega)):=List.getElem?_eq_getElem _;rw [h2] at h1 ⊢;have:=hms.cells (g:=g) (by rw [e];rfl) _ _ h1;rw [← this,add0]
theorem RowC.num {w:World} {N g cap:Nat} {vi:Value} {c:Cls} {l:List (Mth×Value)} {m m':Mth} {v:Value} {B:Nat} (h:RowC w N vi (.slice (some ⟨g,0,none⟩) (l.length+1) cap) c (l++[(m,v)]) B) (j:Nat) (u:Value) (hj:j<6) (hp:(mthC (m,v)).set j u=mthC (m',v)) (hc:m'.code=m.code) :
 RowC (w.setCell ⟨g,l.length * 6+j,none⟩ u) N vi (.slice (some ⟨g,0,none⟩) (l.length+1) cap) { c with ms:=Ym (fun _=>m') c.ms } (l++[(m',v)]) B:=by
 have hlen:(l++[(m,v)]).length=l.length+1:=by simp
 have hms:=h.ms;rw [hlen] at hms;have hg:=Jc w g (l.length * 6+j) u;have hb:some g=(Value.slice (some ⟨g,0,none⟩) (l.length+1) cap).ownBlock:=rfl;rw [hb] at hg;have hmem:(m,v)∈l++[(m,v)]:=by simp
 refine ⟨h.lo,Nat.le_trans h.hi hg.size,h.ifs.kept hg (Q6 h.ifs h.ms (by decide)),?_,?_,fun p hp=>?_,fun p hp=>?_⟩
 ·rw [← h.eq];simp only [List.map_append,List.map_cons,List.map_nil];have:∀ a:List Mth,Ym (fun _=>m') (a++[m])=a++[m']:=fun a=>by
   induction a with
   | nil=>rfl
   | cons x a ih =>
     cases a with
     | nil=>rfl
     | cons y a=>show x::Ym _ (y::a++[m])=_;rw [ih];rfl
  exact (this _).symm
 ·have:=Znj hms (l.length * 6+j) (by omega) u;rw [Zhm l (m,v) (m',v) j u hp] at this
  simpa using this
 ·rw [List.dropLast_concat] at hp;have h1:=h.old p (by rw [List.dropLast_concat];exact hp);exact ⟨h1.1.kept hg (Q6 h1.1 h.ms (by decide)),h1.2⟩
 ·simp at hp;subst hp;have h1:=h.last (m,v) (by simp);simp only [hc];exact h1.kept hg (Q6 h1 h.ms (by decide))
theorem Zor (l:List Ins) (i:Ins):Xy (l++[i])=Xy l++insC i:=by simp [Xy]
theorem RowC.code {w w':World} {N g cap:Nat} {vi:Value} {c:Cls} {l:List (Mth×Value)} {m:Mth} {v v':Value} {B:Nat} (h:RowC w N vi (.slice (some ⟨g,0,none⟩) (l.length+1) cap) c (l++[(m,v)]) B) (i:Ins) (hgr:w.grownBy w' v.ownBlock) (ho:w'.ownsRow B 73 7 v' (m.code.length+1) (Xy m.code++insC i)) :
 RowC (w'.setCell ⟨g,l.length * 6+5,none⟩ v') N vi (.slice (some ⟨g,0,none⟩) (l.length+1) cap) { c with ms:=Ym (fun m=>{ m with code:=m.code++[i] }) c.ms } (l++[({ m with code:=m.code++[i] },v')]) B:=by
 have hlast:=h.last (m,v) (by simp);have hms:=h.ms.kept hgr (Q6 h.ms hlast (by decide));have hlen:(l++[(m,v)]).length=l.length+1:=by simp
 rw [hlen] at hms;have hg:=Jc w' g (l.length * 6+5) v';have hb:some g=(Value.slice (some ⟨g,0,none⟩) (l.length+1) cap).ownBlock:=rfl;rw [hb] at hg;have hif:=h.ifs.kept hgr (Q6 h.ifs hlast (by decide));refine ⟨h.lo,Nat.le_trans h.hi (Nat.le_trans hgr.size hg.size),hif.kept hg (Q6 hif hms (by decide)),?_,?_,fun p hp=>?_,fun p hp=>?_⟩
 ·rw [← h.eq];simp only [List.map_append,List.map_cons,List.map_nil];have:∀ a:List Mth,Ym (fun m=>{ m with code:=m.code++[i] }) (a++[m])=a++[{ m with code:=m.code++[i] }]:=fun a=>by
   induction a with
   | nil=>rfl
   | cons x a ih =>
     cases a with
     | nil=>rfl
     | cons y a=>show x::Ym _ (y::a++[m])=_;rw [ih];rfl
  exact (this _).symm
 ·have:=Znj hms (l.length * 6+5) (by omega) v';rw [Zhm l (m,v) ({ m with code:=m.code++[i] },v') 5 v' rfl] at this
  simpa using this
 ·rw [List.dropLast_concat] at hp;have h1:=h.old p (by rw [List.dropLast_concat];exact hp);have h2:=h1.1.kept hgr (by
   cases e:p.2.ownBlock with
   | none=>exact .inl rfl
   | some k =>
     refine .inr fun e2=>?_;have a1:=h1.2 k e;have a2:=(hlast.lt k e2.symm).1;omega)
  exact ⟨h2.kept hg (Q6 h2 hms (by decide)),h1.2⟩
 ·simp at hp;subst hp;simp only [Zor,List.length_append,List.length_cons,List.length_nil,Nat.zero_add];exact ho.kept hg (Q6 ho hms (by decide))
theorem own_inss {w:World} {N:Nat} {v:Value} {l:List Ins} (h:w.ownsRow N 73 7 v l.length (Xy l)):IsInss w v l:=by
 rcases h.2 with ⟨rfl,h0⟩|⟨g,cap,cur,rfl,hb,hg,hn,hc,hs,ht⟩
 ·rw [List.length_eq_zero_iff.1 h0];exact ⟨none,0,rfl,Nat.le_refl _,by unfold maxLen;omega,fun h=>absurd rfl h⟩
 ·refine ⟨some ⟨g,0,none⟩,cap,rfl,hn,hc,fun _=>⟨g,0,rfl,(Array.getElem?_eq_some_iff.1 hg).1,fun k i hk=>?_⟩⟩;obtain ⟨a0,a1,a2,a3,a4,a5,a6⟩:=flatI_at l k i hk;have hx:=h.cells (g:=g) rfl;have hy:∀ j u,(Xy l)[k * 7+j]?=some u→w.cell? ⟨g,0+k * 7+j,none⟩=some u:=fun j u hu=>by
   have:=hx _ _ hu;rw [← this,add0,Nat.zero_add]
  exact ⟨hy 0 _ a0,hy 1 _ a1,hy 2 _ a2,hy 3 _ a3,hy 4 _ a4,hy 5 _ a5,hy 6 _ a6⟩
theorem RowC.mths {w:World} {N:Nat} {vi vm:Value} {c:Cls} {pm:List (Mth×Value)} {B:Nat} (h:RowC w N vi vm c pm B):IsMths w vm c.ms:=by
 by_cases hne:pm=[]
 ·subst hne;have h1:c.ms=[]:=by rw [← h.eq];rfl
  rcases h.ms.2 with ⟨rfl,_⟩|⟨g,cap,cur,rfl,hb,hg,hn,hc,_⟩
  ·rw [h1];exact ⟨none,0,rfl,Nat.le_refl _,by unfold maxLen;omega,fun h=>absurd rfl h⟩
  ·rw [h1];exact ⟨_,cap,rfl,hn,hc,fun h=>absurd rfl h⟩
 ·obtain ⟨g,cap,cur,rfl,hb,hg,hn,hc,hs,hx⟩:=h.at hne;have hl:=h.len;refine ⟨_,cap,by rw [hl],by rw [← hl];exact hn,hc,fun _=>⟨g,0,rfl,(Array.getElem?_eq_some_iff.1 hg).1,fun k m hk=>?_⟩⟩;rw [← h.eq,List.getElem?_map] at hk
  cases e:pm[k]? with
  | none=>rw [e] at hk;simp at hk
  | some p =>
    rw [e] at hk;simp at hk;subst hk;have hy:∀ j,j<6→w.cell? ⟨g,0+k * 6+j,none⟩=(mthC p)[j]?:=fun j hj=>by rw [Nat.zero_add];exact hx k p e j hj
    exact ⟨hy 0 (by omega),hy 1 (by omega),hy 2 (by omega),hy 3 (by omega),hy 4 (by omega),p.2,hy 5 (by omega),own_inss (h.all p (List.mem_of_getElem? e))⟩
def stepD (st:Nat) (c:Cls) (line:List UInt8):Option (Nat×Cls) :=
 if st=0 then (if nmdB (cutL 32 line) wClass then some (1,{ c with nm:=⟨(nmdS (cutL 32 line) wClass).toArray⟩ }) else none)
 else if st=1 then (if nmdB (cutL 32 line) wSup then some (2,{ c with su:=⟨(nmdS (cutL 32 line) wSup).toArray⟩ }) else none)
 else if st=2 then (if nmdB (cutL 32 line) wIface then some (2,{ c with ifs:=c.ifs++[nmdS (cutL 32 line) wIface] }) else if flB clsP (cutL 32 line) 1&&((cutL 32 line).getD 0 [] == wFlags) then some (3,{ c with fl:=flN clsP (cutL 32 line) 1 }) else none)
 else if st=3 then (if num9 (nmdS (cutL 32 line) wLoader)&&nmdB (cutL 32 line) wLoader then some (4,{ c with ld:=(numR (nmdS (cutL 32 line) wLoader)).1 }) else none)
 else if st=4∨st=7 then (if line == wEnd then some (8,c) else if (cutL 32 line).getD 0 [] == Zq then (if dmB (cutL 32 line) then some (5,{ c with ms:=c.ms++[⟨⟨((cutL 32 line).getD 1 []).toArray⟩,⟨((cutL 32 line).getD 2 []).toArray⟩,flN mthP (cutL 32 line) 3,0,0,[]⟩] }) else none)
  else if st=7 then (match docP line with
   | some i=>some (7,{ c with ms:=Ym (fun m=>{ m with code:=m.code++[i] }) c.ms })
   | none=>none) else none)
 else if st=5 then (if nmdB (cutL 32 line) Zp&&num9 (nmdS (cutL 32 line) Zp) then some (6,{ c with ms:=Ym (fun m=>{ m with lo:=(numR (nmdS (cutL 32 line) Zp)).1 }) c.ms }) else none)
 else if st=6 then (if nmdB (cutL 32 line) Z3&&num9 (nmdS (cutL 32 line) Z3) then some (7,{ c with ms:=Ym (fun m=>{ m with st:=(numR (nmdS (cutL 32 line) Z3)).1 }) c.ms }) else none)
 else none
theorem step_M (c:Cls) (l:List UInt8):Jr c l=(if l == wEnd then some (8,c) else if (cutL 32 l).getD 0 [] == Zq then (if dmB (cutL 32 l) then some (5,{ c with ms:=c.ms++[⟨⟨((cutL 32 l).getD 1 []).toArray⟩,⟨((cutL 32 l).getD 2 []).toArray⟩,flN mthP (cutL 32 l) 3,0,0,[]⟩] }) else none) else none):=by
 obtain ⟨h1,h2⟩:=Zj1 l;rw [Jr,(Zbi l).1,h1]
 split
 ·rfl
 ·cases hw:(fstW l == Zq) with
  | false=>rfl
  | true =>
    cases hb:mlB l with
    | false=>rfl
    | true =>
      obtain ⟨e1,e2,e3⟩:=h2 hb;rw [e1,e2,e3];rfl
theorem Xo (st:Nat) (c:Cls) (l:List UInt8):stepD st c l=Zt st c l:=by
 unfold stepD Zt;by_cases h0:st=0
 ·rw [if_pos h0,if_pos h0,(Jq l wClass).1,(Jq l wClass).2]
 rw [if_neg h0,if_neg h0];by_cases h1:st=1
 ·rw [if_pos h1,if_pos h1,(Jq l wSup).1,(Jq l wSup).2]
 rw [if_neg h1,if_neg h1];by_cases h2:st=2
 ·rw [if_pos h2,if_pos h2,(Jq l wIface).1,(Jq l wIface).2,(Zj9 clsP l).1,(Zbi l).1,Bool.and_comm]
  split
  ·rfl
  ·split
   ·rename_i e
    simp only [Bool.and_eq_true] at e;rw [(Zj9 clsP l).2 e.2]
   ·rfl
 rw [if_neg h2,if_neg h2];by_cases h3:st=3
 ·rw [if_pos h3,if_pos h3,(Jq l wLoader).1,(Jq l wLoader).2,Bool.and_comm]
 rw [if_neg h3,if_neg h3];by_cases h4:st=4
 ·subst h4;rw [if_pos (.inl rfl),if_pos rfl,step_M,if_neg (show ¬ (4:Nat)=7 by decide)]
 rw [if_neg h4];by_cases h7:st=7
 ·subst h7;rw [if_pos (.inr rfl),if_neg (show ¬ (7:Nat)=5 by decide),if_neg (show ¬ (7:Nat)=6 by decide),if_pos rfl,if_pos rfl,step_M]
  cases he:(l == wEnd) with
  | true =>
    have:docP l=none:=no_op (by rw [eq_of_beq he];exact (Zoo (show (32:UInt8) ∉ wEnd by decide)).1) op_end;rw [this]
  | false =>
    cases hm:((cutL 32 l).getD 0 [] == Zq) with
    | true =>
      have:docP l=none:=no_op (by rw [← (Zbi l).1];exact eq_of_beq hm) Zn5;rw [this]
    | false=>rfl
 rw [if_neg (show ¬ (st=4∨st=7) by omega)];by_cases h5:st=5
 ·rw [if_pos h5,if_pos h5,(Jq l Zp).1,(Jq l Zp).2]
 rw [if_neg h5,if_neg h5];by_cases h6:st=6
 ·rw [if_pos h6,if_pos h6,(Jq l Z3).1,(Jq l Z3).2]
 rw [if_neg h6,if_neg h6,if_neg h7]
theorem bsz0 (s:ByteArray):s.data.toList.length=s.size:=by rw [Array.length_toList];rfl
theorem gl_snoc (L:List (List UInt8)) (hL:L≠[]) (x:List UInt8):gl (L++[x])=gl L++32::x:=by
 induction L with
 | nil=>exact absurd rfl hL
 | cons a r ih =>
   cases r with
   | nil=>rfl
   | cons b r =>
     have:=ih (by simp);simp only [List.cons_append] at this ⊢;rw [gl,this,gl];simp
theorem Zj6 (L:List (List UInt8)) (k:Nat):(gl (L.take k)).length≤(gl L).length:=by
 induction L generalizing k with
 | nil=>simp
 | cons a r ih =>
   cases k with
   | zero=>simp [gl]
   | succ k =>
     cases r with
     | nil=>simp
     | cons b r =>
       have:=ih k
       cases k with
       | zero=>simp [gl]
       | succ k =>
         simp only [List.take_succ_cons] at this ⊢;simp only [gl,List.length_append,List.length_cons];omega
theorem Zg7 (v:Value) (ls:List (List UInt8)) (k:Nat) (W:World) (h:IsStrs W v ls) (hk:k<ls.length) (hgl:(gl (ls.drop k)).length≤1000000) :
 Calls Tryz.prog 92 #[v,.int .i64 k] W fun e w'=>e=.returned (.string ⟨(gl (ls.drop k)).toArray⟩)∧Bw W w':=by
 obtain ⟨ao,cap,rfl,h1,h2,h3⟩:=h;obtain ⟨bk,o,rfl,hbk,hc⟩:=h3 (by intro e;rw [e] at hk;simp at hk);unfold maxLen at h2;have HA:Hid _:=hc;obtain ⟨x0,hx0⟩:∃ x,ls[k]?=some x:=⟨_,List.getElem?_eq_getElem hk⟩;have c0:=hc k x0 hx0;have HX:Hid (gl ((ls.drop k).take 1)=x0):=by
  obtain ⟨h1,h2⟩:=List.getElem?_eq_some_iff.1 hx0;rw [Hid,List.drop_eq_getElem_cons h1,h2];rfl
 obtain ⟨N,hN⟩:∃ N,ls.length=N:=⟨_,rfl⟩;rw [hN] at h1 hk ⊢;have HN:Hid (ls.length=N):=hN;have HG:Hid _:=hgl;have HT:Hid _:=Zj6 (ls.drop k);clear hc h3 hN hgl hx0;go_enter Tryz.func92,Tryz.ntmps92;go_wp2;go_loopw [5,6] (fun sv iv wr=>∃ (i:Nat) (S:ByteArray),iv=.int .i64 i∧sv=.string S∧k+1≤i∧i≤N∧Hid (Bw W wr)∧Hid (S.data.toList=gl ((ls.drop k).take (i - k)))) (fun _ iv _=>N - (intOf iv).toNat)
 case atStart=>exact ⟨k+1,⟨x0.toArray⟩,by go_num,rfl,Nat.le_refl _,by omega,Below.refl _ _,by rw [Hid,show k+1 - k=1 by omega,HX.out]⟩
 case round =>
  obtain ⟨i,S,rfl,rfl,hi1,hi2,hb,hS⟩:=hrel;have hSl:S.size≤1000000:=by have:=HT.out (i - k);rw [← hS.out,bsz0] at this;have:=HG.out;omega
  by_cases hlt:i<N
  ·obtain ⟨x,hx⟩:∃ x,ls[i]?=some x:=⟨_,List.getElem?_eq_getElem (by rw [HN.out];exact hlt)⟩;have g0:=(hb.out.cell (p:=⟨bk,o+i,none⟩) hbk).trans (HA.out i x hx);have hbk2:bk<wr.heap.size:=Nat.lt_of_lt_of_le hbk hb.out.size;have hgx:gl ((ls.drop k).take (i+1 - k))=S.data.toList++32::x:=by
    have e1:(ls.drop k)[i - k]?=some x:=by rw [List.getElem?_drop,show k+(i - k)=i by omega];exact hx
    rw [show i+1 - k=(i - k)+1 by omega,List.take_succ_eq_append_getElem (List.getElem?_eq_some_iff.1 e1).1,(List.getElem?_eq_some_iff.1 e1).2,gl_snoc _ (by
     intro e;have:=congrArg List.length e;rw [List.length_take,List.length_drop,HN.out,List.length_nil] at this;omega),← hS.out]
   have hxl:x.length+S.size+1≤1000000:=by
    have:=HT.out (i+1 - k);rw [hgx,List.length_append,List.length_cons,bsz0] at this;have:=HG.out;omega
   have HGX:Hid _:=hgx;obtain ⟨X,hX⟩:∃ X:ByteArray,X=⟨x.toArray⟩:=⟨_,rfl⟩;have hXs:X.size=x.length:=by rw [hX,Zk]
   have HXX:Hid (X.data.toList=x):=by rw [Hid,hX]
   rw [← hX] at g0;have h32:(⟨#[32]⟩:ByteArray).size=1:=rfl;have k1:¬ 9223372036854775807<S.size+1:=by omega
   have k2:¬ 9223372036854775807<S.size+1+X.size:=by omega
   clear hS hgx hX hx;go_wp2
   all_goals (try go_region)
   all_goals (try go_wp2)
   all_goals go_roundw
   case rel=>exact ⟨i+1,S++⟨#[32]⟩++X,by go_num,rfl,by omega,by omega,hb,by rw [Hid,HGX.out,← HXX.out];simp [ByteArray.data_append]⟩
   case measure=>simp [intOf];omega
  ·have e:i=N:=by omega
   subst e;have HR:Hid (S=⟨(gl (ls.drop k)).toArray⟩):=by
    apply Zf;rw [hS.out,List.take_of_length_le (by rw [List.length_drop,HN.out];exact Nat.le_refl _)]
   clear hS;go_wp2;go_ret
   exact ⟨congrArg (fun b=>Ending.returned (.string b)) HR.out,hb.out⟩
end Go.Proofs.YtfbhjfpkhofifaaGreatDoor
