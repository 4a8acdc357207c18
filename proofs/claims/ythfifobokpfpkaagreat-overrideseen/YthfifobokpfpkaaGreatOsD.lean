import Derived.Test.YthfifobokpfpkaaGreatOvR
import Derived.Test.YthfifobokpfpkaaGreatOsB
import Derived.Test.YthfifobokpfpkaaGreatHrQ
import Derived.Test.YthfifobokpfpkaaGreatMxC
import Derived.Deep.DeepCutAuto
set_option maxRecDepth 100000
namespace Go.Proofs.YthfifobokpfpkaaGreat
open Go.RowKit Go.Maps
set_option maxHeartbeats 64000000 in
theorem osn_3a (ps:List Plc) (W:World) (v:Value) (r a1 a2:Int) (xn xd:ByteArray) (xf xl xs:Int) (A:List (Int×Int)) (n:Nat) (HAn:Hid (A.length=n)) (hn:n≤300) (HRI:Hid (∀ (i j:Nat) (x y:Int×Int),i<j→A[i]?=some x→A[j]?=some y→x.1<y.1)) (h2:(bits .and .i64 xf 2 != 0)=false) (HB:Hid (∀ w:World,Below W.heap.size W w→Calls Tryz.prog 16 #[v] w fun e w'=>(∃ b,e=.returned (.pointer (some ⟨b,0,none⟩))∧WAt b ps w')∧Below w.heap.size w w'))
    (HMt:Hid (∀ b w,WAt b ps w→Calls Tryz.prog 17 #[.pointer (some ⟨b,0,none⟩),.agg #[.int .i64 a1,.int .i64 a2]] w fun e w'=>(∃ sa sk so,e=.returned (.tuple #[.agg #[.string xn,.string xd,.int .i64 xf,.int .i64 xl,.int .i64 xs,.slice sa sk so],.int .i64 0]))∧Below w.heap.size w w'))
    (HAl:Hid (∀ b w,WAt b ps w→Calls Tryz.prog 18 #[.pointer (some ⟨b,0,none⟩),.agg #[.int .i64 a1,.int .i64 a2]] w fun e w'=>(∃ v,e=.returned (.tuple #[v,.int .i64 0])∧w'.ownsRow w.heap.size 24 2 v n (flatD A))∧Below w.heap.size w w'))
    (HOv:Hid (∀ x∈A,∀ b w,WAt b ps w→Calls Tryz.prog 19 #[.pointer (some ⟨b,0,none⟩),.agg #[.int .i64 x.1,.int .i64 x.2],.agg #[.int .i64 a1,.int .i64 a2]] w fun e w'=>e=.returned (.tuple #[.bool true,.int .i64 0])∧Below w.heap.size w w'))
    (l:List Nat) (KK:Nat) (HKL:Hid (l.length=KK)) (hK3:KK≤1000000) (f1 f2 fe:Int) (op ifa:Bool) (HOP:Hid (op=((bits .and .i64 xf 5 != 0)&&((bits .and .i64 xf 8 == 0)&&(!(xn.toList == [60,105,110,105,116,62])&&!ifa))))) (F:Nat→Int×Int) (Y:Nat→HM) (IF EX:Nat→Bool)
    (HC:Hid (∀ b w,WAt b ps w→Calls Tryz.prog 21 #[.pointer (some ⟨b,0,none⟩),.int .i64 r] w fun e w'=>(∃ cv,e=.returned (.tuple #[cv,.int .i64 0])∧w'.ownsRow w.heap.size 3 1 cv KK (l.map numV))∧Below w.heap.size w w'))
    (HFi:Hid (∀ b w,WAt b ps w→Calls Tryz.prog 22 #[.pointer (some ⟨b,0,none⟩),.int .i64 r,.agg #[.int .i64 a1,.int .i64 a2]] w fun e w'=>(e=.returned (.tuple #[.agg #[.int .i64 f1,.int .i64 f2],.int .i64 fe]))∧Below w.heap.size w w'))
    (HIa:Hid (∀ b w,WAt b ps w→Calls Tryz.prog 23 #[.pointer (some ⟨b,0,none⟩),.int .i64 a1] w fun e w'=>(e=.returned (.bool ifa))∧Below w.heap.size w w'))
    (HFd:Hid (∀ (c:Nat),∀ b w,WAt b ps w→Calls Tryz.prog 24 #[.pointer (some ⟨b,0,none⟩),.int .i64 (c:Int),.string xn,.string xd] w fun e w'=>(e=.returned (.tuple #[.int .i64 (F c).1,.int .i64 (F c).2]))∧Below w.heap.size w w'))
    (HIf:Hid (∀ (c:Nat),∀ b w,WAt b ps w→Calls Tryz.prog 23 #[.pointer (some ⟨b,0,none⟩),.int .i64 (c:Int)] w fun e w'=>(e=.returned (.bool (IF c)))∧Below w.heap.size w w'))
    (HEx:Hid (∀ (c:Nat),∀ b w,WAt b ps w→Calls Tryz.prog 25 #[.pointer (some ⟨b,0,none⟩),.int .i64 (c:Int),.int .i64 a1] w fun e w'=>(e=.returned (.bool (EX c)))∧Below w.heap.size w w'))
    (HMy:Hid (∀ (c:Nat),(F c).2=0→∀ b w,WAt b ps w→Calls Tryz.prog 17 #[.pointer (some ⟨b,0,none⟩),.agg #[.int .i64 (c:Int),.int .i64 (F c).1]] w fun e w'=>(∃ sa sk so,e=.returned (.tuple #[.agg #[.string (Y c).nm,.string (Y c).ds,.int .i64 (Y c).fl,.int .i64 (Y c).lo,.int .i64 (Y c).st,.slice sa sk so],.int .i64 0]))∧Below w.heap.size w w'))
    (HCH1:Hid (∀ (k c:Nat),l[k]?=some c→(∀ d∈l.take k,∀ y∈A,¬ y.1=(d:Int))→∀ y∈A,y.1=(c:Int)→(f1,f2)=y∧fe=0))
    (HCH2:Hid (∀ (k c:Nat),l[k]?=some c→(∀ y∈A,¬ y.1=(c:Int))→(F c).2=0→op=true→IF c=false→EX c=true→(bits .and .i64 (Y c).fl 10 == 0)=false))
    (HEND:Hid ((∀ c∈l,∀ y∈A,¬ y.1=(c:Int))→fe=6)):Calls Tryz.prog 3 #[v,.int .i64 r,.agg #[.int .i64 a1,.int .i64 a2]] W fun e w'=>e=.returned (.bool true)∧Below W.heap.size W w':=by
  have HA:Hid (∀ w:World,Calls Tryz.prog 15 #[] w fun e w'=>e=.returned (.bool true)∧Below w.heap.size w w'):=awake9_c
  have BB:Hid (Below W.heap.size W W):=Below.refl _ _
  have SI:Hid (∀ (a1 a2:Int) (w:World),Calls Tryz.prog 20 #[.agg #[.int .i64 a1,.int .i64 a2],.agg #[.int .i64 a1,.int .i64 a2]] w fun e w'=>e=.returned (.bool true)∧Below w.heap.size w w'):=fun a1 a2 w=>(sameID_c (a1,a2) (a1,a2) w).mono fun e w' zz=>⟨by rw [zz.1];simp,zz.2⟩
  go_enter Tryz.func3,Tryz.ntmps3
  go_wp2_with (first
    | (go_at_call 15;refine (HA.out _).mono ?_;rintro e w1 ⟨rfl,hb⟩;have aad:=kp2 (n:=W.heap.size) hb;(try clear aaB aa0 aa1 aaf aaL aaN);obtain ⟨aaB,aa0,aa1,aaf,aaL,aaN⟩:=aad;have BB2:Below W.heap.size W w1:=bstep (by repeat (first|refine Below.setCell ?_ (by simp;try omega) _|refine Below.alloc ?_ (by have:=BB.out.size;simp;try omega) _|refine Below.drew ?_|exact BB.out)) hb;clear BB;have BB:Hid (Below W.heap.size W w1):=BB2;clear BB2;clear hb HA)
    | (go_at_call 16;refine (HB.out _ BB.out).mono ?_;rintro e w2 ⟨⟨b,rfl,hw⟩,hb⟩;have HH:Hid (WAt b ps w2):=hw;have aad:=kp2 (n:=W.heap.size) hb;(try clear aaB aa0 aa1 aaf aaL aaN);obtain ⟨aaB,aa0,aa1,aaf,aaL,aaN⟩:=aad;have BB2:Below W.heap.size W w2:=bstep (by repeat (first|refine Below.setCell ?_ (by simp;try omega) _|refine Below.alloc ?_ (by have:=BB.out.size;simp;try omega) _|refine Below.drew ?_|exact BB.out)) hb;clear BB;have BB:Hid (Below W.heap.size W w2):=BB2;clear BB2;clear hb HB hw)
    | (go_at_call 17;refine (HMt.out _ _ HH.out).mono ?_;rintro e w3 ⟨⟨sa,sk,so,rfl⟩,hb⟩;have aad:=kp2 (n:=W.heap.size) hb;(try clear aaB aa0 aa1 aaf aaL aaN);obtain ⟨aaB,aa0,aa1,aaf,aaL,aaN⟩:=aad;have BB2:Below W.heap.size W w3:=bstep (by repeat (first|refine Below.setCell ?_ (by simp;try omega) _|refine Below.alloc ?_ (by have:=BB.out.size;simp;try omega) _|refine Below.drew ?_|exact BB.out)) hb;clear BB;have BB:Hid (Below W.heap.size W w3):=BB2;clear BB2;have HH2:=HH.out.below hb;clear HH;have HH:Hid (WAt b ps w3):=HH2;clear HH2;clear hb HMt)
    | (go_at_call 18;refine (HAl.out _ _ (HH.out.below (by repeat (first|refine Below.setCell ?_ (by simp;try omega) _|refine Below.alloc ?_ (by simp;try omega) _|exact Below.refl _ _)))).mono ?_;rintro e w4 ⟨⟨vo,rfl,ho⟩,hb⟩;obtain ⟨x1,x2,rfl⟩:=ownv ho;have OA:Hid (w4.ownsRow w3.heap.size 24 2 (.slice x1 n x2) n (flatD A)):=Go.Joins.ownsRow_le ho (by simp);have aad:=kp2 (n:=W.heap.size) hb;(try clear aaB aa0 aa1 aaf aaL aaN);obtain ⟨aaB,aa0,aa1,aaf,aaL,aaN⟩:=aad;have xxd:=kp6 (n:=w3.heap.size) hb;(try clear xxB xx0 xx1 xx2 xx3 xx4 xx5 xxf xxL xxN);obtain ⟨xxB,xx0,xx1,xx2,xx3,xx4,xx5,xxf,xxL,xxN⟩:=xxd;have BB2:Below W.heap.size W w4:=bstep (by repeat (first|refine Below.setCell ?_ (by simp;try omega) _|refine Below.alloc ?_ (by have:=BB.out.size;simp;try omega) _|refine Below.drew ?_|exact BB.out)) hb;clear BB;have BB:Hid (Below W.heap.size W w4):=BB2;clear BB2;have HH2:=(HH.out.below (by repeat (first|refine Below.setCell ?_ (by simp;try omega) _|refine Below.alloc ?_ (by simp;try omega) _|exact Below.refl _ _))).below hb;clear HH;have HH:Hid (WAt b ps w4):=HH2;clear HH2;clear hb HAl ho))
  have aaW0:Hid (w4.cell? ⟨W.heap.size,0,none⟩=some (.int .i64 a1)):=aa0
  have HW4:Hid (∀ w',Below w4.heap.size w4 w'→WAt b ps w'):=fun w' hb=>HH.out.below hb
  obtain ⟨σ,V,hne,V1,V2⟩:=class_of' (fun w'=>Below w4.heap.size w4 w') ⟨_,Below.refl _ _⟩
  have aV0:∀ s,(V s).cell? ⟨W.heap.size,0,none⟩=some (.int .i64 a1):=fun s=>((V1.out s).cell (p:=⟨W.heap.size,0,none⟩) aaL).trans aa0
  have aV1:∀ s,(V s).cell? ⟨W.heap.size,1,none⟩=some (.int .i64 a2):=fun s=>((V1.out s).cell (p:=⟨W.heap.size,1,none⟩) aaL).trans aa1
  have xV2:∀ s,(V s).cell? ⟨w3.heap.size,2,none⟩=some (.int .i64 xf):=fun s=>((V1.out s).cell (p:=⟨w3.heap.size,2,none⟩) xxL).trans xx2
  go_loopw [12] (fun kv wr=>∃ (k:Nat),kv=.int .i64 k∧k≤n∧Hid (Below w4.heap.size w4 wr)) (fun kv _=>n - (intOf kv).toNat)
  case atStart=>exact ⟨0,rfl,Nat.zero_le _,Below.refl _ _⟩
  case round =>
    obtain ⟨k,rfl,hk,hB⟩:=hrel
    by_cases hlt:k<n
    · have hkI:(k:Int)<(n:Int):=by omega
      obtain ⟨x,hx⟩:∃ x,A[k]?=some x:=⟨_,List.getElem?_eq_getElem (by rw [HAn.out];exact hlt)⟩
      obtain ⟨g,c2,hform⟩:=Go.Joins.ownsRow_form OA.out (by omega)
      have hrow:=OA.out
      rw [hform] at hrow
      obtain ⟨e0,e1,hgl⟩:=rowD_cells (l:=A) (by rw [HAn.out];exact hrow) hx
      injection hform with hca _ hcc
      subst hca hcc
      have hOv:=HOv.out x (List.mem_of_getElem? hx)
      have HPR:Hid (∀ j y,k=j+1→A[j]?=some y→y.1<x.1):=fun j y hj hy=>HRI.out j k y x (by omega) hy hx
      obtain ⟨b1,b2⟩:=x
      simp only at e0 e1
      have tV0:∀ s,(V s).cell? ⟨g,k * 2,none⟩=some (.int .i64 b1):=fun s=>((V1.out s).cell (p:=⟨g,k * 2,none⟩) hgl).trans e0
      have tV1:∀ s,(V s).cell? ⟨g,k * 2+1,none⟩=some (.int .i64 b2):=fun s=>((V1.out s).cell (p:=⟨g,k * 2+1,none⟩) hgl).trans e1
      have HO1:Hid (∀ s,Calls Tryz.prog 19 #[.pointer (some ⟨b,0,none⟩),.agg #[.int .i64 b1,.int .i64 b2],.agg #[.int .i64 a1,.int .i64 a2]] (V s) fun e w''=>e=.returned (.tuple #[.bool true,.int .i64 0])∧∃ s',w''=V s'):=fun s=>(hOv b _ (HW4.out _ (V1.out s))).mono fun e w'' zz=>⟨zz.1,V2.out _ (bstep (V1.out s) zz.2)⟩
      go_wp2
      refine wp_region_class (C:=fun w'=>∃ s,w'=V s) (by kernel_rfl) (by kernel_rfl) (V2.out _ (hB.out.drew)) ?_
      repeat (go_big_quiet_step (first|(go_at_call 19;exact HO1.out _)))
      refine wpQuiet_nil ?_
      intro w9 hw9
      obtain ⟨s9,hw9⟩:=hw9
      have B9:Hid (Below w4.heap.size w4 w9):=by rw [hw9];exact V1.out s9
      clear hw9
      cases k with
      | zero =>
        clear hx hOv hrow HOv HRI HPR
        go_wp2
        refine wp_region_class (C:=fun w'=>∃ s,w'=V s) (by kernel_rfl) (by kernel_rfl) (V2.out _ (B9.out.drew)) ?_
        repeat (go_big_quiet_step (first|fail))
        refine wpQuiet_nil ?_
        intro w10 hw9
        obtain ⟨s9,hw9⟩:=hw9
        have B10:Hid (Below w4.heap.size w4 w10):=by rw [hw9];exact V1.out s9
        clear hw9
        go_wp2
        go_roundw
        case rel=>exact ⟨0+1,by go_num,by omega,B10⟩
        case measure=>simp [intOf];omega
      | succ j =>
        obtain ⟨y,hy⟩:∃ y,A[j]?=some y:=⟨_,List.getElem?_eq_getElem (by rw [HAn.out];omega)⟩
        obtain ⟨y0,_,_⟩:=rowD_cells (l:=A) (by rw [HAn.out];exact hrow) hy
        have hlt2:=HPR.out j y rfl hy
        obtain ⟨d1,d2⟩:=y
        simp only at y0 hlt2
        have uV0:∀ s,(V s).cell? ⟨g,j * 2,none⟩=some (.int .i64 d1):=fun s=>((V1.out s).cell (p:=⟨g,j * 2,none⟩) hgl).trans y0
        have hle:¬ b1≤d1:=by omega
        have hled:decide (b1≤d1)=false:=by simp;omega
        have hjI:(j:Int)<(n:Int):=by omega
        have hj0:(0:Int)<(j:Int)+1:=by omega
        have hsub:((j:Int)+1 - 1)=(j:Int):=by omega
        clear hx hOv hrow HOv HRI HPR hy
        go_wp2
        refine wp_region_class (C:=fun w'=>∃ s,w'=V s) (by kernel_rfl) (by kernel_rfl) (V2.out _ (B9.out.drew)) ?_
        repeat (go_big_quiet_step (first|fail))
        refine wpQuiet_nil ?_
        intro w10 hw9
        obtain ⟨s9,hw9⟩:=hw9
        have B10:Hid (Below w4.heap.size w4 w10):=by rw [hw9];exact V1.out s9
        clear hw9
        go_wp2
        go_roundw
        case rel=>exact ⟨j+1+1,by go_num,by omega,B10⟩
        case measure=>simp [intOf];omega
    · have e:n=k:=by omega
      subst e
      clear HOv HRI
      go_upto_region 16 with (fail)
      have HQ:Hid (∀ (a1 a2:Int) s,Calls Tryz.prog 20 #[.agg #[.int .i64 a1,.int .i64 a2],.agg #[.int .i64 a1,.int .i64 a2]] (V s) fun e w''=>e=.returned (.bool true)∧∃ s',w''=V s'):=fun a1 a2 s=>(SI.out a1 a2 (V s)).mono fun e w'' zz=>⟨zz.1,V2.out _ (bstep (V1.out s) zz.2)⟩
      refine wp_region_class (C:=fun w'=>∃ s,w'=V s) (by kernel_rfl) (by kernel_rfl) (V2.out _ (hB.out.drew)) ?_
      repeat (go_big_quiet_step (first|(go_at_call 20;exact HQ.out _ _ _)))
      refine wpQuiet_nil ?_
      intro w11 hw9
      obtain ⟨s9,hw9⟩:=hw9
      have B11:Hid (Below w4.heap.size w4 w11):=by rw [hw9];exact V1.out s9
      clear hw9
      clear HQ aV0 aV1 xV2 V1 V2 hB
      go_upto_region 22 with (first
        | (go_at_call 21;refine (HC.out _ _ (HW4.out _ B11.out)).mono ?_;rintro e w5 ⟨⟨cv,rfl,ho⟩,hb⟩;obtain ⟨y1,y2,rfl⟩:=ownv ho;have C5:Hid (w5.ownsRow w11.heap.size 3 1 (.slice y1 KK y2) KK (l.map numV)):=ho;have B5:Hid (Below w4.heap.size w4 w5):=bstep B11.out hb;have aa0:=(B5.out.cell (p:=⟨W.heap.size,0,none⟩) aaL).trans aa0;have aa1:=(B5.out.cell (p:=⟨W.heap.size,1,none⟩) aaL).trans aa1;clear hb HC ho B11)
        | (go_at_call 22;refine (HFi.out _ _ (HW4.out _ B5.out)).mono ?_;rintro e w6 ⟨rfl,hb⟩;have C6:Hid (w6.ownsRow w11.heap.size 3 1 (.slice y1 KK y2) KK (l.map numV)):=rowBelow C5.out hb;have B6:Hid (Below w4.heap.size w4 w6):=bstep B5.out hb;clear hb HFi C5 B5))
      clear hne
      obtain ⟨P,hP⟩:∃ P,P=w6.alloc (.cells #[.int .i64 f1,.int .i64 f2] 24):=⟨_,rfl⟩
      have BP:Hid (Below w4.heap.size w4 P):=by rw [hP];exact B6.out.alloc B6.out.size _
      have CP:Hid (P.ownsRow w11.heap.size 3 1 (.slice y1 KK y2) KK (l.map numV)):=by rw [hP];exact C6.out.alloc _
      have hPB:P.heap[w6.heap.size]?=some (.cells #[.int .i64 f1,.int .i64 f2] 24 (0,0)):=by rw [hP];exact halloc1 _ _
      obtain ⟨p0,p1,_,pL⟩:=rw2 hPB
      rw [← hP]
      clear hP hPB B6 C6
      have aP0:=(BP.out.cell (p:=⟨W.heap.size,0,none⟩) aaL).trans aaW0.out
      have aPL:W.heap.size<P.heap.size:=Nat.lt_of_lt_of_le aaL BP.out.size
      have xP0:=(BP.out.cell (p:=⟨w3.heap.size,0,none⟩) xxL).trans xx0
      have xP1:=(BP.out.cell (p:=⟨w3.heap.size,1,none⟩) xxL).trans xx1
      have xP2:=(BP.out.cell (p:=⟨w3.heap.size,2,none⟩) xxL).trans xx2
      have xPL:w3.heap.size<P.heap.size:=Nat.lt_of_lt_of_le xxL BP.out.size
      have HWP:Hid (∀ w',Below P.heap.size P w'→WAt b ps w'):=fun w' hb=>HW4.out _ (bstep BP.out hb)
      clear aa0 aa1
      go_cut [19] (fun s19 wx=>Hid (s19=.bool op∧Below P.heap.size P wx))
      case first =>
        cases h5:(bits .and .i64 xf 5 != 0)
        case' true=>cases h9:(bits .and .i64 xf 8 == 0)
        case' true.true=>cases hin:(xn.toList == [60,105,110,105,116,62])
        case' true.true.false=>cases ifa
        all_goals first
          | exact absurd (h8.symm.trans h9) (by decide)
          | (go_wp2_with (go_at_call 23; refine (HIa.out _ _ (HWP.out _ (Below.refl _ _))).mono ?_; rintro e w7 ⟨rfl, hb⟩; have B7 : Hid (Below P.heap.size P w7) := hb; clear hb HIa)
             go_meet
             refine ⟨congrArg Value.bool (by rw [HOP.out];simp [*]),?_⟩
             first|exact B7.out|exact Below.refl _ _)
      case rest =>
        obtain ⟨rfl,hB7⟩:=hcut.out
        have B7:Hid (Below P.heap.size P wc):=hB7
        clear hcut hB7
        obtain ⟨σ,V,hne,V1,V2⟩:=class_of' (fun w'=>Below P.heap.size P w') ⟨_,Below.refl _ _⟩
        have pV0:∀ s,(V s).cell? ⟨w6.heap.size,0,none⟩=some (.int .i64 f1):=fun s=>((V1.out s).cell (p:=⟨w6.heap.size,0,none⟩) pL).trans p0
        have pV1:∀ s,(V s).cell? ⟨w6.heap.size,1,none⟩=some (.int .i64 f2):=fun s=>((V1.out s).cell (p:=⟨w6.heap.size,1,none⟩) pL).trans p1
        have aV0:∀ s,(V s).cell? ⟨W.heap.size,0,none⟩=some (.int .i64 a1):=fun s=>((V1.out s).cell (p:=⟨W.heap.size,0,none⟩) aPL).trans aP0
        have xV0:∀ s,(V s).cell? ⟨w3.heap.size,0,none⟩=some (.string xn):=fun s=>((V1.out s).cell (p:=⟨w3.heap.size,0,none⟩) xPL).trans xP0
        have xV1:∀ s,(V s).cell? ⟨w3.heap.size,1,none⟩=some (.string xd):=fun s=>((V1.out s).cell (p:=⟨w3.heap.size,1,none⟩) xPL).trans xP1
        have HQ:Hid (∀ (a1 a2:Int) s,Calls Tryz.prog 20 #[.agg #[.int .i64 a1,.int .i64 a2],.agg #[.int .i64 a1,.int .i64 a2]] (V s) fun e w''=>e=.returned (.bool true)∧∃ s',w''=V s'):=fun a1 a2 s=>(SI.out a1 a2 (V s)).mono fun e w'' zz=>⟨zz.1,V2.out _ (bstep (V1.out s) zz.2)⟩
        go_wp2
        go_loopw [20] (fun kv wr=>∃ (k:Nat),kv=.int .i64 k∧k≤KK∧Hid (∀ c∈l.take k,∀ y∈A,¬ y.1=(c:Int))∧Hid (Below P.heap.size P wr)) (fun kv _=>KK - (intOf kv).toNat)
        case atStart=>exact ⟨0,rfl,Nat.zero_le _,(fun c hc=>by cases hc),B7⟩
        case round =>
          clear B7
          obtain ⟨k,rfl,hk,hG,hB⟩:=hrel
          by_cases hlk:k<KK
          · have hkI:(k:Int)<(KK:Int):=by omega
            obtain ⟨c,hc⟩:∃ c,l[k]?=some c:=⟨_,List.getElem?_eq_getElem (by rw [HKL.out];exact hlk)⟩
            obtain ⟨gc,cq,hform⟩:=Go.Joins.ownsRow_form CP.out (by omega)
            have hce:P.cell? ⟨gc,k,none⟩=some (.int .i64 (c:Int)):=by
              have hrow:=CP.out
              rw [hform] at hrow
              rw [hrow.cellAt k (by omega),List.getElem?_map,hc];rfl
            injection hform with hca _ hcc
            subst hca hcc
            have hgc:gc<P.heap.size:=World.block_lt_of_cell? P _ hce
            have cV:∀ s,(V s).cell? ⟨gc,k,none⟩=some (.int .i64 (c:Int)):=fun s=>((V1.out s).cell (p:=⟨gc,k,none⟩) hgc).trans hce
            have HC1:Hid (∀ y∈A,y.1=(c:Int)→(f1,f2)=y∧fe=0):=HCH1.out k c hc hG.out
            have HC2:Hid ((∀ y∈A,¬ y.1=(c:Int))→(F c).2=0→op=true→IF c=false→EX c=true→(bits .and .i64 (Y c).fl 10 == 0)=false):=HCH2.out k c hc
            have HG2:Hid ((∀ y∈A,¬ y.1=(c:Int))→∀ c∈l.take (k+1),∀ y∈A,¬ y.1=(c:Int)):=fun h d hd=>by
              rw [List.take_add_one,hc,Option.toList_some,List.mem_append] at hd
              rcases hd with hd|hd
              · exact hG.out d hd
              · rw [List.mem_singleton] at hd
                subst hd
                exact h
            have HF:Hid (∀ s,Calls Tryz.prog 24 #[.pointer (some ⟨b,0,none⟩),.int .i64 (c:Int),.string xn,.string xd] (V s) fun e w''=>e=.returned (.tuple #[.int .i64 (F c).1,.int .i64 (F c).2])∧∃ s',w''=V s'):=fun s=>(HFd.out c b _ (HWP.out _ (V1.out s))).mono fun e w'' zz=>⟨zz.1,V2.out _ (bstep (V1.out s) zz.2)⟩
            have HIc:Hid (∀ s,Calls Tryz.prog 23 #[.pointer (some ⟨b,0,none⟩),.int .i64 (c:Int)] (V s) fun e w''=>e=.returned (.bool (IF c))∧∃ s',w''=V s'):=fun s=>(HIf.out c b _ (HWP.out _ (V1.out s))).mono fun e w'' zz=>⟨zz.1,V2.out _ (bstep (V1.out s) zz.2)⟩
            have HEc:Hid (∀ s,Calls Tryz.prog 25 #[.pointer (some ⟨b,0,none⟩),.int .i64 (c:Int),.int .i64 a1] (V s) fun e w''=>e=.returned (.bool (EX c))∧∃ s',w''=V s'):=fun s=>(HEx.out c b _ (HWP.out _ (V1.out s))).mono fun e w'' zz=>⟨zz.1,V2.out _ (bstep (V1.out s) zz.2)⟩
            have HMc:Hid ((F c).2=0→∀ w,Below P.heap.size P w→Calls Tryz.prog 17 #[.pointer (some ⟨b,0,none⟩),.agg #[.int .i64 (c:Int),.int .i64 (F c).1]] w fun e w'=>(∃ sa sk so,e=.returned (.tuple #[.agg #[.string (Y c).nm,.string (Y c).ds,.int .i64 (Y c).fl,.int .i64 (Y c).lo,.int .i64 (Y c).st,.slice sa sk so],.int .i64 0]))∧Below w.heap.size w w'):=fun hF w hb=>HMy.out c hF b w (HWP.out _ hb)
            clear hc hG HCH1 HCH2 HEND HFd HIf HEx HMy HWP HW4
            generalize F c=Fc at *
            obtain ⟨F1,F2⟩:=Fc
            generalize Y c=Yc at *
            obtain ⟨yn,yd,yf,yl,ys,yk,yxs⟩:=Yc
            generalize IF c=fc at *
            generalize EX c=ec at *
            simp only at HF HMc HC2
            go_wp2
            go_loopw [21] (fun jv wr=>∃ (j:Nat),jv=.int .i64 j∧j≤n∧Hid (∀ y∈A.take j,¬ y.1=(c:Int))∧Hid (Below P.heap.size P wr)) (fun jv _=>n - (intOf jv).toNat)
            case atStart=>exact ⟨0,rfl,Nat.zero_le _,(fun y hy=>by cases hy),hB⟩
            case round =>
              clear hB
              obtain ⟨j,rfl,hj,hJ,hB⟩:=hrel
              by_cases hlj:j<n
              · have hjI:(j:Int)<(n:Int):=by omega
                obtain ⟨y,hy⟩:∃ y,A[j]?=some y:=⟨_,List.getElem?_eq_getElem (by rw [HAn.out];exact hlj)⟩
                obtain ⟨g,cr,hform⟩:=Go.Joins.ownsRow_form OA.out (by omega)
                have hrow:=OA.out
                rw [hform] at hrow
                obtain ⟨e0,e1,hgl⟩:=rowD_cells (l:=A) (by rw [HAn.out];exact hrow) hy
                injection hform with hca _ hcc
                first|subst hca hcc|(injection hca with hca;injection hca with hca;have hca2:=hca.symm;have hcc2:=hcc.symm;clear hca hcc;subst hca2;subst hcc2)
                have hgP:g<P.heap.size:=Nat.lt_of_lt_of_le hgl BP.out.size
                have tV0:∀ s,(V s).cell? ⟨g,j * 2,none⟩=some (.int .i64 y.1):=fun s=>((V1.out s).cell (p:=⟨g,j * 2,none⟩) hgP).trans ((BP.out.cell (p:=⟨g,j * 2,none⟩) hgl).trans e0)
                have tV1:∀ s,(V s).cell? ⟨g,j * 2+1,none⟩=some (.int .i64 y.2):=fun s=>((V1.out s).cell (p:=⟨g,j * 2+1,none⟩) hgP).trans ((BP.out.cell (p:=⟨g,j * 2+1,none⟩) hgl).trans e1)
                have hym:=List.mem_of_getElem? hy
                have HJ2:Hid (¬ y.1=(c:Int)→∀ y∈A.take (j+1),¬ y.1=(c:Int)):=fun h z hz=>by
                  rw [List.take_add_one,hy,Option.toList_some,List.mem_append,List.mem_singleton] at hz
                  rcases hz with hz|hz
                  · exact hJ.out z hz
                  · rw [hz];exact h
                by_cases he:y.1=(c:Int)
                · obtain ⟨hfy,hfe⟩:=HC1.out y hym he
                  subst hfy
                  simp only at he tV0 tV1
                  subst he
                  subst hfe
                  clear hy hym HJ2 hrow e0 e1 HC1 HC2 HG2 hJ
                  go_wp2
                  refine wp_region_class (C:=fun w'=>∃ s,w'=V s) (by kernel_rfl) (by kernel_rfl) (V2.out _ (hB.out.drew)) ?_
                  repeat (go_big_quiet_step (first|fail))
                  refine wpQuiet_nil ?_
                  intro w9 hw9
                  obtain ⟨s9,hw9⟩:=hw9
                  have B9:Hid (Below P.heap.size P w9):=by rw [hw9];exact V1.out s9
                  clear hw9
                  go_wp2
                  refine wp_region_class (C:=fun w'=>∃ s,w'=V s) (by kernel_rfl) (by kernel_rfl) (V2.out _ (B9.out.drew)) ?_
                  repeat (go_big_quiet_step (first|(go_at_call 20;exact HQ.out _ _ _)))
                  refine wpQuiet_nil ?_
                  intro w10 hw9
                  obtain ⟨s9,hw9⟩:=hw9
                  have B10:Hid (Below P.heap.size P w10):=by rw [hw9];exact V1.out s9
                  clear hw9
                  go_wp2
                  all_goals go_ret
                  all_goals exact ⟨retB (by simp),(BB.out.trans ((bstep BP.out B10.out).mono BB.out.size))⟩
                · have heb:(y.1 == (c:Int))=false:=by simp [he]
                  obtain ⟨y3,y4⟩:=y
                  simp only at tV0 tV1 he heb
                  clear hy hym hrow e0 e1 HC1 HC2 HG2 hJ
                  go_wp2
                  refine wp_region_class (C:=fun w'=>∃ s,w'=V s) (by kernel_rfl) (by kernel_rfl) (V2.out _ (hB.out.drew)) ?_
                  repeat (go_big_quiet_step (first|fail))
                  refine wpQuiet_nil ?_
                  intro w9 hw9
                  obtain ⟨s9,hw9⟩:=hw9
                  have B9:Hid (Below P.heap.size P w9):=by rw [hw9];exact V1.out s9
                  clear hw9
                  go_wp2
                  go_roundw
                  case rel=>exact ⟨j+1,by go_num,by omega,HJ2.out he,B9⟩
                  case measure=>simp [intOf];omega
              · have e:n=j:=by omega
                subst e
                have hnoA:∀ y∈A,¬ y.1=(c:Int):=by have:=hJ.out;rwa [← HAn.out,List.take_length] at this
                have HC3:=HC2.out hnoA
                have HG3:Hid (∀ c∈l.take (k+1),∀ y∈A,¬ y.1=(c:Int)):=HG2.out hnoA
                have HC4:Hid (F2=0→op=true→fc=false→ec=true→(bits .and .i64 yf 10 == 0)=false):=HC3
                clear hnoA HC3 HC2 HC1 HG2 hJ
                go_wp2
                refine wp_region_class (C:=fun w'=>∃ s,w'=V s) (by kernel_rfl) (by kernel_rfl) (V2.out _ (hB.out.drew)) ?_
                repeat (go_big_quiet_step (first|(go_at_call 24;exact HF.out _)))
                refine wpQuiet_nil ?_
                intro w9 hw9
                obtain ⟨s9,hw9⟩:=hw9
                have B9:Hid (Below P.heap.size P w9):=by rw [hw9];exact V1.out s9
                clear hw9
                have hcr9:=(B9.out.cell (p:=⟨gc,k,none⟩) hgc).trans hce
                go_upto_region 32 with (fail)
                by_cases hF:F2=0
                · subst hF
                  have HM0:=HMc.out rfl
                  have HMH:Hid (∀ w,Below P.heap.size P w→Calls Tryz.prog 17 #[.pointer (some ⟨b,0,none⟩),.agg #[.int .i64 (c:Int),.int .i64 F1]] w fun e w'=>(∃ sa sk so,e=.returned (.tuple #[.agg #[.string yn,.string yd,.int .i64 yf,.int .i64 yl,.int .i64 ys,.slice sa sk so],.int .i64 0]))∧Below w.heap.size w w'):=HM0
                  clear HM0 HMc
                  cases op
                  case' true=>cases fc
                  case' true.false=>cases ec
                  case' true.false.true=>have h10:=HC4.out rfl rfl rfl rfl
                  all_goals
                    refine wp_region_class (C:=fun w'=>∃ s,w'=V s) (by kernel_rfl) (by kernel_rfl) (V2.out _ (B9.out.drew)) ?_
                    repeat (go_big_quiet_step (first|(go_at_call 23;exact HIc.out _)|(go_at_call 25;exact HEc.out _)))
                    refine wpQuiet_nil ?_
                    intro w10 hw9
                    obtain ⟨s9,hw9⟩:=hw9
                    have B10:Hid (Below P.heap.size P w10):=by rw [hw9];exact V1.out s9
                    clear hw9
                    have hcr10:=(B10.out.cell (p:=⟨gc,k,none⟩) hgc).trans hce
                    go_wp2_with (go_at_call 17;refine (HMH.out _ B10.out).mono ?_;rintro e w12 ⟨⟨sa2,sk2,so2,rfl⟩,hb⟩;have B12:Hid (Below P.heap.size P w12):=bstep B10.out hb;clear hb HMH)
                    go_roundw
                  all_goals first
                    | exact ⟨k+1,by go_num,by omega,HG3,B10⟩
                    | exact ⟨k+1,by go_num,by omega,HG3,B12.out.alloc B12.out.size _⟩
                    | (simp [intOf];omega)
                · have hFb:(F2 == 0)=false:=by simp [hF]
                  refine wp_region_class (C:=fun w'=>∃ s,w'=V s) (by kernel_rfl) (by kernel_rfl) (V2.out _ (B9.out.drew)) ?_
                  repeat (go_big_quiet_step (first|(go_at_call 23;exact HIc.out _)|(go_at_call 25;exact HEc.out _)))
                  refine wpQuiet_nil ?_
                  intro w10 hw9
                  obtain ⟨s9,hw9⟩:=hw9
                  have B10:Hid (Below P.heap.size P w10):=by rw [hw9];exact V1.out s9
                  clear hw9
                  go_wp2
                  go_roundw
                  case rel=>exact ⟨k+1,by go_num,by omega,HG3,B10⟩
                  case measure=>simp [intOf];omega
          · have e:KK=k:=by omega
            subst e
            have hfe:=HEND.out (by have:=hG.out;rwa [← HKL.out,List.take_length] at this)
            have hfeb:(fe == 6)=true:=by simp [hfe]
            go_wp2
            all_goals go_ret
            all_goals exact ⟨retB (by simp [*]),(BB.out.trans ((bstep BP.out hB.out).mono BB.out.size))⟩
set_option maxHeartbeats 64000000 in
theorem osn_3b (ps:List Plc) (W:World) (v:Value) (r a1 a2:Int) (xn xd:ByteArray) (xf xl xs:Int) (A:List (Int×Int)) (n:Nat) (HAn:Hid (A.length=n)) (hn:n≤300) (HRI:Hid (∀ (i j:Nat) (x y:Int×Int),i<j→A[i]?=some x→A[j]?=some y→x.1<y.1)) (h2:(bits .and .i64 xf 2 != 0)=true) (h8:(bits .and .i64 xf 8 == 0)=false) (HB:Hid (∀ w:World,Below W.heap.size W w→Calls Tryz.prog 16 #[v] w fun e w'=>(∃ b,e=.returned (.pointer (some ⟨b,0,none⟩))∧WAt b ps w')∧Below w.heap.size w w'))
    (HMt:Hid (∀ b w,WAt b ps w→Calls Tryz.prog 17 #[.pointer (some ⟨b,0,none⟩),.agg #[.int .i64 a1,.int .i64 a2]] w fun e w'=>(∃ sa sk so,e=.returned (.tuple #[.agg #[.string xn,.string xd,.int .i64 xf,.int .i64 xl,.int .i64 xs,.slice sa sk so],.int .i64 0]))∧Below w.heap.size w w'))
    (HAl:Hid (∀ b w,WAt b ps w→Calls Tryz.prog 18 #[.pointer (some ⟨b,0,none⟩),.agg #[.int .i64 a1,.int .i64 a2]] w fun e w'=>(∃ v,e=.returned (.tuple #[v,.int .i64 0])∧w'.ownsRow w.heap.size 24 2 v n (flatD A))∧Below w.heap.size w w'))
    (HOv:Hid (∀ x∈A,∀ b w,WAt b ps w→Calls Tryz.prog 19 #[.pointer (some ⟨b,0,none⟩),.agg #[.int .i64 x.1,.int .i64 x.2],.agg #[.int .i64 a1,.int .i64 a2]] w fun e w'=>e=.returned (.tuple #[.bool true,.int .i64 0])∧Below w.heap.size w w'))
    (l:List Nat) (KK:Nat) (HKL:Hid (l.length=KK)) (hK3:KK≤1000000) (f1 f2 fe:Int) (op ifa:Bool) (HOP:Hid (op=((bits .and .i64 xf 5 != 0)&&((bits .and .i64 xf 8 == 0)&&(!(xn.toList == [60,105,110,105,116,62])&&!ifa))))) (F:Nat→Int×Int) (Y:Nat→HM) (IF EX:Nat→Bool)
    (HC:Hid (∀ b w,WAt b ps w→Calls Tryz.prog 21 #[.pointer (some ⟨b,0,none⟩),.int .i64 r] w fun e w'=>(∃ cv,e=.returned (.tuple #[cv,.int .i64 0])∧w'.ownsRow w.heap.size 3 1 cv KK (l.map numV))∧Below w.heap.size w w'))
    (HFi:Hid (∀ b w,WAt b ps w→Calls Tryz.prog 22 #[.pointer (some ⟨b,0,none⟩),.int .i64 r,.agg #[.int .i64 a1,.int .i64 a2]] w fun e w'=>(e=.returned (.tuple #[.agg #[.int .i64 f1,.int .i64 f2],.int .i64 fe]))∧Below w.heap.size w w'))
    (HIa:Hid (∀ b w,WAt b ps w→Calls Tryz.prog 23 #[.pointer (some ⟨b,0,none⟩),.int .i64 a1] w fun e w'=>(e=.returned (.bool ifa))∧Below w.heap.size w w'))
    (HFd:Hid (∀ (c:Nat),∀ b w,WAt b ps w→Calls Tryz.prog 24 #[.pointer (some ⟨b,0,none⟩),.int .i64 (c:Int),.string xn,.string xd] w fun e w'=>(e=.returned (.tuple #[.int .i64 (F c).1,.int .i64 (F c).2]))∧Below w.heap.size w w'))
    (HIf:Hid (∀ (c:Nat),∀ b w,WAt b ps w→Calls Tryz.prog 23 #[.pointer (some ⟨b,0,none⟩),.int .i64 (c:Int)] w fun e w'=>(e=.returned (.bool (IF c)))∧Below w.heap.size w w'))
    (HEx:Hid (∀ (c:Nat),∀ b w,WAt b ps w→Calls Tryz.prog 25 #[.pointer (some ⟨b,0,none⟩),.int .i64 (c:Int),.int .i64 a1] w fun e w'=>(e=.returned (.bool (EX c)))∧Below w.heap.size w w'))
    (HMy:Hid (∀ (c:Nat),(F c).2=0→∀ b w,WAt b ps w→Calls Tryz.prog 17 #[.pointer (some ⟨b,0,none⟩),.agg #[.int .i64 (c:Int),.int .i64 (F c).1]] w fun e w'=>(∃ sa sk so,e=.returned (.tuple #[.agg #[.string (Y c).nm,.string (Y c).ds,.int .i64 (Y c).fl,.int .i64 (Y c).lo,.int .i64 (Y c).st,.slice sa sk so],.int .i64 0]))∧Below w.heap.size w w'))
    (HCH1:Hid (∀ (k c:Nat),l[k]?=some c→(∀ d∈l.take k,∀ y∈A,¬ y.1=(d:Int))→∀ y∈A,y.1=(c:Int)→(f1,f2)=y∧fe=0))
    (HCH2:Hid (∀ (k c:Nat),l[k]?=some c→(∀ y∈A,¬ y.1=(c:Int))→(F c).2=0→op=true→IF c=false→EX c=true→(bits .and .i64 (Y c).fl 10 == 0)=false))
    (HEND:Hid ((∀ c∈l,∀ y∈A,¬ y.1=(c:Int))→fe=6)):Calls Tryz.prog 3 #[v,.int .i64 r,.agg #[.int .i64 a1,.int .i64 a2]] W fun e w'=>e=.returned (.bool true)∧Below W.heap.size W w':=by
  have HA:Hid (∀ w:World,Calls Tryz.prog 15 #[] w fun e w'=>e=.returned (.bool true)∧Below w.heap.size w w'):=awake9_c
  have BB:Hid (Below W.heap.size W W):=Below.refl _ _
  have SI:Hid (∀ (a1 a2:Int) (w:World),Calls Tryz.prog 20 #[.agg #[.int .i64 a1,.int .i64 a2],.agg #[.int .i64 a1,.int .i64 a2]] w fun e w'=>e=.returned (.bool true)∧Below w.heap.size w w'):=fun a1 a2 w=>(sameID_c (a1,a2) (a1,a2) w).mono fun e w' zz=>⟨by rw [zz.1];simp,zz.2⟩
  go_enter Tryz.func3,Tryz.ntmps3
  go_wp2_with (first
    | (go_at_call 15;refine (HA.out _).mono ?_;rintro e w1 ⟨rfl,hb⟩;have aad:=kp2 (n:=W.heap.size) hb;(try clear aaB aa0 aa1 aaf aaL aaN);obtain ⟨aaB,aa0,aa1,aaf,aaL,aaN⟩:=aad;have BB2:Below W.heap.size W w1:=bstep (by repeat (first|refine Below.setCell ?_ (by simp;try omega) _|refine Below.alloc ?_ (by have:=BB.out.size;simp;try omega) _|refine Below.drew ?_|exact BB.out)) hb;clear BB;have BB:Hid (Below W.heap.size W w1):=BB2;clear BB2;clear hb HA)
    | (go_at_call 16;refine (HB.out _ BB.out).mono ?_;rintro e w2 ⟨⟨b,rfl,hw⟩,hb⟩;have HH:Hid (WAt b ps w2):=hw;have aad:=kp2 (n:=W.heap.size) hb;(try clear aaB aa0 aa1 aaf aaL aaN);obtain ⟨aaB,aa0,aa1,aaf,aaL,aaN⟩:=aad;have BB2:Below W.heap.size W w2:=bstep (by repeat (first|refine Below.setCell ?_ (by simp;try omega) _|refine Below.alloc ?_ (by have:=BB.out.size;simp;try omega) _|refine Below.drew ?_|exact BB.out)) hb;clear BB;have BB:Hid (Below W.heap.size W w2):=BB2;clear BB2;clear hb HB hw)
    | (go_at_call 17;refine (HMt.out _ _ HH.out).mono ?_;rintro e w3 ⟨⟨sa,sk,so,rfl⟩,hb⟩;have aad:=kp2 (n:=W.heap.size) hb;(try clear aaB aa0 aa1 aaf aaL aaN);obtain ⟨aaB,aa0,aa1,aaf,aaL,aaN⟩:=aad;have BB2:Below W.heap.size W w3:=bstep (by repeat (first|refine Below.setCell ?_ (by simp;try omega) _|refine Below.alloc ?_ (by have:=BB.out.size;simp;try omega) _|refine Below.drew ?_|exact BB.out)) hb;clear BB;have BB:Hid (Below W.heap.size W w3):=BB2;clear BB2;have HH2:=HH.out.below hb;clear HH;have HH:Hid (WAt b ps w3):=HH2;clear HH2;clear hb HMt)
    | (go_at_call 18;refine (HAl.out _ _ (HH.out.below (by repeat (first|refine Below.setCell ?_ (by simp;try omega) _|refine Below.alloc ?_ (by simp;try omega) _|exact Below.refl _ _)))).mono ?_;rintro e w4 ⟨⟨vo,rfl,ho⟩,hb⟩;obtain ⟨x1,x2,rfl⟩:=ownv ho;have OA:Hid (w4.ownsRow w3.heap.size 24 2 (.slice x1 n x2) n (flatD A)):=Go.Joins.ownsRow_le ho (by simp);have aad:=kp2 (n:=W.heap.size) hb;(try clear aaB aa0 aa1 aaf aaL aaN);obtain ⟨aaB,aa0,aa1,aaf,aaL,aaN⟩:=aad;have xxd:=kp6 (n:=w3.heap.size) hb;(try clear xxB xx0 xx1 xx2 xx3 xx4 xx5 xxf xxL xxN);obtain ⟨xxB,xx0,xx1,xx2,xx3,xx4,xx5,xxf,xxL,xxN⟩:=xxd;have BB2:Below W.heap.size W w4:=bstep (by repeat (first|refine Below.setCell ?_ (by simp;try omega) _|refine Below.alloc ?_ (by have:=BB.out.size;simp;try omega) _|refine Below.drew ?_|exact BB.out)) hb;clear BB;have BB:Hid (Below W.heap.size W w4):=BB2;clear BB2;have HH2:=(HH.out.below (by repeat (first|refine Below.setCell ?_ (by simp;try omega) _|refine Below.alloc ?_ (by simp;try omega) _|exact Below.refl _ _))).below hb;clear HH;have HH:Hid (WAt b ps w4):=HH2;clear HH2;clear hb HAl ho))
  have aaW0:Hid (w4.cell? ⟨W.heap.size,0,none⟩=some (.int .i64 a1)):=aa0
  have HW4:Hid (∀ w',Below w4.heap.size w4 w'→WAt b ps w'):=fun w' hb=>HH.out.below hb
  obtain ⟨σ,V,hne,V1,V2⟩:=class_of' (fun w'=>Below w4.heap.size w4 w') ⟨_,Below.refl _ _⟩
  have aV0:∀ s,(V s).cell? ⟨W.heap.size,0,none⟩=some (.int .i64 a1):=fun s=>((V1.out s).cell (p:=⟨W.heap.size,0,none⟩) aaL).trans aa0
  have aV1:∀ s,(V s).cell? ⟨W.heap.size,1,none⟩=some (.int .i64 a2):=fun s=>((V1.out s).cell (p:=⟨W.heap.size,1,none⟩) aaL).trans aa1
  have xV2:∀ s,(V s).cell? ⟨w3.heap.size,2,none⟩=some (.int .i64 xf):=fun s=>((V1.out s).cell (p:=⟨w3.heap.size,2,none⟩) xxL).trans xx2
  go_loopw [12] (fun kv wr=>∃ (k:Nat),kv=.int .i64 k∧k≤n∧Hid (Below w4.heap.size w4 wr)) (fun kv _=>n - (intOf kv).toNat)
  case atStart=>exact ⟨0,rfl,Nat.zero_le _,Below.refl _ _⟩
  case round =>
    obtain ⟨k,rfl,hk,hB⟩:=hrel
    by_cases hlt:k<n
    · have hkI:(k:Int)<(n:Int):=by omega
      obtain ⟨x,hx⟩:∃ x,A[k]?=some x:=⟨_,List.getElem?_eq_getElem (by rw [HAn.out];exact hlt)⟩
      obtain ⟨g,c2,hform⟩:=Go.Joins.ownsRow_form OA.out (by omega)
      have hrow:=OA.out
      rw [hform] at hrow
      obtain ⟨e0,e1,hgl⟩:=rowD_cells (l:=A) (by rw [HAn.out];exact hrow) hx
      injection hform with hca _ hcc
      subst hca hcc
      have hOv:=HOv.out x (List.mem_of_getElem? hx)
      have HPR:Hid (∀ j y,k=j+1→A[j]?=some y→y.1<x.1):=fun j y hj hy=>HRI.out j k y x (by omega) hy hx
      obtain ⟨b1,b2⟩:=x
      simp only at e0 e1
      have tV0:∀ s,(V s).cell? ⟨g,k * 2,none⟩=some (.int .i64 b1):=fun s=>((V1.out s).cell (p:=⟨g,k * 2,none⟩) hgl).trans e0
      have tV1:∀ s,(V s).cell? ⟨g,k * 2+1,none⟩=some (.int .i64 b2):=fun s=>((V1.out s).cell (p:=⟨g,k * 2+1,none⟩) hgl).trans e1
      have HO1:Hid (∀ s,Calls Tryz.prog 19 #[.pointer (some ⟨b,0,none⟩),.agg #[.int .i64 b1,.int .i64 b2],.agg #[.int .i64 a1,.int .i64 a2]] (V s) fun e w''=>e=.returned (.tuple #[.bool true,.int .i64 0])∧∃ s',w''=V s'):=fun s=>(hOv b _ (HW4.out _ (V1.out s))).mono fun e w'' zz=>⟨zz.1,V2.out _ (bstep (V1.out s) zz.2)⟩
      go_wp2
      refine wp_region_class (C:=fun w'=>∃ s,w'=V s) (by kernel_rfl) (by kernel_rfl) (V2.out _ (hB.out.drew)) ?_
      repeat (go_big_quiet_step (first|(go_at_call 19;exact HO1.out _)))
      refine wpQuiet_nil ?_
      intro w9 hw9
      obtain ⟨s9,hw9⟩:=hw9
      have B9:Hid (Below w4.heap.size w4 w9):=by rw [hw9];exact V1.out s9
      clear hw9
      cases k with
      | zero =>
        clear hx hOv hrow HOv HRI HPR
        go_wp2
        refine wp_region_class (C:=fun w'=>∃ s,w'=V s) (by kernel_rfl) (by kernel_rfl) (V2.out _ (B9.out.drew)) ?_
        repeat (go_big_quiet_step (first|fail))
        refine wpQuiet_nil ?_
        intro w10 hw9
        obtain ⟨s9,hw9⟩:=hw9
        have B10:Hid (Below w4.heap.size w4 w10):=by rw [hw9];exact V1.out s9
        clear hw9
        go_wp2
        go_roundw
        case rel=>exact ⟨0+1,by go_num,by omega,B10⟩
        case measure=>simp [intOf];omega
      | succ j =>
        obtain ⟨y,hy⟩:∃ y,A[j]?=some y:=⟨_,List.getElem?_eq_getElem (by rw [HAn.out];omega)⟩
        obtain ⟨y0,_,_⟩:=rowD_cells (l:=A) (by rw [HAn.out];exact hrow) hy
        have hlt2:=HPR.out j y rfl hy
        obtain ⟨d1,d2⟩:=y
        simp only at y0 hlt2
        have uV0:∀ s,(V s).cell? ⟨g,j * 2,none⟩=some (.int .i64 d1):=fun s=>((V1.out s).cell (p:=⟨g,j * 2,none⟩) hgl).trans y0
        have hle:¬ b1≤d1:=by omega
        have hled:decide (b1≤d1)=false:=by simp;omega
        have hjI:(j:Int)<(n:Int):=by omega
        have hj0:(0:Int)<(j:Int)+1:=by omega
        have hsub:((j:Int)+1 - 1)=(j:Int):=by omega
        clear hx hOv hrow HOv HRI HPR hy
        go_wp2
        refine wp_region_class (C:=fun w'=>∃ s,w'=V s) (by kernel_rfl) (by kernel_rfl) (V2.out _ (B9.out.drew)) ?_
        repeat (go_big_quiet_step (first|fail))
        refine wpQuiet_nil ?_
        intro w10 hw9
        obtain ⟨s9,hw9⟩:=hw9
        have B10:Hid (Below w4.heap.size w4 w10):=by rw [hw9];exact V1.out s9
        clear hw9
        go_wp2
        go_roundw
        case rel=>exact ⟨j+1+1,by go_num,by omega,B10⟩
        case measure=>simp [intOf];omega
    · have e:n=k:=by omega
      subst e
      clear HOv HRI
      go_upto_region 16 with (fail)
      have HQ:Hid (∀ (a1 a2:Int) s,Calls Tryz.prog 20 #[.agg #[.int .i64 a1,.int .i64 a2],.agg #[.int .i64 a1,.int .i64 a2]] (V s) fun e w''=>e=.returned (.bool true)∧∃ s',w''=V s'):=fun a1 a2 s=>(SI.out a1 a2 (V s)).mono fun e w'' zz=>⟨zz.1,V2.out _ (bstep (V1.out s) zz.2)⟩
      refine wp_region_class (C:=fun w'=>∃ s,w'=V s) (by kernel_rfl) (by kernel_rfl) (V2.out _ (hB.out.drew)) ?_
      repeat (go_big_quiet_step (first|(go_at_call 20;exact HQ.out _ _ _)))
      refine wpQuiet_nil ?_
      intro w11 hw9
      obtain ⟨s9,hw9⟩:=hw9
      have B11:Hid (Below w4.heap.size w4 w11):=by rw [hw9];exact V1.out s9
      clear hw9
      clear HQ aV0 aV1 xV2 V1 V2 hB
      go_upto_region 22 with (first
        | (go_at_call 21;refine (HC.out _ _ (HW4.out _ B11.out)).mono ?_;rintro e w5 ⟨⟨cv,rfl,ho⟩,hb⟩;obtain ⟨y1,y2,rfl⟩:=ownv ho;have C5:Hid (w5.ownsRow w11.heap.size 3 1 (.slice y1 KK y2) KK (l.map numV)):=ho;have B5:Hid (Below w4.heap.size w4 w5):=bstep B11.out hb;have aa0:=(B5.out.cell (p:=⟨W.heap.size,0,none⟩) aaL).trans aa0;have aa1:=(B5.out.cell (p:=⟨W.heap.size,1,none⟩) aaL).trans aa1;clear hb HC ho B11)
        | (go_at_call 22;refine (HFi.out _ _ (HW4.out _ B5.out)).mono ?_;rintro e w6 ⟨rfl,hb⟩;have C6:Hid (w6.ownsRow w11.heap.size 3 1 (.slice y1 KK y2) KK (l.map numV)):=rowBelow C5.out hb;have B6:Hid (Below w4.heap.size w4 w6):=bstep B5.out hb;clear hb HFi C5 B5))
      clear hne
      obtain ⟨P,hP⟩:∃ P,P=w6.alloc (.cells #[.int .i64 f1,.int .i64 f2] 24):=⟨_,rfl⟩
      have BP:Hid (Below w4.heap.size w4 P):=by rw [hP];exact B6.out.alloc B6.out.size _
      have CP:Hid (P.ownsRow w11.heap.size 3 1 (.slice y1 KK y2) KK (l.map numV)):=by rw [hP];exact C6.out.alloc _
      have hPB:P.heap[w6.heap.size]?=some (.cells #[.int .i64 f1,.int .i64 f2] 24 (0,0)):=by rw [hP];exact halloc1 _ _
      obtain ⟨p0,p1,_,pL⟩:=rw2 hPB
      rw [← hP]
      clear hP hPB B6 C6
      have aP0:=(BP.out.cell (p:=⟨W.heap.size,0,none⟩) aaL).trans aaW0.out
      have aPL:W.heap.size<P.heap.size:=Nat.lt_of_lt_of_le aaL BP.out.size
      have xP0:=(BP.out.cell (p:=⟨w3.heap.size,0,none⟩) xxL).trans xx0
      have xP1:=(BP.out.cell (p:=⟨w3.heap.size,1,none⟩) xxL).trans xx1
      have xP2:=(BP.out.cell (p:=⟨w3.heap.size,2,none⟩) xxL).trans xx2
      have xPL:w3.heap.size<P.heap.size:=Nat.lt_of_lt_of_le xxL BP.out.size
      have HWP:Hid (∀ w',Below P.heap.size P w'→WAt b ps w'):=fun w' hb=>HW4.out _ (bstep BP.out hb)
      clear aa0 aa1
      go_cut [19] (fun s19 wx=>Hid (s19=.bool op∧Below P.heap.size P wx))
      case first =>
        cases h5:(bits .and .i64 xf 5 != 0)
        case' true=>cases h9:(bits .and .i64 xf 8 == 0)
        case' true.true=>cases hin:(xn.toList == [60,105,110,105,116,62])
        case' true.true.false=>cases ifa
        all_goals first
          | exact absurd (h8.symm.trans h9) (by decide)
          | (go_wp2_with (go_at_call 23; refine (HIa.out _ _ (HWP.out _ (Below.refl _ _))).mono ?_; rintro e w7 ⟨rfl, hb⟩; have B7 : Hid (Below P.heap.size P w7) := hb; clear hb HIa)
             go_meet
             refine ⟨congrArg Value.bool (by rw [HOP.out];simp [*]),?_⟩
             first|exact B7.out|exact Below.refl _ _)
      case rest =>
        obtain ⟨rfl,hB7⟩:=hcut.out
        have B7:Hid (Below P.heap.size P wc):=hB7
        clear hcut hB7
        obtain ⟨σ,V,hne,V1,V2⟩:=class_of' (fun w'=>Below P.heap.size P w') ⟨_,Below.refl _ _⟩
        have pV0:∀ s,(V s).cell? ⟨w6.heap.size,0,none⟩=some (.int .i64 f1):=fun s=>((V1.out s).cell (p:=⟨w6.heap.size,0,none⟩) pL).trans p0
        have pV1:∀ s,(V s).cell? ⟨w6.heap.size,1,none⟩=some (.int .i64 f2):=fun s=>((V1.out s).cell (p:=⟨w6.heap.size,1,none⟩) pL).trans p1
        have aV0:∀ s,(V s).cell? ⟨W.heap.size,0,none⟩=some (.int .i64 a1):=fun s=>((V1.out s).cell (p:=⟨W.heap.size,0,none⟩) aPL).trans aP0
        have xV0:∀ s,(V s).cell? ⟨w3.heap.size,0,none⟩=some (.string xn):=fun s=>((V1.out s).cell (p:=⟨w3.heap.size,0,none⟩) xPL).trans xP0
        have xV1:∀ s,(V s).cell? ⟨w3.heap.size,1,none⟩=some (.string xd):=fun s=>((V1.out s).cell (p:=⟨w3.heap.size,1,none⟩) xPL).trans xP1
        have HQ:Hid (∀ (a1 a2:Int) s,Calls Tryz.prog 20 #[.agg #[.int .i64 a1,.int .i64 a2],.agg #[.int .i64 a1,.int .i64 a2]] (V s) fun e w''=>e=.returned (.bool true)∧∃ s',w''=V s'):=fun a1 a2 s=>(SI.out a1 a2 (V s)).mono fun e w'' zz=>⟨zz.1,V2.out _ (bstep (V1.out s) zz.2)⟩
        go_wp2
        go_loopw [20] (fun kv wr=>∃ (k:Nat),kv=.int .i64 k∧k≤KK∧Hid (∀ c∈l.take k,∀ y∈A,¬ y.1=(c:Int))∧Hid (Below P.heap.size P wr)) (fun kv _=>KK - (intOf kv).toNat)
        case atStart=>exact ⟨0,rfl,Nat.zero_le _,(fun c hc=>by cases hc),B7⟩
        case round =>
          clear B7
          obtain ⟨k,rfl,hk,hG,hB⟩:=hrel
          by_cases hlk:k<KK
          · have hkI:(k:Int)<(KK:Int):=by omega
            obtain ⟨c,hc⟩:∃ c,l[k]?=some c:=⟨_,List.getElem?_eq_getElem (by rw [HKL.out];exact hlk)⟩
            obtain ⟨gc,cq,hform⟩:=Go.Joins.ownsRow_form CP.out (by omega)
            have hce:P.cell? ⟨gc,k,none⟩=some (.int .i64 (c:Int)):=by
              have hrow:=CP.out
              rw [hform] at hrow
              rw [hrow.cellAt k (by omega),List.getElem?_map,hc];rfl
            injection hform with hca _ hcc
            subst hca hcc
            have hgc:gc<P.heap.size:=World.block_lt_of_cell? P _ hce
            have cV:∀ s,(V s).cell? ⟨gc,k,none⟩=some (.int .i64 (c:Int)):=fun s=>((V1.out s).cell (p:=⟨gc,k,none⟩) hgc).trans hce
            have HC1:Hid (∀ y∈A,y.1=(c:Int)→(f1,f2)=y∧fe=0):=HCH1.out k c hc hG.out
            have HC2:Hid ((∀ y∈A,¬ y.1=(c:Int))→(F c).2=0→op=true→IF c=false→EX c=true→(bits .and .i64 (Y c).fl 10 == 0)=false):=HCH2.out k c hc
            have HG2:Hid ((∀ y∈A,¬ y.1=(c:Int))→∀ c∈l.take (k+1),∀ y∈A,¬ y.1=(c:Int)):=fun h d hd=>by
              rw [List.take_add_one,hc,Option.toList_some,List.mem_append] at hd
              rcases hd with hd|hd
              · exact hG.out d hd
              · rw [List.mem_singleton] at hd
                subst hd
                exact h
            have HF:Hid (∀ s,Calls Tryz.prog 24 #[.pointer (some ⟨b,0,none⟩),.int .i64 (c:Int),.string xn,.string xd] (V s) fun e w''=>e=.returned (.tuple #[.int .i64 (F c).1,.int .i64 (F c).2])∧∃ s',w''=V s'):=fun s=>(HFd.out c b _ (HWP.out _ (V1.out s))).mono fun e w'' zz=>⟨zz.1,V2.out _ (bstep (V1.out s) zz.2)⟩
            have HIc:Hid (∀ s,Calls Tryz.prog 23 #[.pointer (some ⟨b,0,none⟩),.int .i64 (c:Int)] (V s) fun e w''=>e=.returned (.bool (IF c))∧∃ s',w''=V s'):=fun s=>(HIf.out c b _ (HWP.out _ (V1.out s))).mono fun e w'' zz=>⟨zz.1,V2.out _ (bstep (V1.out s) zz.2)⟩
            have HEc:Hid (∀ s,Calls Tryz.prog 25 #[.pointer (some ⟨b,0,none⟩),.int .i64 (c:Int),.int .i64 a1] (V s) fun e w''=>e=.returned (.bool (EX c))∧∃ s',w''=V s'):=fun s=>(HEx.out c b _ (HWP.out _ (V1.out s))).mono fun e w'' zz=>⟨zz.1,V2.out _ (bstep (V1.out s) zz.2)⟩
            have HMc:Hid ((F c).2=0→∀ w,Below P.heap.size P w→Calls Tryz.prog 17 #[.pointer (some ⟨b,0,none⟩),.agg #[.int .i64 (c:Int),.int .i64 (F c).1]] w fun e w'=>(∃ sa sk so,e=.returned (.tuple #[.agg #[.string (Y c).nm,.string (Y c).ds,.int .i64 (Y c).fl,.int .i64 (Y c).lo,.int .i64 (Y c).st,.slice sa sk so],.int .i64 0]))∧Below w.heap.size w w'):=fun hF w hb=>HMy.out c hF b w (HWP.out _ hb)
            clear hc hG HCH1 HCH2 HEND HFd HIf HEx HMy HWP HW4
            generalize F c=Fc at *
            obtain ⟨F1,F2⟩:=Fc
            generalize Y c=Yc at *
            obtain ⟨yn,yd,yf,yl,ys,yk,yxs⟩:=Yc
            generalize IF c=fc at *
            generalize EX c=ec at *
            simp only at HF HMc HC2
            go_wp2
            go_loopw [21] (fun jv wr=>∃ (j:Nat),jv=.int .i64 j∧j≤n∧Hid (∀ y∈A.take j,¬ y.1=(c:Int))∧Hid (Below P.heap.size P wr)) (fun jv _=>n - (intOf jv).toNat)
            case atStart=>exact ⟨0,rfl,Nat.zero_le _,(fun y hy=>by cases hy),hB⟩
            case round =>
              clear hB
              obtain ⟨j,rfl,hj,hJ,hB⟩:=hrel
              by_cases hlj:j<n
              · have hjI:(j:Int)<(n:Int):=by omega
                obtain ⟨y,hy⟩:∃ y,A[j]?=some y:=⟨_,List.getElem?_eq_getElem (by rw [HAn.out];exact hlj)⟩
                obtain ⟨g,cr,hform⟩:=Go.Joins.ownsRow_form OA.out (by omega)
                have hrow:=OA.out
                rw [hform] at hrow
                obtain ⟨e0,e1,hgl⟩:=rowD_cells (l:=A) (by rw [HAn.out];exact hrow) hy
                injection hform with hca _ hcc
                first|subst hca hcc|(injection hca with hca;injection hca with hca;have hca2:=hca.symm;have hcc2:=hcc.symm;clear hca hcc;subst hca2;subst hcc2)
                have hgP:g<P.heap.size:=Nat.lt_of_lt_of_le hgl BP.out.size
                have tV0:∀ s,(V s).cell? ⟨g,j * 2,none⟩=some (.int .i64 y.1):=fun s=>((V1.out s).cell (p:=⟨g,j * 2,none⟩) hgP).trans ((BP.out.cell (p:=⟨g,j * 2,none⟩) hgl).trans e0)
                have tV1:∀ s,(V s).cell? ⟨g,j * 2+1,none⟩=some (.int .i64 y.2):=fun s=>((V1.out s).cell (p:=⟨g,j * 2+1,none⟩) hgP).trans ((BP.out.cell (p:=⟨g,j * 2+1,none⟩) hgl).trans e1)
                have hym:=List.mem_of_getElem? hy
                have HJ2:Hid (¬ y.1=(c:Int)→∀ y∈A.take (j+1),¬ y.1=(c:Int)):=fun h z hz=>by
                  rw [List.take_add_one,hy,Option.toList_some,List.mem_append,List.mem_singleton] at hz
                  rcases hz with hz|hz
                  · exact hJ.out z hz
                  · rw [hz];exact h
                by_cases he:y.1=(c:Int)
                · obtain ⟨hfy,hfe⟩:=HC1.out y hym he
                  subst hfy
                  simp only at he tV0 tV1
                  subst he
                  subst hfe
                  clear hy hym HJ2 hrow e0 e1 HC1 HC2 HG2 hJ
                  go_wp2
                  refine wp_region_class (C:=fun w'=>∃ s,w'=V s) (by kernel_rfl) (by kernel_rfl) (V2.out _ (hB.out.drew)) ?_
                  repeat (go_big_quiet_step (first|fail))
                  refine wpQuiet_nil ?_
                  intro w9 hw9
                  obtain ⟨s9,hw9⟩:=hw9
                  have B9:Hid (Below P.heap.size P w9):=by rw [hw9];exact V1.out s9
                  clear hw9
                  go_wp2
                  refine wp_region_class (C:=fun w'=>∃ s,w'=V s) (by kernel_rfl) (by kernel_rfl) (V2.out _ (B9.out.drew)) ?_
                  repeat (go_big_quiet_step (first|(go_at_call 20;exact HQ.out _ _ _)))
                  refine wpQuiet_nil ?_
                  intro w10 hw9
                  obtain ⟨s9,hw9⟩:=hw9
                  have B10:Hid (Below P.heap.size P w10):=by rw [hw9];exact V1.out s9
                  clear hw9
                  go_wp2
                  all_goals go_ret
                  all_goals exact ⟨retB (by simp),(BB.out.trans ((bstep BP.out B10.out).mono BB.out.size))⟩
                · have heb:(y.1 == (c:Int))=false:=by simp [he]
                  obtain ⟨y3,y4⟩:=y
                  simp only at tV0 tV1 he heb
                  clear hy hym hrow e0 e1 HC1 HC2 HG2 hJ
                  go_wp2
                  refine wp_region_class (C:=fun w'=>∃ s,w'=V s) (by kernel_rfl) (by kernel_rfl) (V2.out _ (hB.out.drew)) ?_
                  repeat (go_big_quiet_step (first|fail))
                  refine wpQuiet_nil ?_
                  intro w9 hw9
                  obtain ⟨s9,hw9⟩:=hw9
                  have B9:Hid (Below P.heap.size P w9):=by rw [hw9];exact V1.out s9
                  clear hw9
                  go_wp2
                  go_roundw
                  case rel=>exact ⟨j+1,by go_num,by omega,HJ2.out he,B9⟩
                  case measure=>simp [intOf];omega
              · have e:n=j:=by omega
                subst e
                have hnoA:∀ y∈A,¬ y.1=(c:Int):=by have:=hJ.out;rwa [← HAn.out,List.take_length] at this
                have HC3:=HC2.out hnoA
                have HG3:Hid (∀ c∈l.take (k+1),∀ y∈A,¬ y.1=(c:Int)):=HG2.out hnoA
                have HC4:Hid (F2=0→op=true→fc=false→ec=true→(bits .and .i64 yf 10 == 0)=false):=HC3
                clear hnoA HC3 HC2 HC1 HG2 hJ
                go_wp2
                refine wp_region_class (C:=fun w'=>∃ s,w'=V s) (by kernel_rfl) (by kernel_rfl) (V2.out _ (hB.out.drew)) ?_
                repeat (go_big_quiet_step (first|(go_at_call 24;exact HF.out _)))
                refine wpQuiet_nil ?_
                intro w9 hw9
                obtain ⟨s9,hw9⟩:=hw9
                have B9:Hid (Below P.heap.size P w9):=by rw [hw9];exact V1.out s9
                clear hw9
                have hcr9:=(B9.out.cell (p:=⟨gc,k,none⟩) hgc).trans hce
                go_upto_region 32 with (fail)
                by_cases hF:F2=0
                · subst hF
                  have HM0:=HMc.out rfl
                  have HMH:Hid (∀ w,Below P.heap.size P w→Calls Tryz.prog 17 #[.pointer (some ⟨b,0,none⟩),.agg #[.int .i64 (c:Int),.int .i64 F1]] w fun e w'=>(∃ sa sk so,e=.returned (.tuple #[.agg #[.string yn,.string yd,.int .i64 yf,.int .i64 yl,.int .i64 ys,.slice sa sk so],.int .i64 0]))∧Below w.heap.size w w'):=HM0
                  clear HM0 HMc
                  cases op
                  case' true=>cases fc
                  case' true.false=>cases ec
                  case' true.false.true=>have h10:=HC4.out rfl rfl rfl rfl
                  all_goals
                    refine wp_region_class (C:=fun w'=>∃ s,w'=V s) (by kernel_rfl) (by kernel_rfl) (V2.out _ (B9.out.drew)) ?_
                    repeat (go_big_quiet_step (first|(go_at_call 23;exact HIc.out _)|(go_at_call 25;exact HEc.out _)))
                    refine wpQuiet_nil ?_
                    intro w10 hw9
                    obtain ⟨s9,hw9⟩:=hw9
                    have B10:Hid (Below P.heap.size P w10):=by rw [hw9];exact V1.out s9
                    clear hw9
                    have hcr10:=(B10.out.cell (p:=⟨gc,k,none⟩) hgc).trans hce
                    go_wp2_with (go_at_call 17;refine (HMH.out _ B10.out).mono ?_;rintro e w12 ⟨⟨sa2,sk2,so2,rfl⟩,hb⟩;have B12:Hid (Below P.heap.size P w12):=bstep B10.out hb;clear hb HMH)
                    go_roundw
                  all_goals first
                    | exact ⟨k+1,by go_num,by omega,HG3,B10⟩
                    | exact ⟨k+1,by go_num,by omega,HG3,B12.out.alloc B12.out.size _⟩
                    | (simp [intOf];omega)
                · have hFb:(F2 == 0)=false:=by simp [hF]
                  refine wp_region_class (C:=fun w'=>∃ s,w'=V s) (by kernel_rfl) (by kernel_rfl) (V2.out _ (B9.out.drew)) ?_
                  repeat (go_big_quiet_step (first|(go_at_call 23;exact HIc.out _)|(go_at_call 25;exact HEc.out _)))
                  refine wpQuiet_nil ?_
                  intro w10 hw9
                  obtain ⟨s9,hw9⟩:=hw9
                  have B10:Hid (Below P.heap.size P w10):=by rw [hw9];exact V1.out s9
                  clear hw9
                  go_wp2
                  go_roundw
                  case rel=>exact ⟨k+1,by go_num,by omega,HG3,B10⟩
                  case measure=>simp [intOf];omega
          · have e:KK=k:=by omega
            subst e
            have hfe:=HEND.out (by have:=hG.out;rwa [← HKL.out,List.take_length] at this)
            have hfeb:(fe == 6)=true:=by simp [hfe]
            go_wp2
            all_goals go_ret
            all_goals exact ⟨retB (by simp [*]),(BB.out.trans ((bstep BP.out hB.out).mono BB.out.size))⟩
end Go.Proofs.YthfifobokpfpkaaGreat
