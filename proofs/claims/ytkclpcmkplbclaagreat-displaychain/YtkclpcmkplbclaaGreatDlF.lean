import Derived.Test.YtkclpcmkplbclaaGreatChE
import Derived.Test.YtkclpcmkplbclaaGreatDsB
import Derived.Test.YtkclpcmkplbclaaGreatHrP
import Derived.Test.YtkclpcmkplbclaaGreatWdB
import Derived.Test.YtkclpcmkplbclaaGreatSoA
import Derived.Test.YtkclpcmkplbclaaGreatOwnQ
import Derived.Test.YtkclpcmkplbclaaGreatCurA
import Derived.Test.YtkclpcmkplbclaaGreatTypesPure
import Derived.Test.YtkclpcmkplbclaaGreatFOwnA
import Derived.Test.YtkclpcmkplbclaaGreatRfX
import Derived.Test.YtkclpcmkplbclaaGreatHrT
import Derived.Test.YtkclpcmkplbclaaGreatHrH
import Derived.Test.YtkclpcmkplbclaaGreatHrY
import Derived.Test.YtkclpcmkplbclaaGreatHrR
import Derived.Lib.Join
import GoSem.Op.String
import Derived.Deep.QuietTactic
import Derived.BigQuiet
import Derived.Deep.RegionHeld3
import Derived.Deep.DeepCutAuto
import Derived.WalkSmall
import Derived.Deep.AppendLies
set_option maxRecDepth 100000
namespace Go.Proofs.YtkclpcmkplbclaaGreat
open Go.RowKit Go.Maps
theorem nums_one (l:List Nat):∀ u∈l.map numV,u.oneCell'=true:=by
  intro u hu
  obtain ⟨x,_,rfl⟩:=List.mem_map.1 hu
  rfl
set_option maxHeartbeats 16000000 in
theorem chn_a (ps:List Plc) (W:World) (v:Value) (k n:Nat) (p:Nat) (hpq:p+0=n) (hn:n≤300) (hp:p≤8) (l D P Q:List Nat) (HDD:Hid (P++Q=D)) (HDN:Hid (D.length=n)) (HLD:Hid (∀ i,i<n→D[i]?=l[n - 1 - i]?)) (HKY:Hid (∀ i y,D[i]?=some y→(y=k↔i+1=n))) (HB:Hid (∀ w:World,Below W.heap.size W w→Calls Tryz.prog 16 #[v] w fun e w'=>(∃ b,e=.returned (.pointer (some ⟨b,0,none⟩))∧WAt b ps w')∧Below w.heap.size w w')) (HD:Hid (∀ b w,WAt b ps w→Calls Tryz.prog 24 #[.pointer (some ⟨b,0,none⟩),.int .i64 (k:Int)] w fun e w'=>(∃ a1 c1 a2 c2 a3 n3 c3,e=.returned (.tuple #[.agg #[.slice a1 p c1,.slice a2 0 c2,.slice a3 n3 c3],.int .i64 0])∧Rds w' (.slice a1 p c1) p 1 (P.map numV)∧Rds w' (.slice a2 0 c2) 0 1 (Q.map numV))∧Below w.heap.size w w')) (HC:Hid (∀ b w,WAt b ps w→Calls Tryz.prog 25 #[.pointer (some ⟨b,0,none⟩),.int .i64 (k:Int)] w fun e w'=>(∃ ca cc,e=.returned (.tuple #[.slice ca n cc,.int .i64 0])∧Rds w' (.slice ca n cc) n 1 (l.map numV))∧Below w.heap.size w w')) (HDP:Hid (∀ (i y:Nat),D[i]?=some y→∀ b w,WAt b ps w→Calls Tryz.prog 26 #[.pointer (some ⟨b,0,none⟩),.int .i64 (y:Int)] w fun e w'=>e=.returned (.tuple #[.int .i64 (i:Int),.int .i64 0])∧Below w.heap.size w w')) (sp n2 p2 q2:Nat) (P2 Q2:List Nat) (HN2:Hid (n=n2+1)) (h02:0<n2) (hpq2:p2+q2=n2) (HD2D:Hid (P2++Q2=D.take n2)) (HSP:Hid (∀ b w,WAt b ps w→Calls Tryz.prog 27 #[.pointer (some ⟨b,0,none⟩),.int .i64 (k:Int)] w fun e w'=>e=.returned (.tuple #[.int .i64 (sp:Int),.int .i64 0])∧w'=w)) (HD2:Hid (∀ b w,WAt b ps w→Calls Tryz.prog 24 #[.pointer (some ⟨b,0,none⟩),.int .i64 (sp:Int)] w fun e w'=>(∃ a1 c1 a2 c2 a3 n3 c3,e=.returned (.tuple #[.agg #[.slice a1 p2 c1,.slice a2 q2 c2,.slice a3 n3 c3],.int .i64 0])∧Rds w' (.slice a1 p2 c1) p2 1 (P2.map numV)∧Rds w' (.slice a2 q2 c2) q2 1 (Q2.map numV))∧Below w.heap.size w w')) (HSN:Hid (∀ v1 v2 w,Rds w v1 n2 1 ((D.take n2).map numV)→Rds w v2 n2 1 ((D.take n2).map numV)→Calls Tryz.prog 28 #[v1,v2] w fun e w'=>e=.returned (.bool true)∧Below w.heap.size w w')) :
    Calls Tryz.prog 4 #[v,.int .i64 (k:Int)] W fun e w'=>e=.returned (.bool true)∧Below W.heap.size W w':=by
  have hp2:¬ (8:Int)<(p:Int):=by omega
  have hp3:decide ((8:Int)<(p:Int))=false:=by simp;omega
  obtain ⟨i0,hi0,hz0,hz1,hz2⟩:=info_parts Tryz.hinfoInt
  have HA:Hid (∀ w:World,Calls Tryz.prog 15 #[] w fun e w'=>e=.returned (.bool true)∧Below w.heap.size w w'):=awake15_c
  have BB:Hid (Below W.heap.size W W):=Below.refl _ _
  go_enter Tryz.func4,Tryz.ntmps4
  go_upto_region 8 with (first
    | (go_at_call 15;refine (HA.out _).mono ?_;rintro e w1 ⟨rfl,hb⟩;have BB2:Below W.heap.size W w1:=bstep (by repeat (first|refine Below.setCell ?_ (by simp;try omega) _|refine Below.alloc ?_ (by have:=BB.out.size;simp;try omega) _|refine Below.drew ?_|exact BB.out)) hb;clear BB;have BB:Hid (Below W.heap.size W w1):=BB2;clear BB2;clear hb HA)
    | (go_at_call 16;refine (HB.out _ BB.out).mono ?_;rintro e w2 ⟨⟨b,rfl,hw⟩,hb⟩;have HH:Hid (WAt b ps w2):=hw;have BB2:Below W.heap.size W w2:=bstep (by repeat (first|refine Below.setCell ?_ (by simp;try omega) _|refine Below.alloc ?_ (by have:=BB.out.size;simp;try omega) _|refine Below.drew ?_|exact BB.out)) hb;clear BB;have BB:Hid (Below W.heap.size W w2):=BB2;clear BB2;clear hb HB hw)
    | (go_at_call 24;refine (HD.out _ _ HH.out).mono ?_;rintro e w3 ⟨⟨a1,c1,a2,c2,a3,n3,c3,rfl,hr1,hr2⟩,hb⟩;have R3:Hid (Rds w3 (.slice a1 p c1) p 1 (P.map numV)∧Rds w3 (.slice a2 0 c2) 0 1 (Q.map numV)):=⟨hr1,hr2⟩;have BB2:Below W.heap.size W w3:=bstep (by repeat (first|refine Below.setCell ?_ (by simp;try omega) _|refine Below.alloc ?_ (by have:=BB.out.size;simp;try omega) _|refine Below.drew ?_|exact BB.out)) hb;clear BB;have BB:Hid (Below W.heap.size W w3):=BB2;clear BB2;have HH2:=HH.out.below hb;clear HH;have HH:Hid (WAt b ps w3):=HH2;clear HH2;clear hb HD hr1 hr2)
    | (go_at_call 25;refine (HC.out _ _ (HH.out.below (by repeat (first|refine Below.setCell ?_ (by simp;try omega) _|refine Below.alloc ?_ (by simp;try omega) _|refine Below.drew ?_|exact Below.refl _ _)))).mono ?_;rintro e w4 ⟨⟨ca,cc,rfl,hr⟩,hb⟩;have C4:Hid (Rds w4 (.slice ca n cc) n 1 (l.map numV)):=hr;have ddd:=kp3 (n:=w3.heap.size) hb (by first|omega|(simp;try omega)) (halloc1 _ _);(try clear ddB dd0 dd1 dd2 ddf ddL ddN);obtain ⟨ddB,dd0,dd1,dd2,ddf,ddL,ddN⟩:=ddd;have R4:Hid (Rds w4 (.slice a1 p c1) p 1 (P.map numV)∧Rds w4 (.slice a2 0 c2) 0 1 (Q.map numV)):=(by have hk:=(show Below w3.heap.size w3 w4 from bstep (by repeat (first|refine Below.setCell ?_ (by simp;try omega) _|refine Below.alloc ?_ (by simp;try omega) _|refine Below.drew ?_|exact Below.refl _ _)) hb);exact ⟨R3.out.1.keep hk,R3.out.2.keep hk⟩);have BB2:Below W.heap.size W w4:=bstep (by repeat (first|refine Below.setCell ?_ (by simp;try omega) _|refine Below.alloc ?_ (by have:=BB.out.size;simp;try omega) _|refine Below.drew ?_|exact BB.out)) hb;clear BB;have BB:Hid (Below W.heap.size W w4):=BB2;clear BB2;have HH2:=(HH.out.below (by repeat (first|refine Below.setCell ?_ (by simp;try omega) _|refine Below.alloc ?_ (by simp;try omega) _|refine Below.drew ?_|exact Below.refl _ _))).below hb;clear HH;have HH:Hid (WAt b ps w4):=HH2;clear HH2;clear hb HC hr R3))
  go_cut [10] (fun s10 wx=>Hid (∃ ad cd,s10=.slice ad n cd∧wx.ownsRow w4.heap.size 3 1 (.slice ad n cd) n (D.map numV)∧Below w4.heap.size w4 wx))
  case first =>
    go_region_law (first
      | (refine step_append_rdw rfl (.tmp 43) (.tmp 45) 31 rfl w4.heap.size 3 i0 (.int .i64 0) 1 8 Tryz.underlying31 hi0 hz0 hz1 hz2 rfl (by decide) (.slice (some ⟨w4.heap.size,0,none⟩) 0 0) 0 [] (by simp [Act.eval]) (by first|exact own_empty w4.drew w4.heap.size rfl w4.heap.size _ _ (Nat.le_refl _)|exact (own_empty w4 w4.heap.size rfl w4.heap.size _ _ (Nat.le_refl _)).drew) (.slice a1 p c1) p (P.map numV) (by simp [Act.eval]) (.inl (R4.out.1.keep (by first|exact ((Below.refl _ _).drew).alloc (by simp) _|exact ((Below.refl _ _).alloc (by simp) _).drew))) (nums_one _) (by unfold maxLen;omega) (by omega) (by simp) ?_;intro v5 w5 hown hgrow;obtain ⟨e5,f5,rfl⟩:=ownv hown;simp only [Nat.zero_add,List.nil_append] at hown ⊢;have O5:Hid (w5.ownsRow w4.heap.size 3 1 (.slice e5 p f5) p (P.map numV)):=hown;have hb:Below w4.heap.size w4 w5:=(Below.grown (w:=_) (((Below.refl _ w4).drew).alloc (by simp) _) hgrow (by simp) (fun k hk=>by simp [Value.ownBlock] at hk;omega));have B5:Hid (Below w4.heap.size w4 w5):=hb;have rrd:=kp3 (n:=w3.heap.size) hb (by omega) ddB.out;(try clear rrB rr0 rr1 rr2 rrf rrL rrN);obtain ⟨rrB,rr0,rr1,rr2,rrf,rrL,rrN⟩:=rrd;clear hown hgrow hb)
      | (refine step_append_rdw rfl (.tmp 46) (.tmp 48) 31 rfl w4.heap.size 3 i0 (.int .i64 0) 1 8 Tryz.underlying31 hi0 hz0 hz1 hz2 rfl (by decide) (.slice e5 p f5) p (P.map numV) (by simp [Act.eval]) O5.out (.slice a2 0 c2) 0 (Q.map numV) (by simp [Act.eval]) (.inl (R4.out.2.keep B5.out)) (nums_one _) (by unfold maxLen;omega) (by omega) B5.out.size ?_;intro v6 w6 hown hgrow;obtain ⟨e6,f6,rfl⟩:=ownv hown;have O6:Hid (w6.ownsRow w4.heap.size 3 1 (.slice e6 (p+0) f6) (p+0) (P.map numV++Q.map numV)):=hown;have B6:Hid (Below w4.heap.size w4 w6):=(Below.grown (w:=_) B5.out hgrow B5.out.size (fun k hk=>(O5.out.lt k hk).1));clear hown hgrow))
    all_goals (go_wp2_with fail)
    all_goals go_meet
    all_goals exact (by have h6:=O6.out;rw [← List.map_append,HDD.out,hpq] at h6;(try rw [hpq]);exact ⟨_,_,rfl,h6,B6.out⟩)
  case rest =>
    obtain ⟨wa,rfl⟩:∃ wa,wa=wc:=⟨_,rfl⟩
    obtain ⟨ad,cd,rfl,hOD,hBc⟩:=hcut.out
    have OD:Hid (wa.ownsRow w4.heap.size 3 1 (.slice ad n cd) n (D.map numV)):=hOD
    have hb:=hBc
    have ddd:=kp3 (n:=w3.heap.size) hb (by first|omega|(simp;try omega)) (ddB.out);(try clear ddB dd0 dd1 dd2 ddf ddL ddN);obtain ⟨ddB,dd0,dd1,dd2,ddf,ddL,ddN⟩:=ddd
    have BW:Hid (Below W.heap.size W wa):=bstep BB.out hb
    have HHw:Hid (∀ w,Below wa.heap.size wa w→WAt b ps w):=fun w hw=>HH.out.below (bstep hb hw)
    have C5:Hid (Rds wa (.slice ca n cc) n 1 (l.map numV)):=C4.out.keep hb
    clear hcut hOD hBc hb BB HH C4 R4
    go_wp2
    go_loopw [11] (fun iv wr=>∃ (i:Nat),iv=.int .i64 i∧i≤n∧Hid (Below wa.heap.size wa wr)) (fun iv _=>n - (intOf iv).toNat)
    case atStart=>exact ⟨0,rfl,Nat.zero_le _,Below.refl _ _⟩
    case round =>
      obtain ⟨i,rfl,hi,hB⟩:=hrel
      by_cases hlt:i<n
      · have hiI:(i:Int)<(n:Int):=by omega
        obtain ⟨y,hy⟩:∃ y,D[i]?=some y:=⟨_,List.getElem?_eq_getElem (by rw [HDN.out];exact hlt)⟩
        obtain ⟨j,hj⟩:∃ j,n - 1 - i=j:=⟨_,rfl⟩
        have hly:l[j]?=some y:=by rw [← hj,← HLD.out i hlt];exact hy
        obtain ⟨gd,capd,hfd⟩:=Go.Joins.ownsRow_form OD.out (by omega)
        injection hfd with hfd1 _ hfd2
        subst hfd1 hfd2
        have x00:=row_at OD.out hy
        have xl0:=World.block_lt_of_cell? _ _ x00
        rcases C5.out.val with ⟨_,e⟩|⟨gc,oc,capc,e,_,_,hg,hcs⟩
        · exact absurd e (by omega)
        injection e with e1 _ e2
        subst e1 e2
        have y00:=hcs j (.int .i64 (y:Int)) (by rw [List.getElem?_map,hly];rfl)
        have x0:=(hB.out.cell (p:=⟨gd,i,none⟩) xl0).trans x00
        have y0:=(hB.out.cell (p:=⟨gc,oc+j,none⟩) hg).trans y00
        have xL:gd<wr.heap.size:=Nat.lt_of_lt_of_le xl0 hB.out.size
        have yL:gc<wr.heap.size:=Nat.lt_of_lt_of_le hg hB.out.size
        have hjI:(n:Int) - 1 - (i:Int)=(j:Int):=by omega
        have hjn:(j:Int)<(n:Int):=by omega
        have HDY:Hid (∀ b w,WAt b ps w→Calls Tryz.prog 26 #[.pointer (some ⟨b,0,none⟩),.int .i64 (y:Int)] w fun e w'=>e=.returned (.tuple #[.int .i64 (i:Int),.int .i64 0])∧Below w.heap.size w w'):=HDP.out i y hy
        have hKY:=HKY.out i y hy
        clear hcs hy hly x00 y00
        by_cases hyk:y=k
        · subst hyk
          have hin:i+1=n:=by have:=hKY.1 rfl;omega
          have hj0:j=0:=by omega
          subst hj0
          have hin1:(n:Int) - 1=(i:Int):=by omega
          have hn0:(0:Int)<(n:Int):=by omega
          have HIN:Hid (i+1=n):=hin
          clear hjI hjn hj hKY hin
          go_upto_region 15 with (go_at_call 26;refine (HDY.out _ _ (HHw.out _ hB.out)).mono ?_;rintro e w5 ⟨rfl,hb⟩;have B5:Hid (Below wa.heap.size wa w5):=bstep hB.out hb;have x0x:=(hb.cell (p:=⟨gd,i,none⟩) xL).trans x0;have y0x:=(hb.cell (p:=⟨gc,oc+0,none⟩) yL).trans y0;have xLx:gd<w5.heap.size:=Nat.lt_of_lt_of_le xL hb.size;have yLx:gc<w5.heap.size:=Nat.lt_of_lt_of_le yL hb.size;clear hb x0 y0 xL yL HDY)
          have x0:=x0x
          have y0:w5.cell? ⟨gc,oc,none⟩=some (.int .i64 (y:Int)):=y0x
          have xL:=xLx
          have yL:=yLx
          clear x0x y0x xLx yLx
          obtain ⟨σ,V,hne,V1,V2⟩:=class_of' (fun w'=>Below w5.heap.size w5 w') ⟨_,Below.refl _ _⟩
          have cV0:∀ z9,(V z9).cell? ⟨gd,i,none⟩=some (.int .i64 (y:Int)):=fun z9=>((V1.out z9).cell (p:=⟨gd,i,none⟩) xL).trans x0
          have cV1:∀ z9,(V z9).cell? ⟨gc,oc,none⟩=some (.int .i64 (y:Int)):=fun z9=>((V1.out z9).cell (p:=⟨gc,oc,none⟩) yL).trans y0
          refine wp_region_class (C:=fun w'=>∃ z8,w'=V z8) (by kernel_rfl) (by kernel_rfl) (V2.out _ (Below.refl _ _).drew) ?_
          repeat (go_big_quiet_step (fail))
          refine wpQuiet_nil ?_
          intro w6 hw9
          obtain ⟨s9,hw9⟩:=hw9
          have hb:Below w5.heap.size w5 w6:=by rw [hw9];exact V1.out s9
          clear hw9 cV0 cV1 V1 V2 s9 hne V σ
          have B6:Hid (Below wa.heap.size wa w6):=bstep B5.out hb
          clear hb
          go_wp2
          have hin:=HIN.out
          exact ⟨⟨i+1,by simp,by omega,B6⟩,by simp [intOf];omega⟩
        · have hne:((y:Int) == (k:Int))=false:=by rw [← Bool.not_eq_true,beq_iff_eq];omega
          have hne2:¬ (y:Int)=(k:Int):=by omega
          clear hKY
          go_upto_region 15 with (go_at_call 26;refine (HDY.out _ _ (HHw.out _ hB.out)).mono ?_;rintro e w5 ⟨rfl,hb⟩;have B5:Hid (Below wa.heap.size wa w5):=bstep hB.out hb;have x0x:=(hb.cell (p:=⟨gd,i,none⟩) xL).trans x0;have y0x:=(hb.cell (p:=⟨gc,oc+j,none⟩) yL).trans y0;have xLx:gd<w5.heap.size:=Nat.lt_of_lt_of_le xL hb.size;have yLx:gc<w5.heap.size:=Nat.lt_of_lt_of_le yL hb.size;clear hb x0 y0 xL yL HDY)
          have x0:=x0x
          have y0:=y0x
          have xL:=xLx
          have yL:=yLx
          clear x0x y0x xLx yLx
          obtain ⟨σ,V,hne,V1,V2⟩:=class_of' (fun w'=>Below w5.heap.size w5 w') ⟨_,Below.refl _ _⟩
          have cV0:∀ z9,(V z9).cell? ⟨gd,i,none⟩=some (.int .i64 (y:Int)):=fun z9=>((V1.out z9).cell (p:=⟨gd,i,none⟩) xL).trans x0
          have cV1:∀ z9,(V z9).cell? ⟨gc,oc+j,none⟩=some (.int .i64 (y:Int)):=fun z9=>((V1.out z9).cell (p:=⟨gc,oc+j,none⟩) yL).trans y0
          refine wp_region_class (C:=fun w'=>∃ z8,w'=V z8) (by kernel_rfl) (by kernel_rfl) (V2.out _ (Below.refl _ _).drew) ?_
          repeat (go_big_quiet_step (fail))
          refine wpQuiet_nil ?_
          intro w6 hw9
          obtain ⟨s9,hw9⟩:=hw9
          have hb:Below w5.heap.size w5 w6:=by rw [hw9];exact V1.out s9
          clear hw9 cV0 cV1 V1 V2 s9 hne V σ
          have B6:Hid (Below wa.heap.size wa w6):=bstep B5.out hb
          clear hb
          go_wp2
          exact ⟨⟨i+1,by simp,by omega,B6⟩,by simp [intOf];omega⟩
      · have e:i=n:=by omega
        subst e
        have hn2:=HN2.out
        have hnI:(i:Int) - 1=(n2:Int):=by omega
        have hn2i:n2≤i:=by omega
        have h0i:0<i:=by omega
        clear hn2
        go_upto_region 21 with (first
          | (go_at_call 27;refine (HSP.out _ _ (HHw.out _ hB.out)).mono ?_;rintro e w9 ⟨rfl,hw9⟩;rw [hw9];clear hw9 w9 HSP)
          | (go_at_call 24;refine (HD2.out _ _ (HHw.out _ hB.out)).mono ?_;rintro e w7 ⟨⟨b1,d1,b2,d2,b3,m3,d3,rfl,hr1,hr2⟩,hb⟩;have R7:Hid (Rds w7 (.slice b1 p2 d1) p2 1 (P2.map numV)∧Rds w7 (.slice b2 q2 d2) q2 1 (Q2.map numV)):=⟨hr1,hr2⟩;have B7:Hid (Below wa.heap.size wa w7):=bstep hB.out hb;clear hb hr1 hr2 HD2))
        have hb8:Below w7.heap.size w7 (w7.alloc (.cells #[.slice b1 p2 d1,.slice b2 q2 d2,.slice b3 m3 d3] 47)):=(Below.refl _ _).alloc (Nat.le_refl _) _
        have B8:Hid (Below wa.heap.size wa (w7.alloc (.cells #[.slice b1 p2 d1,.slice b2 q2 d2,.slice b3 m3 d3] 47))):=bstep B7.out hb8
        have R8:Hid (Rds (w7.alloc (.cells #[.slice b1 p2 d1,.slice b2 q2 d2,.slice b3 m3 d3] 47)) (.slice b1 p2 d1) p2 1 (P2.map numV)∧Rds (w7.alloc (.cells #[.slice b1 p2 d1,.slice b2 q2 d2,.slice b3 m3 d3] 47)) (.slice b2 q2 d2) q2 1 (Q2.map numV)):=⟨R7.out.1.keep hb8,R7.out.2.keep hb8⟩
        have d8:(w7.alloc (.cells #[.slice b1 p2 d1,.slice b2 q2 d2,.slice b3 m3 d3] 47)).heap[w7.heap.size]?=some (.cells #[.slice b1 p2 d1,.slice b2 q2 d2,.slice b3 m3 d3] 47 (0,0)):=halloc1 _ _
        clear ddB dd0 dd1 dd2 ddf ddL ddN hb8 R7
        generalize (w7.alloc (.cells #[.slice b1 p2 d1,.slice b2 q2 d2,.slice b3 m3 d3] 47))=w8 at *
        have ddB:Hid (w8.heap[w7.heap.size]?=some (.cells #[.slice b1 p2 d1,.slice b2 q2 d2,.slice b3 m3 d3] 47 (0,0))):=d8
        obtain ⟨dd0,dd1,dd2,ddf,ddL⟩:=rw3 d8
        have ddN:¬ w7.heap.size=w8.heap.size:=by omega
        clear d8
        go_cut [18] (fun s18 wx=>Hid (∃ au cu,s18=.slice au n2 cu∧wx.ownsRow w8.heap.size 3 1 (.slice au n2 cu) n2 ((D.take n2).map numV)∧Below w8.heap.size w8 wx))
        case first =>
          go_region_law (first
            | (refine step_append_rdw rfl (.tmp 150) (.tmp 152) 31 rfl w8.heap.size 3 i0 (.int .i64 0) 1 8 Tryz.underlying31 hi0 hz0 hz1 hz2 rfl (by decide) (.slice (some ⟨w8.heap.size,0,none⟩) 0 0) 0 [] (by simp [Act.eval]) (by first|exact own_empty w8.drew w8.heap.size rfl w8.heap.size _ _ (Nat.le_refl _)|exact (own_empty w8 w8.heap.size rfl w8.heap.size _ _ (Nat.le_refl _)).drew) (.slice b1 p2 d1) p2 (P2.map numV) (by simp [Act.eval]) (.inl (R8.out.1.keep (by first|exact ((Below.refl _ _).drew).alloc (by simp) _|exact ((Below.refl _ _).alloc (by simp) _).drew))) (nums_one _) (by unfold maxLen;omega) (by omega) (by simp) ?_;intro v5 w5 hown hgrow;obtain ⟨e5,f5,rfl⟩:=ownv hown;simp only [Nat.zero_add,List.nil_append] at hown ⊢;have O5:Hid (w5.ownsRow w8.heap.size 3 1 (.slice e5 p2 f5) p2 (P2.map numV)):=hown;have hb:Below w8.heap.size w8 w5:=(Below.grown (w:=_) (((Below.refl _ w8).drew).alloc (by simp) _) hgrow (by simp) (fun k hk=>by simp [Value.ownBlock] at hk;omega));have B5:Hid (Below w8.heap.size w8 w5):=hb;have rrd:=kp3 (n:=w7.heap.size) hb (by omega) ddB.out;(try clear rrB rr0 rr1 rr2 rrf rrL rrN);obtain ⟨rrB,rr0,rr1,rr2,rrf,rrL,rrN⟩:=rrd;clear hown hgrow hb)
            | (refine step_append_rdw rfl (.tmp 153) (.tmp 155) 31 rfl w8.heap.size 3 i0 (.int .i64 0) 1 8 Tryz.underlying31 hi0 hz0 hz1 hz2 rfl (by decide) (.slice e5 p2 f5) p2 (P2.map numV) (by simp [Act.eval]) O5.out (.slice b2 q2 d2) q2 (Q2.map numV) (by simp [Act.eval]) (.inl (R8.out.2.keep B5.out)) (nums_one _) (by unfold maxLen;omega) (by omega) B5.out.size ?_;intro v6 w6 hown hgrow;obtain ⟨e6,f6,rfl⟩:=ownv hown;have O6:Hid (w6.ownsRow w8.heap.size 3 1 (.slice e6 (p2+q2) f6) (p2+q2) (P2.map numV++Q2.map numV)):=hown;have B6:Hid (Below w8.heap.size w8 w6):=(Below.grown (w:=_) B5.out hgrow B5.out.size (fun k hk=>(O5.out.lt k hk).1));clear hown hgrow))
          all_goals (go_wp2_with fail)
          all_goals go_meet
          all_goals exact (by have h6:=O6.out;rw [← List.map_append,HD2D.out,hpq2] at h6;(try rw [hpq2]);exact ⟨_,_,rfl,h6,B6.out⟩)
        case rest =>
          obtain ⟨au,cu,rfl,hOU,hBu⟩:=hcut.out
          have OU:Hid (Rds wc (.slice au n2 cu) n2 1 ((D.take n2).map numV)):=own_rds hOU
          have BU:Hid (Below wa.heap.size wa wc):=bstep B8.out hBu
          obtain ⟨gd,capd,hfd,hcap⟩:=own_form OD.out h0i
          injection hfd with hfd1 _ hfd2
          subst hfd1 hfd2
          have DR:Hid (Rds wc (.slice (some ⟨gd,0,none⟩) n2 cd) n2 1 ((D.take n2).map numV)):=by
            rcases (cut_rds OD.out (c:=n2) (by omega)).keep BU.out with h|⟨h,_⟩
            · exact h
            · omega
          have HSN2:Hid (∀ w,Below wc.heap.size wc w→Calls Tryz.prog 28 #[.slice au n2 cu,.slice (some ⟨gd,0,none⟩) n2 cd] w fun e w'=>e=.returned (.bool true)∧Below w.heap.size w w'):=fun w hb=>HSN.out _ _ w (OU.out.keep hb) (DR.out.keep hb)
          have hcI:(n2:Int)≤(cd:Int):=by omega
          clear hcut hOU hBu
          go_wp2_with (go_at_call 28;refine (HSN2.out _ (Below.refl _ _)).mono ?_;rintro e w9 ⟨rfl,hb⟩;have B9:Hid (Below wa.heap.size wa w9):=bstep BU.out hb;clear hb HSN2)
          exact bodyPost_ret (results_tmp rfl _ _ _) rfl ⟨rfl,BW.out.trans (B9.out.mono BW.out.size)⟩
set_option maxHeartbeats 16000000 in
theorem chn_b (ps:List Plc) (W:World) (v:Value) (k n:Nat) (q:Nat) (hpq:8+q=n) (hn:n≤300) (hq:0<q) (l D P Q:List Nat) (HDD:Hid (P++Q=D)) (HDN:Hid (D.length=n)) (HLD:Hid (∀ i,i<n→D[i]?=l[n - 1 - i]?)) (HKY:Hid (∀ i y,D[i]?=some y→(y=k↔i+1=n))) (HB:Hid (∀ w:World,Below W.heap.size W w→Calls Tryz.prog 16 #[v] w fun e w'=>(∃ b,e=.returned (.pointer (some ⟨b,0,none⟩))∧WAt b ps w')∧Below w.heap.size w w')) (HD:Hid (∀ b w,WAt b ps w→Calls Tryz.prog 24 #[.pointer (some ⟨b,0,none⟩),.int .i64 (k:Int)] w fun e w'=>(∃ a1 c1 a2 c2 a3 n3 c3,e=.returned (.tuple #[.agg #[.slice a1 8 c1,.slice a2 q c2,.slice a3 n3 c3],.int .i64 0])∧Rds w' (.slice a1 8 c1) 8 1 (P.map numV)∧Rds w' (.slice a2 q c2) q 1 (Q.map numV))∧Below w.heap.size w w')) (HC:Hid (∀ b w,WAt b ps w→Calls Tryz.prog 25 #[.pointer (some ⟨b,0,none⟩),.int .i64 (k:Int)] w fun e w'=>(∃ ca cc,e=.returned (.tuple #[.slice ca n cc,.int .i64 0])∧Rds w' (.slice ca n cc) n 1 (l.map numV))∧Below w.heap.size w w')) (HDP:Hid (∀ (i y:Nat),D[i]?=some y→∀ b w,WAt b ps w→Calls Tryz.prog 26 #[.pointer (some ⟨b,0,none⟩),.int .i64 (y:Int)] w fun e w'=>e=.returned (.tuple #[.int .i64 (i:Int),.int .i64 0])∧Below w.heap.size w w')) (sp n2 p2 q2:Nat) (P2 Q2:List Nat) (HN2:Hid (n=n2+1)) (_h02:0<n2) (hpq2:p2+q2=n2) (HD2D:Hid (P2++Q2=D.take n2)) (HSP:Hid (∀ b w,WAt b ps w→Calls Tryz.prog 27 #[.pointer (some ⟨b,0,none⟩),.int .i64 (k:Int)] w fun e w'=>e=.returned (.tuple #[.int .i64 (sp:Int),.int .i64 0])∧w'=w)) (HD2:Hid (∀ b w,WAt b ps w→Calls Tryz.prog 24 #[.pointer (some ⟨b,0,none⟩),.int .i64 (sp:Int)] w fun e w'=>(∃ a1 c1 a2 c2 a3 n3 c3,e=.returned (.tuple #[.agg #[.slice a1 p2 c1,.slice a2 q2 c2,.slice a3 n3 c3],.int .i64 0])∧Rds w' (.slice a1 p2 c1) p2 1 (P2.map numV)∧Rds w' (.slice a2 q2 c2) q2 1 (Q2.map numV))∧Below w.heap.size w w')) (HSN:Hid (∀ v1 v2 w,Rds w v1 n2 1 ((D.take n2).map numV)→Rds w v2 n2 1 ((D.take n2).map numV)→Calls Tryz.prog 28 #[v1,v2] w fun e w'=>e=.returned (.bool true)∧Below w.heap.size w w')) :
    Calls Tryz.prog 4 #[v,.int .i64 (k:Int)] W fun e w'=>e=.returned (.bool true)∧Below W.heap.size W w':=by
  have hq2:(0:Int)<(q:Int):=by omega
  obtain ⟨i0,hi0,hz0,hz1,hz2⟩:=info_parts Tryz.hinfoInt
  have HA:Hid (∀ w:World,Calls Tryz.prog 15 #[] w fun e w'=>e=.returned (.bool true)∧Below w.heap.size w w'):=awake15_c
  have BB:Hid (Below W.heap.size W W):=Below.refl _ _
  go_enter Tryz.func4,Tryz.ntmps4
  go_upto_region 8 with (first
    | (go_at_call 15;refine (HA.out _).mono ?_;rintro e w1 ⟨rfl,hb⟩;have BB2:Below W.heap.size W w1:=bstep (by repeat (first|refine Below.setCell ?_ (by simp;try omega) _|refine Below.alloc ?_ (by have:=BB.out.size;simp;try omega) _|refine Below.drew ?_|exact BB.out)) hb;clear BB;have BB:Hid (Below W.heap.size W w1):=BB2;clear BB2;clear hb HA)
    | (go_at_call 16;refine (HB.out _ BB.out).mono ?_;rintro e w2 ⟨⟨b,rfl,hw⟩,hb⟩;have HH:Hid (WAt b ps w2):=hw;have BB2:Below W.heap.size W w2:=bstep (by repeat (first|refine Below.setCell ?_ (by simp;try omega) _|refine Below.alloc ?_ (by have:=BB.out.size;simp;try omega) _|refine Below.drew ?_|exact BB.out)) hb;clear BB;have BB:Hid (Below W.heap.size W w2):=BB2;clear BB2;clear hb HB hw)
    | (go_at_call 24;refine (HD.out _ _ HH.out).mono ?_;rintro e w3 ⟨⟨a1,c1,a2,c2,a3,n3,c3,rfl,hr1,hr2⟩,hb⟩;have R3:Hid (Rds w3 (.slice a1 8 c1) 8 1 (P.map numV)∧Rds w3 (.slice a2 q c2) q 1 (Q.map numV)):=⟨hr1,hr2⟩;have BB2:Below W.heap.size W w3:=bstep (by repeat (first|refine Below.setCell ?_ (by simp;try omega) _|refine Below.alloc ?_ (by have:=BB.out.size;simp;try omega) _|refine Below.drew ?_|exact BB.out)) hb;clear BB;have BB:Hid (Below W.heap.size W w3):=BB2;clear BB2;have HH2:=HH.out.below hb;clear HH;have HH:Hid (WAt b ps w3):=HH2;clear HH2;clear hb HD hr1 hr2)
    | (go_at_call 25;refine (HC.out _ _ (HH.out.below (by repeat (first|refine Below.setCell ?_ (by simp;try omega) _|refine Below.alloc ?_ (by simp;try omega) _|refine Below.drew ?_|exact Below.refl _ _)))).mono ?_;rintro e w4 ⟨⟨ca,cc,rfl,hr⟩,hb⟩;have C4:Hid (Rds w4 (.slice ca n cc) n 1 (l.map numV)):=hr;have ddd:=kp3 (n:=w3.heap.size) hb (by first|omega|(simp;try omega)) (halloc1 _ _);(try clear ddB dd0 dd1 dd2 ddf ddL ddN);obtain ⟨ddB,dd0,dd1,dd2,ddf,ddL,ddN⟩:=ddd;have R4:Hid (Rds w4 (.slice a1 8 c1) 8 1 (P.map numV)∧Rds w4 (.slice a2 q c2) q 1 (Q.map numV)):=(by have hk:=(show Below w3.heap.size w3 w4 from bstep (by repeat (first|refine Below.setCell ?_ (by simp;try omega) _|refine Below.alloc ?_ (by simp;try omega) _|refine Below.drew ?_|exact Below.refl _ _)) hb);exact ⟨R3.out.1.keep hk,R3.out.2.keep hk⟩);have BB2:Below W.heap.size W w4:=bstep (by repeat (first|refine Below.setCell ?_ (by simp;try omega) _|refine Below.alloc ?_ (by have:=BB.out.size;simp;try omega) _|refine Below.drew ?_|exact BB.out)) hb;clear BB;have BB:Hid (Below W.heap.size W w4):=BB2;clear BB2;have HH2:=(HH.out.below (by repeat (first|refine Below.setCell ?_ (by simp;try omega) _|refine Below.alloc ?_ (by simp;try omega) _|refine Below.drew ?_|exact Below.refl _ _))).below hb;clear HH;have HH:Hid (WAt b ps w4):=HH2;clear HH2;clear hb HC hr R3))
  go_cut [10] (fun s10 wx=>Hid (∃ ad cd,s10=.slice ad n cd∧wx.ownsRow w4.heap.size 3 1 (.slice ad n cd) n (D.map numV)∧Below w4.heap.size w4 wx))
  case first =>
    go_region_law (first
      | (refine step_append_rdw rfl (.tmp 43) (.tmp 45) 31 rfl w4.heap.size 3 i0 (.int .i64 0) 1 8 Tryz.underlying31 hi0 hz0 hz1 hz2 rfl (by decide) (.slice (some ⟨w4.heap.size,0,none⟩) 0 0) 0 [] (by simp [Act.eval]) (by first|exact own_empty w4.drew w4.heap.size rfl w4.heap.size _ _ (Nat.le_refl _)|exact (own_empty w4 w4.heap.size rfl w4.heap.size _ _ (Nat.le_refl _)).drew) (.slice a1 8 c1) 8 (P.map numV) (by simp [Act.eval]) (.inl (R4.out.1.keep (by first|exact ((Below.refl _ _).drew).alloc (by simp) _|exact ((Below.refl _ _).alloc (by simp) _).drew))) (nums_one _) (by unfold maxLen;omega) (by omega) (by simp) ?_;intro v5 w5 hown hgrow;obtain ⟨e5,f5,rfl⟩:=ownv hown;simp only [Nat.zero_add,List.nil_append] at hown ⊢;have O5:Hid (w5.ownsRow w4.heap.size 3 1 (.slice e5 8 f5) 8 (P.map numV)):=hown;have hb:Below w4.heap.size w4 w5:=(Below.grown (w:=_) (((Below.refl _ w4).drew).alloc (by simp) _) hgrow (by simp) (fun k hk=>by simp [Value.ownBlock] at hk;omega));have B5:Hid (Below w4.heap.size w4 w5):=hb;have rrd:=kp3 (n:=w3.heap.size) hb (by omega) ddB.out;(try clear rrB rr0 rr1 rr2 rrf rrL rrN);obtain ⟨rrB,rr0,rr1,rr2,rrf,rrL,rrN⟩:=rrd;clear hown hgrow hb)
      | (refine step_append_rdw rfl (.tmp 46) (.tmp 48) 31 rfl w4.heap.size 3 i0 (.int .i64 0) 1 8 Tryz.underlying31 hi0 hz0 hz1 hz2 rfl (by decide) (.slice e5 8 f5) 8 (P.map numV) (by simp [Act.eval]) O5.out (.slice a2 q c2) q (Q.map numV) (by simp [Act.eval]) (.inl (R4.out.2.keep B5.out)) (nums_one _) (by unfold maxLen;omega) (by omega) B5.out.size ?_;intro v6 w6 hown hgrow;obtain ⟨e6,f6,rfl⟩:=ownv hown;have O6:Hid (w6.ownsRow w4.heap.size 3 1 (.slice e6 (8+q) f6) (8+q) (P.map numV++Q.map numV)):=hown;have B6:Hid (Below w4.heap.size w4 w6):=(Below.grown (w:=_) B5.out hgrow B5.out.size (fun k hk=>(O5.out.lt k hk).1));clear hown hgrow))
    all_goals (go_wp2_with fail)
    all_goals go_meet
    all_goals exact (by have h6:=O6.out;rw [← List.map_append,HDD.out,hpq] at h6;(try rw [hpq]);exact ⟨_,_,rfl,h6,B6.out⟩)
  case rest =>
    obtain ⟨wa,rfl⟩:∃ wa,wa=wc:=⟨_,rfl⟩
    obtain ⟨ad,cd,rfl,hOD,hBc⟩:=hcut.out
    have OD:Hid (wa.ownsRow w4.heap.size 3 1 (.slice ad n cd) n (D.map numV)):=hOD
    have hb:=hBc
    have ddd:=kp3 (n:=w3.heap.size) hb (by first|omega|(simp;try omega)) (ddB.out);(try clear ddB dd0 dd1 dd2 ddf ddL ddN);obtain ⟨ddB,dd0,dd1,dd2,ddf,ddL,ddN⟩:=ddd
    have BW:Hid (Below W.heap.size W wa):=bstep BB.out hb
    have HHw:Hid (∀ w,Below wa.heap.size wa w→WAt b ps w):=fun w hw=>HH.out.below (bstep hb hw)
    have C5:Hid (Rds wa (.slice ca n cc) n 1 (l.map numV)):=C4.out.keep hb
    clear hcut hOD hBc hb BB HH C4 R4
    go_wp2
    go_loopw [11] (fun iv wr=>∃ (i:Nat),iv=.int .i64 i∧i≤n∧Hid (Below wa.heap.size wa wr)) (fun iv _=>n - (intOf iv).toNat)
    case atStart=>exact ⟨0,rfl,Nat.zero_le _,Below.refl _ _⟩
    case round =>
      obtain ⟨i,rfl,hi,hB⟩:=hrel
      by_cases hlt:i<n
      · have hiI:(i:Int)<(n:Int):=by omega
        obtain ⟨y,hy⟩:∃ y,D[i]?=some y:=⟨_,List.getElem?_eq_getElem (by rw [HDN.out];exact hlt)⟩
        obtain ⟨j,hj⟩:∃ j,n - 1 - i=j:=⟨_,rfl⟩
        have hly:l[j]?=some y:=by rw [← hj,← HLD.out i hlt];exact hy
        obtain ⟨gd,capd,hfd⟩:=Go.Joins.ownsRow_form OD.out (by omega)
        injection hfd with hfd1 _ hfd2
        subst hfd1 hfd2
        have x00:=row_at OD.out hy
        have xl0:=World.block_lt_of_cell? _ _ x00
        rcases C5.out.val with ⟨_,e⟩|⟨gc,oc,capc,e,_,_,hg,hcs⟩
        · exact absurd e (by omega)
        injection e with e1 _ e2
        subst e1 e2
        have y00:=hcs j (.int .i64 (y:Int)) (by rw [List.getElem?_map,hly];rfl)
        have x0:=(hB.out.cell (p:=⟨gd,i,none⟩) xl0).trans x00
        have y0:=(hB.out.cell (p:=⟨gc,oc+j,none⟩) hg).trans y00
        have xL:gd<wr.heap.size:=Nat.lt_of_lt_of_le xl0 hB.out.size
        have yL:gc<wr.heap.size:=Nat.lt_of_lt_of_le hg hB.out.size
        have hjI:(n:Int) - 1 - (i:Int)=(j:Int):=by omega
        have hjn:(j:Int)<(n:Int):=by omega
        have HDY:Hid (∀ b w,WAt b ps w→Calls Tryz.prog 26 #[.pointer (some ⟨b,0,none⟩),.int .i64 (y:Int)] w fun e w'=>e=.returned (.tuple #[.int .i64 (i:Int),.int .i64 0])∧Below w.heap.size w w'):=HDP.out i y hy
        have hKY:=HKY.out i y hy
        clear hcs hy hly x00 y00
        by_cases hyk:y=k
        · subst hyk
          have hin:i+1=n:=by have:=hKY.1 rfl;omega
          have hj0:j=0:=by omega
          subst hj0
          have hin1:(n:Int) - 1=(i:Int):=by omega
          have hn0:(0:Int)<(n:Int):=by omega
          have HIN:Hid (i+1=n):=hin
          clear hjI hjn hj hKY hin
          go_upto_region 15 with (go_at_call 26;refine (HDY.out _ _ (HHw.out _ hB.out)).mono ?_;rintro e w5 ⟨rfl,hb⟩;have B5:Hid (Below wa.heap.size wa w5):=bstep hB.out hb;have x0x:=(hb.cell (p:=⟨gd,i,none⟩) xL).trans x0;have y0x:=(hb.cell (p:=⟨gc,oc+0,none⟩) yL).trans y0;have xLx:gd<w5.heap.size:=Nat.lt_of_lt_of_le xL hb.size;have yLx:gc<w5.heap.size:=Nat.lt_of_lt_of_le yL hb.size;clear hb x0 y0 xL yL HDY)
          have x0:=x0x
          have y0:w5.cell? ⟨gc,oc,none⟩=some (.int .i64 (y:Int)):=y0x
          have xL:=xLx
          have yL:=yLx
          clear x0x y0x xLx yLx
          obtain ⟨σ,V,hne,V1,V2⟩:=class_of' (fun w'=>Below w5.heap.size w5 w') ⟨_,Below.refl _ _⟩
          have cV0:∀ z9,(V z9).cell? ⟨gd,i,none⟩=some (.int .i64 (y:Int)):=fun z9=>((V1.out z9).cell (p:=⟨gd,i,none⟩) xL).trans x0
          have cV1:∀ z9,(V z9).cell? ⟨gc,oc,none⟩=some (.int .i64 (y:Int)):=fun z9=>((V1.out z9).cell (p:=⟨gc,oc,none⟩) yL).trans y0
          refine wp_region_class (C:=fun w'=>∃ z8,w'=V z8) (by kernel_rfl) (by kernel_rfl) (V2.out _ (Below.refl _ _).drew) ?_
          repeat (go_big_quiet_step (fail))
          refine wpQuiet_nil ?_
          intro w6 hw9
          obtain ⟨s9,hw9⟩:=hw9
          have hb:Below w5.heap.size w5 w6:=by rw [hw9];exact V1.out s9
          clear hw9 cV0 cV1 V1 V2 s9 hne V σ
          have B6:Hid (Below wa.heap.size wa w6):=bstep B5.out hb
          clear hb
          go_wp2
          have hin:=HIN.out
          exact ⟨⟨i+1,by simp,by omega,B6⟩,by simp [intOf];omega⟩
        · have hne:((y:Int) == (k:Int))=false:=by rw [← Bool.not_eq_true,beq_iff_eq];omega
          have hne2:¬ (y:Int)=(k:Int):=by omega
          clear hKY
          go_upto_region 15 with (go_at_call 26;refine (HDY.out _ _ (HHw.out _ hB.out)).mono ?_;rintro e w5 ⟨rfl,hb⟩;have B5:Hid (Below wa.heap.size wa w5):=bstep hB.out hb;have x0x:=(hb.cell (p:=⟨gd,i,none⟩) xL).trans x0;have y0x:=(hb.cell (p:=⟨gc,oc+j,none⟩) yL).trans y0;have xLx:gd<w5.heap.size:=Nat.lt_of_lt_of_le xL hb.size;have yLx:gc<w5.heap.size:=Nat.lt_of_lt_of_le yL hb.size;clear hb x0 y0 xL yL HDY)
          have x0:=x0x
          have y0:=y0x
          have xL:=xLx
          have yL:=yLx
          clear x0x y0x xLx yLx
          obtain ⟨σ,V,hne,V1,V2⟩:=class_of' (fun w'=>Below w5.heap.size w5 w') ⟨_,Below.refl _ _⟩
          have cV0:∀ z9,(V z9).cell? ⟨gd,i,none⟩=some (.int .i64 (y:Int)):=fun z9=>((V1.out z9).cell (p:=⟨gd,i,none⟩) xL).trans x0
          have cV1:∀ z9,(V z9).cell? ⟨gc,oc+j,none⟩=some (.int .i64 (y:Int)):=fun z9=>((V1.out z9).cell (p:=⟨gc,oc+j,none⟩) yL).trans y0
          refine wp_region_class (C:=fun w'=>∃ z8,w'=V z8) (by kernel_rfl) (by kernel_rfl) (V2.out _ (Below.refl _ _).drew) ?_
          repeat (go_big_quiet_step (fail))
          refine wpQuiet_nil ?_
          intro w6 hw9
          obtain ⟨s9,hw9⟩:=hw9
          have hb:Below w5.heap.size w5 w6:=by rw [hw9];exact V1.out s9
          clear hw9 cV0 cV1 V1 V2 s9 hne V σ
          have B6:Hid (Below wa.heap.size wa w6):=bstep B5.out hb
          clear hb
          go_wp2
          exact ⟨⟨i+1,by simp,by omega,B6⟩,by simp [intOf];omega⟩
      · have e:i=n:=by omega
        subst e
        have hn2:=HN2.out
        have hnI:(i:Int) - 1=(n2:Int):=by omega
        have hn2i:n2≤i:=by omega
        have h0i:0<i:=by omega
        clear hn2
        go_upto_region 21 with (first
          | (go_at_call 27;refine (HSP.out _ _ (HHw.out _ hB.out)).mono ?_;rintro e w9 ⟨rfl,hw9⟩;rw [hw9];clear hw9 w9 HSP)
          | (go_at_call 24;refine (HD2.out _ _ (HHw.out _ hB.out)).mono ?_;rintro e w7 ⟨⟨b1,d1,b2,d2,b3,m3,d3,rfl,hr1,hr2⟩,hb⟩;have R7:Hid (Rds w7 (.slice b1 p2 d1) p2 1 (P2.map numV)∧Rds w7 (.slice b2 q2 d2) q2 1 (Q2.map numV)):=⟨hr1,hr2⟩;have B7:Hid (Below wa.heap.size wa w7):=bstep hB.out hb;clear hb hr1 hr2 HD2))
        have hb8:Below w7.heap.size w7 (w7.alloc (.cells #[.slice b1 p2 d1,.slice b2 q2 d2,.slice b3 m3 d3] 47)):=(Below.refl _ _).alloc (Nat.le_refl _) _
        have B8:Hid (Below wa.heap.size wa (w7.alloc (.cells #[.slice b1 p2 d1,.slice b2 q2 d2,.slice b3 m3 d3] 47))):=bstep B7.out hb8
        have R8:Hid (Rds (w7.alloc (.cells #[.slice b1 p2 d1,.slice b2 q2 d2,.slice b3 m3 d3] 47)) (.slice b1 p2 d1) p2 1 (P2.map numV)∧Rds (w7.alloc (.cells #[.slice b1 p2 d1,.slice b2 q2 d2,.slice b3 m3 d3] 47)) (.slice b2 q2 d2) q2 1 (Q2.map numV)):=⟨R7.out.1.keep hb8,R7.out.2.keep hb8⟩
        have d8:(w7.alloc (.cells #[.slice b1 p2 d1,.slice b2 q2 d2,.slice b3 m3 d3] 47)).heap[w7.heap.size]?=some (.cells #[.slice b1 p2 d1,.slice b2 q2 d2,.slice b3 m3 d3] 47 (0,0)):=halloc1 _ _
        clear ddB dd0 dd1 dd2 ddf ddL ddN hb8 R7
        generalize (w7.alloc (.cells #[.slice b1 p2 d1,.slice b2 q2 d2,.slice b3 m3 d3] 47))=w8 at *
        have ddB:Hid (w8.heap[w7.heap.size]?=some (.cells #[.slice b1 p2 d1,.slice b2 q2 d2,.slice b3 m3 d3] 47 (0,0))):=d8
        obtain ⟨dd0,dd1,dd2,ddf,ddL⟩:=rw3 d8
        have ddN:¬ w7.heap.size=w8.heap.size:=by omega
        clear d8
        go_cut [18] (fun s18 wx=>Hid (∃ au cu,s18=.slice au n2 cu∧wx.ownsRow w8.heap.size 3 1 (.slice au n2 cu) n2 ((D.take n2).map numV)∧Below w8.heap.size w8 wx))
        case first =>
          go_region_law (first
            | (refine step_append_rdw rfl (.tmp 150) (.tmp 152) 31 rfl w8.heap.size 3 i0 (.int .i64 0) 1 8 Tryz.underlying31 hi0 hz0 hz1 hz2 rfl (by decide) (.slice (some ⟨w8.heap.size,0,none⟩) 0 0) 0 [] (by simp [Act.eval]) (by first|exact own_empty w8.drew w8.heap.size rfl w8.heap.size _ _ (Nat.le_refl _)|exact (own_empty w8 w8.heap.size rfl w8.heap.size _ _ (Nat.le_refl _)).drew) (.slice b1 p2 d1) p2 (P2.map numV) (by simp [Act.eval]) (.inl (R8.out.1.keep (by first|exact ((Below.refl _ _).drew).alloc (by simp) _|exact ((Below.refl _ _).alloc (by simp) _).drew))) (nums_one _) (by unfold maxLen;omega) (by omega) (by simp) ?_;intro v5 w5 hown hgrow;obtain ⟨e5,f5,rfl⟩:=ownv hown;simp only [Nat.zero_add,List.nil_append] at hown ⊢;have O5:Hid (w5.ownsRow w8.heap.size 3 1 (.slice e5 p2 f5) p2 (P2.map numV)):=hown;have hb:Below w8.heap.size w8 w5:=(Below.grown (w:=_) (((Below.refl _ w8).drew).alloc (by simp) _) hgrow (by simp) (fun k hk=>by simp [Value.ownBlock] at hk;omega));have B5:Hid (Below w8.heap.size w8 w5):=hb;have rrd:=kp3 (n:=w7.heap.size) hb (by omega) ddB.out;(try clear rrB rr0 rr1 rr2 rrf rrL rrN);obtain ⟨rrB,rr0,rr1,rr2,rrf,rrL,rrN⟩:=rrd;clear hown hgrow hb)
            | (refine step_append_rdw rfl (.tmp 153) (.tmp 155) 31 rfl w8.heap.size 3 i0 (.int .i64 0) 1 8 Tryz.underlying31 hi0 hz0 hz1 hz2 rfl (by decide) (.slice e5 p2 f5) p2 (P2.map numV) (by simp [Act.eval]) O5.out (.slice b2 q2 d2) q2 (Q2.map numV) (by simp [Act.eval]) (.inl (R8.out.2.keep B5.out)) (nums_one _) (by unfold maxLen;omega) (by omega) B5.out.size ?_;intro v6 w6 hown hgrow;obtain ⟨e6,f6,rfl⟩:=ownv hown;have O6:Hid (w6.ownsRow w8.heap.size 3 1 (.slice e6 (p2+q2) f6) (p2+q2) (P2.map numV++Q2.map numV)):=hown;have B6:Hid (Below w8.heap.size w8 w6):=(Below.grown (w:=_) B5.out hgrow B5.out.size (fun k hk=>(O5.out.lt k hk).1));clear hown hgrow))
          all_goals (go_wp2_with fail)
          all_goals go_meet
          all_goals exact (by have h6:=O6.out;rw [← List.map_append,HD2D.out,hpq2] at h6;(try rw [hpq2]);exact ⟨_,_,rfl,h6,B6.out⟩)
        case rest =>
          obtain ⟨au,cu,rfl,hOU,hBu⟩:=hcut.out
          have OU:Hid (Rds wc (.slice au n2 cu) n2 1 ((D.take n2).map numV)):=own_rds hOU
          have BU:Hid (Below wa.heap.size wa wc):=bstep B8.out hBu
          obtain ⟨gd,capd,hfd,hcap⟩:=own_form OD.out h0i
          injection hfd with hfd1 _ hfd2
          subst hfd1 hfd2
          have DR:Hid (Rds wc (.slice (some ⟨gd,0,none⟩) n2 cd) n2 1 ((D.take n2).map numV)):=by
            rcases (cut_rds OD.out (c:=n2) (by omega)).keep BU.out with h|⟨h,_⟩
            · exact h
            · omega
          have HSN2:Hid (∀ w,Below wc.heap.size wc w→Calls Tryz.prog 28 #[.slice au n2 cu,.slice (some ⟨gd,0,none⟩) n2 cd] w fun e w'=>e=.returned (.bool true)∧Below w.heap.size w w'):=fun w hb=>HSN.out _ _ w (OU.out.keep hb) (DR.out.keep hb)
          have hcI:(n2:Int)≤(cd:Int):=by omega
          clear hcut hOU hBu
          go_wp2_with (go_at_call 28;refine (HSN2.out _ (Below.refl _ _)).mono ?_;rintro e w9 ⟨rfl,hb⟩;have B9:Hid (Below wa.heap.size wa w9):=bstep BU.out hb;clear hb HSN2)
          exact bodyPost_ret (results_tmp rfl _ _ _) rfl ⟨rfl,BW.out.trans (B9.out.mono BW.out.size)⟩
end Go.Proofs.YtkclpcmkplbclaaGreat
