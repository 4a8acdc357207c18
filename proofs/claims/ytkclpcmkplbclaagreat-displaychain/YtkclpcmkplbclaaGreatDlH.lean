import Derived.Test.YtkclpcmkplbclaaGreatDlF
set_option maxRecDepth 100000
namespace Go.Proofs.YtkclpcmkplbclaaGreat
open Go.RowKit Go.Maps
set_option maxHeartbeats 16000000 in
theorem chn_z (ps:List Plc) (W:World) (v:Value) (k n:Nat) (p:Nat) (hpq:p+0=n) (hn:n≤300) (hp:p≤8) (HN1:Hid (n=1)) (l D P Q:List Nat) (HDD:Hid (P++Q=D)) (HDN:Hid (D.length=n)) (HLD:Hid (∀ i,i<n→D[i]?=l[n - 1 - i]?)) (HKY:Hid (∀ i y,D[i]?=some y→(y=k↔i+1=n))) (HB:Hid (∀ w:World,Below W.heap.size W w→Calls Tryz.prog 16 #[v] w fun e w'=>(∃ b,e=.returned (.pointer (some ⟨b,0,none⟩))∧WAt b ps w')∧Below w.heap.size w w')) (HD:Hid (∀ b w,WAt b ps w→Calls Tryz.prog 24 #[.pointer (some ⟨b,0,none⟩),.int .i64 (k:Int)] w fun e w'=>(∃ a1 c1 a2 c2 a3 n3 c3,e=.returned (.tuple #[.agg #[.slice a1 p c1,.slice a2 0 c2,.slice a3 n3 c3],.int .i64 0])∧Rds w' (.slice a1 p c1) p 1 (P.map numV)∧Rds w' (.slice a2 0 c2) 0 1 (Q.map numV))∧Below w.heap.size w w')) (HC:Hid (∀ b w,WAt b ps w→Calls Tryz.prog 25 #[.pointer (some ⟨b,0,none⟩),.int .i64 (k:Int)] w fun e w'=>(∃ ca cc,e=.returned (.tuple #[.slice ca n cc,.int .i64 0])∧Rds w' (.slice ca n cc) n 1 (l.map numV))∧Below w.heap.size w w')) (HDP:Hid (∀ (i y:Nat),D[i]?=some y→∀ b w,WAt b ps w→Calls Tryz.prog 26 #[.pointer (some ⟨b,0,none⟩),.int .i64 (y:Int)] w fun e w'=>e=.returned (.tuple #[.int .i64 (i:Int),.int .i64 0])∧Below w.heap.size w w')) (HSP:Hid (∀ b w,WAt b ps w→Calls Tryz.prog 27 #[.pointer (some ⟨b,0,none⟩),.int .i64 (k:Int)] w fun e w'=>e=.returned (.tuple #[.int .i64 0,.int .i64 6])∧w'=w)) :
    Calls Tryz.prog 4 #[v,.int .i64 (k:Int)] W fun e w'=>e=.returned (.bool true)∧Below W.heap.size W w':=by
  have hp2:¬ (8:Int)<(p:Int):=by omega
  have hp3:decide ((8:Int)<(p:Int))=false:=by simp;omega
  obtain ⟨i0,hi0,hz0,hz1,hz2⟩:=info_parts Tryz.hinfoInt
  have HA:Hid (∀ w:World,Calls Tryz.prog 15 #[] w fun e w'=>e=.returned (.bool true)∧Below w.heap.size w w'):=awake15_c
  have BB:Hid (Below W.heap.size W W):=Below.refl _ _
  go_enter Tryz.func4,Tryz.ntmps4
  go_upto_region 8 with (first
    | (go_at_call 15;refine (HA.out _).mono ?_;rintro e w1 ⟨rfl,hb⟩;have BB2:Below W.heap.size W w1:=bstep (by repeat (first|refine Below.setCell ?_ (by simp;try omega) _|refine Below.alloc ?_ (by have:=BB.out.size;simp;try omega) _|refine Below.drew ?_|exact BB.out)) hb;clear BB;have BB:Hid (Below W.heap.size W w1):=BB2;clear BB2;clear hb HA)
    | (go_at_call 16;refine (HB.out _ BB.out).mono ?_;rintro e w2 ⟨⟨b,rfl,hw⟩,hb⟩;have HH:Hid (WAt b ps w2):=hw;have BB2:Below W.heap.size W w2:=bstep (by repeat (first|refine Below.setCell ?_ (by simp;try omega) _|refine Below.alloc ?_ (by have:=BB.out.size;simp;try omega) _|refine Below.drew ?_|exact BB.out)) hb;clear BB;have BB:Hid (Below W.heap.size W w2):=BB2;clear BB2;clear hb HB hw)
    | (go_at_call 24;refine (HD.out _ _ HH.out).mono ?_;rintro e w3 ⟨⟨a1,c1,a2,c2,a3,n3,c3,rfl,hr1,hr2⟩,hb⟩;have R3:Hid (Rds w3 (.slice a1 p c1) p 1 (P.map numV)∧Rds w3 (.slice a2 0 c2) 0 1 (Q.map numV)):=⟨hr1,hr2⟩;have BB2:Below W.heap.size W w3:=bstep (by repeat (first|refine Below.setCell ?_ (by simp;try omega) _|refine Below.alloc ?_ (by have:=BB.out.size;simp;try omega) _|refine Below.drew ?_|exact BB.out)) hb;clear BB;have BB:Hid (Below W.heap.size W w3):=BB2;clear BB2;have HH2:=HH.out.below hb;clear HH;have HH:Hid (WAt b ps w3):=HH2;clear HH2;clear hb HD hr1 hr2)
    | (go_at_call 25;refine (HC.out _ _ (HH.out.below (by repeat (first|refine Below.setCell ?_ (by simp;try omega) _|refine Below.alloc ?_ (by simp;try omega) _|refine Below.drew ?_|exact Below.refl _ _)))).mono ?_;rintro e w4 ⟨⟨ca,cc,rfl,hr⟩,hb⟩;have C4:Hid (Rds w4 (.slice ca n cc) n 1 (l.map numV)):=hr;have ddd:=kp3 (n:=w3.heap.size) hb (by first|omega|(simp;try omega)) (halloc1 _ _);(try clear ddB dd0 dd1 dd2 ddf ddL ddN);obtain ⟨ddB,dd0,dd1,dd2,ddf,ddL,ddN⟩:=ddd;have R4:Hid (Rds w4 (.slice a1 p c1) p 1 (P.map numV)∧Rds w4 (.slice a2 0 c2) 0 1 (Q.map numV)):=(by have hk:=(show Below w3.heap.size w3 w4 from bstep (by repeat (first|refine Below.setCell ?_ (by simp;try omega) _|refine Below.alloc ?_ (by simp;try omega) _|refine Below.drew ?_|exact Below.refl _ _)) hb);exact ⟨R3.out.1.keep hk,R3.out.2.keep hk⟩);have BB2:Below W.heap.size W w4:=bstep (by repeat (first|refine Below.setCell ?_ (by simp;try omega) _|refine Below.alloc ?_ (by have:=BB.out.size;simp;try omega) _|refine Below.drew ?_|exact BB.out)) hb;clear BB;have BB:Hid (Below W.heap.size W w4):=BB2;clear BB2;have HH2:=(HH.out.below (by repeat (first|refine Below.setCell ?_ (by simp;try omega) _|refine Below.alloc ?_ (by simp;try omega) _|refine Below.drew ?_|exact Below.refl _ _))).below hb;clear HH;have HH:Hid (WAt b ps w4):=HH2;clear HH2;clear hb HC hr R3))
  go_cut [10] (fun s10 wx=>Hid (∃ ad cd,s10=.slice ad n cd∧wx.ownsRow w4.heap.size 3 1 (.slice ad n cd) n (D.map numV)∧Below w4.heap.size w4 wx))
  case first =>
    go_region_law (first
      | (refine step_append_rdw rfl (.tmp 43) (.tmp 45) 31 rfl w4.heap.size 3 i0 (.int .i64 0) 1 8 Tryz.underlying31 hi0 hz0 hz1 hz2 rfl (by decide) (.slice (some ⟨w4.heap.size,0,none⟩) 0 0) 0 [] (by simp [Act.eval]) (by first|exact own_empty w4.drew w4.heap.size rfl w4.heap.size _ _ (Nat.le_refl _)|exact (own_empty w4 w4.heap.size rfl w4.heap.size _ _ (Nat.le_refl _)).drew) (.slice a1 p c1) p (P.map numV) (by simp [Act.eval]) (.inl (R4.out.1.keep (by first|exact ((Below.refl _ _).drew).alloc (by simp) _|exact ((Below.refl _ _).alloc (by simp) _).drew))) (nums_one _) (by unfold maxLen;omega) (by omega) (by simp) ?_;intro v5 w5 hown hgrow;obtain ⟨e5,f5,rfl⟩:=ownv hown;simp only [Nat.zero_add,List.nil_append] at hown ⊢;have O5:Hid (w5.ownsRow w4.heap.size 3 1 (.slice e5 p f5) p (P.map numV)):=hown;have hb:Below w4.heap.size w4 w5:=(Below.grown (w:=_) (((Below.refl _ w4).drew).alloc (by simp) _) hgrow (by simp) (fun k hk=>by simp [Value.ownBlock] at hk;omega));have B5:Hid (Below w4.heap.size w4 w5):=hb;have rrd:=kp3 (n:=w3.heap.size) hb (by omega) ddB.out;(try clear rrB rr0 rr1 rr2 rrf rrL rrN);obtain ⟨rrB,rr0,rr1,rr2,rrf,rrL,rrN⟩:=rrd;clear hown hgrow hb)
      | (refine step_append_rdw rfl (.tmp 46) (.tmp 48) 31 rfl w4.heap.size 3 i0 (.int .i64 0) 1 8 Tryz.underlying31 hi0 hz0 hz1 hz2 rfl (by decide) (.slice e5 p f5) p (P.map numV) (by simp [Act.eval]) O5.out (.slice a2 0 c2) 0 (Q.map numV) (by simp [Act.eval]) (.inl (R4.out.2.keep B5.out)) (nums_one _) (by unfold maxLen;omega) (by omega) B5.out.size ?_;intro v6 w6 hown hgrow;obtain ⟨e6,f6,rfl⟩:=ownv hown;have O6:Hid (w6.ownsRow w4.heap.size 3 1 (.slice e6 (p+0) f6) (p+0) (P.map numV++Q.map numV)):=hown;have B6:Hid (Below w4.heap.size w4 w6):=(Below.grown (w:=_) B5.out hgrow B5.out.size (fun k hk=>(O5.out.lt k hk).1));clear hown hgrow))
    all_goals (go_wp2_with fail)
    all_goals go_meet
    all_goals exact (by have h6:=O6.out;rw [← List.map_append,HDD.out,hpq] at h6;(try rw [hpq]);exact ⟨_,_,rfl,h6,B6.out⟩)
  case rest =>
    obtain ⟨wa,rfl⟩:∃ wa,wa=wc:=⟨_,rfl⟩
    obtain ⟨ad,cd,rfl,hOD,hBc⟩:=hcut.out
    have OD:Hid (wa.ownsRow w4.heap.size 3 1 (.slice ad n cd) n (D.map numV)):=hOD
    have hb:=hBc
    have ddd:=kp3 (n:=w3.heap.size) hb (by first|omega|(simp;try omega)) (ddB.out);(try clear ddB dd0 dd1 dd2 ddf ddL ddN);obtain ⟨ddB,dd0,dd1,dd2,ddf,ddL,ddN⟩:=ddd
    have BW:Hid (Below W.heap.size W wa):=bstep BB.out hb
    have HHw:Hid (∀ w,Below wa.heap.size wa w→WAt b ps w):=fun w hw=>HH.out.below (bstep hb hw)
    have C5:Hid (Rds wa (.slice ca n cc) n 1 (l.map numV)):=C4.out.keep hb
    clear hcut hOD hBc hb BB HH C4 R4
    go_wp2
    go_loopw [11] (fun iv wr=>∃ (i:Nat),iv=.int .i64 i∧i≤n∧Hid (Below wa.heap.size wa wr)) (fun iv _=>n - (intOf iv).toNat)
    case atStart=>exact ⟨0,rfl,Nat.zero_le _,Below.refl _ _⟩
    case round =>
      obtain ⟨i,rfl,hi,hB⟩:=hrel
      by_cases hlt:i<n
      · have hiI:(i:Int)<(n:Int):=by omega
        obtain ⟨y,hy⟩:∃ y,D[i]?=some y:=⟨_,List.getElem?_eq_getElem (by rw [HDN.out];exact hlt)⟩
        obtain ⟨j,hj⟩:∃ j,n - 1 - i=j:=⟨_,rfl⟩
        have hly:l[j]?=some y:=by rw [← hj,← HLD.out i hlt];exact hy
        obtain ⟨gd,capd,hfd⟩:=Go.Joins.ownsRow_form OD.out (by omega)
        injection hfd with hfd1 _ hfd2
        subst hfd1 hfd2
        have x00:=row_at OD.out hy
        have xl0:=World.block_lt_of_cell? _ _ x00
        rcases C5.out.val with ⟨_,e⟩|⟨gc,oc,capc,e,_,_,hg,hcs⟩
        · exact absurd e (by omega)
        injection e with e1 _ e2
        subst e1 e2
        have y00:=hcs j (.int .i64 (y:Int)) (by rw [List.getElem?_map,hly];rfl)
        have x0:=(hB.out.cell (p:=⟨gd,i,none⟩) xl0).trans x00
        have y0:=(hB.out.cell (p:=⟨gc,oc+j,none⟩) hg).trans y00
        have xL:gd<wr.heap.size:=Nat.lt_of_lt_of_le xl0 hB.out.size
        have yL:gc<wr.heap.size:=Nat.lt_of_lt_of_le hg hB.out.size
        have hjI:(n:Int) - 1 - (i:Int)=(j:Int):=by omega
        have hjn:(j:Int)<(n:Int):=by omega
        have HDY:Hid (∀ b w,WAt b ps w→Calls Tryz.prog 26 #[.pointer (some ⟨b,0,none⟩),.int .i64 (y:Int)] w fun e w'=>e=.returned (.tuple #[.int .i64 (i:Int),.int .i64 0])∧Below w.heap.size w w'):=HDP.out i y hy
        have hKY:=HKY.out i y hy
        clear hcs hy hly x00 y00
        by_cases hyk:y=k
        · subst hyk
          have hin:i+1=n:=by have:=hKY.1 rfl;omega
          have hj0:j=0:=by omega
          subst hj0
          have hin1:(n:Int) - 1=(i:Int):=by omega
          have hn0:(0:Int)<(n:Int):=by omega
          have HIN:Hid (i+1=n):=hin
          clear hjI hjn hj hKY hin
          go_upto_region 15 with (go_at_call 26;refine (HDY.out _ _ (HHw.out _ hB.out)).mono ?_;rintro e w5 ⟨rfl,hb⟩;have B5:Hid (Below wa.heap.size wa w5):=bstep hB.out hb;have x0x:=(hb.cell (p:=⟨gd,i,none⟩) xL).trans x0;have y0x:=(hb.cell (p:=⟨gc,oc+0,none⟩) yL).trans y0;have xLx:gd<w5.heap.size:=Nat.lt_of_lt_of_le xL hb.size;have yLx:gc<w5.heap.size:=Nat.lt_of_lt_of_le yL hb.size;clear hb x0 y0 xL yL HDY)
          have x0:=x0x
          have y0:w5.cell? ⟨gc,oc,none⟩=some (.int .i64 (y:Int)):=y0x
          have xL:=xLx
          have yL:=yLx
          clear x0x y0x xLx yLx
          obtain ⟨σ,V,hne,V1,V2⟩:=class_of' (fun w'=>Below w5.heap.size w5 w') ⟨_,Below.refl _ _⟩
          have cV0:∀ z9,(V z9).cell? ⟨gd,i,none⟩=some (.int .i64 (y:Int)):=fun z9=>((V1.out z9).cell (p:=⟨gd,i,none⟩) xL).trans x0
          have cV1:∀ z9,(V z9).cell? ⟨gc,oc,none⟩=some (.int .i64 (y:Int)):=fun z9=>((V1.out z9).cell (p:=⟨gc,oc,none⟩) yL).trans y0
          refine wp_region_class (C:=fun w'=>∃ z8,w'=V z8) (by kernel_rfl) (by kernel_rfl) (V2.out _ (Below.refl _ _).drew) ?_
          repeat (go_big_quiet_step (fail))
          refine wpQuiet_nil ?_
          intro w6 hw9
          obtain ⟨s9,hw9⟩:=hw9
          have hb:Below w5.heap.size w5 w6:=by rw [hw9];exact V1.out s9
          clear hw9 cV0 cV1 V1 V2 s9 hne V σ
          have B6:Hid (Below wa.heap.size wa w6):=bstep B5.out hb
          clear hb
          go_wp2
          have hin:=HIN.out
          exact ⟨⟨i+1,by simp,by omega,B6⟩,by simp [intOf];omega⟩
        · have hne:((y:Int) == (k:Int))=false:=by rw [← Bool.not_eq_true,beq_iff_eq];omega
          have hne2:¬ (y:Int)=(k:Int):=by omega
          clear hKY
          go_upto_region 15 with (go_at_call 26;refine (HDY.out _ _ (HHw.out _ hB.out)).mono ?_;rintro e w5 ⟨rfl,hb⟩;have B5:Hid (Below wa.heap.size wa w5):=bstep hB.out hb;have x0x:=(hb.cell (p:=⟨gd,i,none⟩) xL).trans x0;have y0x:=(hb.cell (p:=⟨gc,oc+j,none⟩) yL).trans y0;have xLx:gd<w5.heap.size:=Nat.lt_of_lt_of_le xL hb.size;have yLx:gc<w5.heap.size:=Nat.lt_of_lt_of_le yL hb.size;clear hb x0 y0 xL yL HDY)
          have x0:=x0x
          have y0:=y0x
          have xL:=xLx
          have yL:=yLx
          clear x0x y0x xLx yLx
          obtain ⟨σ,V,hne,V1,V2⟩:=class_of' (fun w'=>Below w5.heap.size w5 w') ⟨_,Below.refl _ _⟩
          have cV0:∀ z9,(V z9).cell? ⟨gd,i,none⟩=some (.int .i64 (y:Int)):=fun z9=>((V1.out z9).cell (p:=⟨gd,i,none⟩) xL).trans x0
          have cV1:∀ z9,(V z9).cell? ⟨gc,oc+j,none⟩=some (.int .i64 (y:Int)):=fun z9=>((V1.out z9).cell (p:=⟨gc,oc+j,none⟩) yL).trans y0
          refine wp_region_class (C:=fun w'=>∃ z8,w'=V z8) (by kernel_rfl) (by kernel_rfl) (V2.out _ (Below.refl _ _).drew) ?_
          repeat (go_big_quiet_step (fail))
          refine wpQuiet_nil ?_
          intro w6 hw9
          obtain ⟨s9,hw9⟩:=hw9
          have hb:Below w5.heap.size w5 w6:=by rw [hw9];exact V1.out s9
          clear hw9 cV0 cV1 V1 V2 s9 hne V σ
          have B6:Hid (Below wa.heap.size wa w6):=bstep B5.out hb
          clear hb
          go_wp2
          exact ⟨⟨i+1,by simp,by omega,B6⟩,by simp [intOf];omega⟩
      · have e:i=n:=by omega
        subst e
        obtain rfl:i=1:=HN1.out
        go_wp2_with (go_at_call 27;refine (HSP.out _ _ (HHw.out _ hB.out)).mono ?_;rintro e w9 ⟨rfl,hw9⟩;rw [hw9];clear hw9 w9 HSP)
        exact bodyPost_ret (results_tmp rfl _ _ _) rfl ⟨rfl,BW.out.trans (hB.out.mono BW.out.size)⟩
set_option maxHeartbeats 16000000 in
theorem chn_e (ps:List Plc) (W:World) (v:Value) (x:Int) (HB:Hid (∀ w:World,Below W.heap.size W w→Calls Tryz.prog 16 #[v] w fun e w'=>(∃ b,e=.returned (.pointer (some ⟨b,0,none⟩))∧WAt b ps w')∧Below w.heap.size w w')) (HD:Hid (∀ b w,WAt b ps w→Calls Tryz.prog 24 #[.pointer (some ⟨b,0,none⟩),.int .i64 x] w fun e w'=>(e=.returned (.tuple #[.agg #[.slice none 0 0,.slice none 0 0,.slice none 0 0],.int .i64 3]))∧Below w.heap.size w w')) (HC:Hid (∀ b w,WAt b ps w→Calls Tryz.prog 25 #[.pointer (some ⟨b,0,none⟩),.int .i64 x] w fun e w'=>(e=.returned (.tuple #[.slice none 0 0,.int .i64 3]))∧Below w.heap.size w w')) :
    Calls Tryz.prog 4 #[v,.int .i64 x] W fun e w'=>e=.returned (.bool true)∧Below W.heap.size W w':=by
  have HA:Hid (∀ w:World,Calls Tryz.prog 15 #[] w fun e w'=>e=.returned (.bool true)∧Below w.heap.size w w'):=awake15_c
  have BB:Hid (Below W.heap.size W W):=Below.refl _ _
  go_enter Tryz.func4,Tryz.ntmps4
  go_wp2_with (first
    | (go_at_call 15;refine (HA.out _).mono ?_;rintro e w1 ⟨rfl,hb⟩;have BB2:Below W.heap.size W w1:=bstep (by repeat (first|refine Below.setCell ?_ (by simp;try omega) _|refine Below.alloc ?_ (by have:=BB.out.size;simp;try omega) _|refine Below.drew ?_|exact BB.out)) hb;clear BB;have BB:Hid (Below W.heap.size W w1):=BB2;clear BB2;clear hb HA)
    | (go_at_call 16;refine (HB.out _ BB.out).mono ?_;rintro e w2 ⟨⟨b,rfl,hw⟩,hb⟩;have HH:Hid (WAt b ps w2):=hw;have BB2:Below W.heap.size W w2:=bstep (by repeat (first|refine Below.setCell ?_ (by simp;try omega) _|refine Below.alloc ?_ (by have:=BB.out.size;simp;try omega) _|refine Below.drew ?_|exact BB.out)) hb;clear BB;have BB:Hid (Below W.heap.size W w2):=BB2;clear BB2;clear hb HB hw)
    | (go_at_call 24;refine (HD.out _ _ HH.out).mono ?_;rintro e w3 ⟨rfl,hb⟩;have BB2:Below W.heap.size W w3:=bstep (by repeat (first|refine Below.setCell ?_ (by simp;try omega) _|refine Below.alloc ?_ (by have:=BB.out.size;simp;try omega) _|refine Below.drew ?_|exact BB.out)) hb;clear BB;have BB:Hid (Below W.heap.size W w3):=BB2;clear BB2;have HH2:=HH.out.below hb;clear HH;have HH:Hid (WAt b ps w3):=HH2;clear HH2;clear hb HD)
    | (go_at_call 25;refine (HC.out _ _ (HH.out.below (by repeat (first|refine Below.setCell ?_ (by simp;try omega) _|refine Below.alloc ?_ (by simp;try omega) _|refine Below.drew ?_|exact Below.refl _ _)))).mono ?_;rintro e w4 ⟨rfl,hb⟩;have BB2:Below W.heap.size W w4:=bstep (by repeat (first|refine Below.setCell ?_ (by simp;try omega) _|refine Below.alloc ?_ (by have:=BB.out.size;simp;try omega) _|refine Below.drew ?_|exact BB.out)) hb;clear BB;have BB:Hid (Below W.heap.size W w4):=BB2;clear BB2;have HH2:=(HH.out.below (by repeat (first|refine Below.setCell ?_ (by simp;try omega) _|refine Below.alloc ?_ (by simp;try omega) _|refine Below.drew ?_|exact Below.refl _ _))).below hb;clear HH;have HH:Hid (WAt b ps w4):=HH2;clear HH2;clear hb HC))
  all_goals exact bodyPost_ret (results_tmp rfl _ _ _) rfl ⟨rfl,(by repeat (first|refine Below.setCell ?_ (by simp;try omega) _|refine Below.alloc ?_ (by have:=BB.out.size;simp;try omega) _|refine Below.drew ?_|exact BB.out))⟩
theorem bld_of {b:Nat} {ps:List Plc} {w:World} (hw:WAt b ps w) (hW:WI ps) (k:Nat) (q:Plc) (hq:ps[k]?=some q) (a c:Nat) (ha:((dnL ps k).take 8).length=a) (hc:((dnL ps k).drop 8).length=c):Calls Tryz.prog 24 #[.pointer (some ⟨b,0,none⟩),.int .i64 (k:Int)] w fun e w'=>(∃ a1 c1 a2 c2 a3 n3 c3,e=.returned (.tuple #[.agg #[.slice a1 a c1,.slice a2 c c2,.slice a3 n3 c3],.int .i64 0])∧Rds w' (.slice a1 a c1) a 1 (((dnL ps k).take 8).map numV)∧Rds w' (.slice a2 c c2) c 1 (((dnL ps k).drop 8).map numV))∧Below w.heap.size w w':=by
  have e0:dspR ps (k:Int)=(((dnL ps k).take 8,(dnL ps k).drop 8,q.cl),0):=by rw [dspR,plcI_nat,hq];rfl
  refine (dbl_c hw hW (k:Int)).mono ?_
  rw [e0]
  rintro e w' ⟨⟨v1,v2,v3,rfl,ho⟩,hb⟩
  obtain ⟨r1,r2,r3⟩:=ho.rows
  obtain ⟨a1,c1,rfl⟩:=ownv r1
  obtain ⟨a2,c2,rfl⟩:=ownv r2
  obtain ⟨a3,c3,rfl⟩:=ownv r3
  have q1:=own_rds r1
  have q2:=own_rds r2
  simp only [ha,hc] at q1 q2 ⊢
  exact ⟨⟨a1,c1,a2,c2,a3,q.cl.length,c3,rfl,q1,q2⟩,hb⟩
theorem dn_cons {ps:List Plc} (hW:WI ps) {k:Nat} {q:Plc} (hq:ps[k]?=some q) (h0:0<k):dnL ps k=dnL ps q.sp++[k]∧q.sp<k:=by
  have hkl:k<(ps.map nd).length:=by rw [List.length_map];exact (List.getElem?_eq_some_iff.1 hq).1
  have e:spO (ps.map nd) k=q.sp:=by rw [spO,nd_at' hq];rfl
  have:=hW.wo.spLt hkl h0
  rw [e] at this
  exact ⟨by rw [dnL,dnL,chL_cons hW.wo hkl h0,e,List.reverse_cons],this⟩
theorem DisplayChain_any (v:Value) (cl:List Cls) (x:Int) (W:World) (h:IsClss W v cl):Calls Tryz.prog 4 #[v,.int .i64 x] W fun e w'=>e=.returned (.bool true)∧Below W.heap.size W w':=by
  have hW:=wld_wi cl (clss_w h)
  have HBl:∀ w:World,Below W.heap.size W w→Calls Tryz.prog 16 #[v] w fun e w'=>(∃ b,e=.returned (.pointer (some ⟨b,0,none⟩))∧WAt b (wld cl) w')∧Below w.heap.size w w':=fun w hb=>built15_c v cl w (clss_kp h hb)
  generalize wld cl=ps at *
  rcases plcI_cases ps x with ⟨hn,_⟩|⟨k,q,rfl,hk,hq⟩
  · refine chn_e ps W v x HBl (fun b w hw=>?_) (fun b w hw=>chain_no6 hw x hn)
    have hc3:ckI ps x=3:=by rw [ckI,hn]
    exact dbl_no w b x 3 (by decide) (fun w2 hb2=>by rw [← hc3];exact dck_c (hw.below hb2) x)
  · have hkl:=(List.getElem?_eq_some_iff.1 hk).1
    have hkl2:k<(ps.map nd).length:=by rw [List.length_map];exact hkl
    have hn:=dn_le hW hkl
    have HLD:∀ i,i<(dnL ps k).length→(dnL ps k)[i]?=(chL (ps.map nd) k)[(dnL ps k).length - 1 - i]?:=fun i hi=>by
      rw [dn_len] at hi ⊢
      rw [dnL,List.getElem?_reverse hi]
    have HKY:∀ i y,(dnL ps k)[i]?=some y→(y=k↔i+1=(dnL ps k).length):=fun i y hy=>by
      have hd:=dn_depth hW.wo hkl2 hy
      constructor
      · intro e
        rw [e] at hd
        rw [dn_len];omega
      · intro e
        have h1:=dn_own (ps.map nd) k
        rw [dn_len] at e
        rw [show (chL (ps.map nd) k).length - 1=i by omega] at h1
        have h2:(chL (ps.map nd) k).reverse[i]?=some y:=hy
        rw [h1] at h2
        exact (Option.some.inj h2).symm
    have HDP:∀ (i y:Nat),(dnL ps k)[i]?=some y→∀ b w,WAt b ps w→Calls Tryz.prog 26 #[.pointer (some ⟨b,0,none⟩),.int .i64 (y:Int)] w fun e w'=>e=.returned (.tuple #[.int .i64 (i:Int),.int .i64 0])∧Below w.heap.size w w':=fun i y hy b w hw=>by
      have hd:=dn_depth hW.wo hkl2 hy
      have hyk:y≤k:=ch_le hW.wo k hkl2 y (List.mem_reverse.1 (List.mem_of_getElem? hy))
      obtain ⟨r,hr⟩:∃ r,ps[y]?=some r:=⟨_,List.getElem?_eq_getElem (by omega)⟩
      refine (depth_r hw hW (y:Int)).mono fun e w' zz=>⟨?_,zz.2⟩
      rw [zz.1,dpI,plcI_nat,hr]
      simp only [Int.toNat_natCast]
      rw [show ((chL (ps.map nd) y).length:Int) - 1=(i:Int) by omega]
    have HC:∀ b w,WAt b ps w→Calls Tryz.prog 25 #[.pointer (some ⟨b,0,none⟩),.int .i64 (k:Int)] w fun e w'=>(∃ ca cc,e=.returned (.tuple #[.slice ca (dnL ps k).length cc,.int .i64 0])∧Rds w' (.slice ca (dnL ps k).length cc) (dnL ps k).length 1 ((chL (ps.map nd) k).map numV))∧Below w.heap.size w w':=fun b w hw=>by
      have hc:=chain_r hw hW (k:Int)
      rw [chR,plcI_nat,hk] at hc
      rw [dn_len]
      exact hc
    by_cases h0:0<k
    · obtain ⟨hdn,hsp⟩:=dn_cons hW hk h0
      obtain ⟨r,hr⟩:∃ r,ps[q.sp]?=some r:=⟨_,List.getElem?_eq_getElem (by omega)⟩
      have hn2:(dnL ps k).length=(dnL ps q.sp).length+1:=by rw [hdn,List.length_append];rfl
      have ht:(dnL ps k).take (dnL ps q.sp).length=dnL ps q.sp:=by rw [hdn,List.take_left]
      have HSP:∀ b w,WAt b ps w→Calls Tryz.prog 27 #[.pointer (some ⟨b,0,none⟩),.int .i64 (k:Int)] w fun e w'=>e=.returned (.tuple #[.int .i64 (q.sp:Int),.int .i64 0])∧w'=w:=fun b w hw=>by
        refine (sup_c hw (k:Int)).mono fun e w' zz=>⟨?_,zz.2⟩
        rw [zz.1,supI,plcI_nat,hk]
        simp only []
        rw [if_neg (show ¬ (k:Int)=0 by omega)]
      have HD2:=fun b w (hw:WAt b ps w)=>bld_of hw hW q.sp r hr _ _ rfl rfl
      have hpq2:((dnL ps q.sp).take 8).length+((dnL ps q.sp).drop 8).length=(dnL ps q.sp).length:=by rw [List.length_take,List.length_drop];omega
      have HD2D:(dnL ps q.sp).take 8++(dnL ps q.sp).drop 8=(dnL ps k).take (dnL ps q.sp).length:=by rw [ht,List.take_append_drop]
      have h02:0<(dnL ps q.sp).length:=by rw [dn_len];exact ch_pos _
      have HSN:∀ v1 v2 w,Rds w v1 (dnL ps q.sp).length 1 (((dnL ps k).take (dnL ps q.sp).length).map numV)→Rds w v2 (dnL ps q.sp).length 1 (((dnL ps k).take (dnL ps q.sp).length).map numV)→Calls Tryz.prog 28 #[v1,v2] w fun e w'=>e=.returned (.bool true)∧Below w.heap.size w w':=fun v1 v2 w h1 h2=>by
        rw [ht] at h1 h2
        exact sameNums_rds (dnL ps q.sp) v1 v2 w h1 h2 (by omega)
      by_cases h8:(dnL ps k).length≤8
      · exact chn_a ps W v k _ _ (show ((dnL ps k).take 8).length+0=(dnL ps k).length by rw [List.length_take];omega) hn (by rw [List.length_take];omega) (chL (ps.map nd) k) (dnL ps k) _ _ (List.take_append_drop 8 _) rfl HLD HKY HBl (fun b w hw=>bld_of hw hW k q hk _ 0 rfl (by rw [List.length_drop];omega)) HC HDP q.sp _ _ _ _ _ hn2 h02 hpq2 HD2D HSP HD2 HSN
      · exact chn_b ps W v k _ _ (show 8+((dnL ps k).drop 8).length=(dnL ps k).length by rw [List.length_drop];omega) hn (by rw [List.length_drop];omega) (chL (ps.map nd) k) (dnL ps k) _ _ (List.take_append_drop 8 _) rfl HLD HKY HBl (fun b w hw=>bld_of hw hW k q hk 8 _ (by rw [List.length_take];omega) rfl) HC HDP q.sp _ _ _ _ _ hn2 h02 hpq2 HD2D HSP HD2 HSN
    · obtain rfl:k=0:=by omega
      have hn1:(dnL ps 0).length=1:=by rw [dn_len,chL_zero];rfl
      have HSP:∀ b w,WAt b ps w→Calls Tryz.prog 27 #[.pointer (some ⟨b,0,none⟩),.int .i64 ((0:Nat):Int)] w fun e w'=>e=.returned (.tuple #[.int .i64 0,.int .i64 6])∧w'=w:=fun b w hw=>by
        refine (sup_c hw ((0:Nat):Int)).mono fun e w' zz=>⟨?_,zz.2⟩
        rw [zz.1,supI,plcI_nat,hk]
        rfl
      exact chn_z ps W v 0 _ _ (show ((dnL ps 0).take 8).length+0=(dnL ps 0).length by rw [List.length_take];omega) hn (by rw [List.length_take];omega) hn1 (chL (ps.map nd) 0) (dnL ps 0) _ _ (List.take_append_drop 8 _) rfl HLD HKY HBl (fun b w hw=>bld_of hw hW 0 q hk _ 0 rfl (by rw [List.length_drop];omega)) HC HDP HSP
end Go.Proofs.YtkclpcmkplbclaaGreat
