import Derived.Test.YtfbhjfpkhofifaaGreatDoorDcR
import Derived.Test.YtfbhjfpkhofifaaGreatDoorDcS4
set_option maxHeartbeats 400000000
set_option maxRecDepth 100000
namespace Go.Proofs.YtfbhjfpkhofifaaGreatDoor
open Go.RowKit
set_option linter.unusedVariables false in
theorem dst_7b {s:ByteArray} {W w1 wr:World} {RR:Option Cls×Nat} {g cap L k:Nat} {ls:List (List UInt8)} {c:Cls} {KK:Act→World→Prop} {Aa Ab Ae Af Ag Ah Ai Aj Ak Al Am An Ao Ap Aq Ar Au Av Aw Ax Ay Az Ba Bb Bc Bd Be Bf Bg Bh Bi Bj Bk Bl Bm Bn Bo Bp Bq Br Bs Bt Bu Bv Bx By Bz Ca Cb Cc Cd Ce Cf Cg Ch Ci Cj Ck Cl Cm Cn Co Cp Cq Cr Cs Ct Cu Cv Cw Cx Cy Cz Da Db Dc De Df Dg Dh Di Dj Dk Dl Dm Dn Dp Dq Dr Ds Dt Du Dv Dw Dx Dy Dz Ea Eb Ec Ed Ee Ef Eg Eh Ei Ej Ek El Em En Eo Ep Eq Er Es Et Eu Ev Ew Ex Ey Ez Ka Kb Kc Kd Ke Kf Kg Kh Ki Kj Kk Kl Km Kn Ko Kp Kq Kr Ks Kt Ku Kv Kw Kx Ky Kz La Lb Lc Ld Le Lf Lg Lh Li Lj Lk Ll Lm Ln Lo Lp Lq Lr Ls Lt Lu Lv Lw Lx Ly Lz Ma Mb Mc Md Me Mf Mg Mh Mi Mj Mk Ml Mm Mn Mo Mp Mq Mr Ms Mt Mu Mv Mw Mx My Mz Pa Pb Pc Pe Pf Pg Ph Pi Pj Pk Pl Pm Pn Po Pp Pq Pr Ps Pt Pu Pv Pw Px Py:Value} (hgN:W.heap.size+1≤g) (hgl:g<w1.heap.size) (hcap:L≤cap) (hcm2:cap≤9223372036854775807) (hll:L≤40001) (HLM:Hid (∀ p∈ls,p.length≤40000)) (HCELL:Hid (∀ k p,ls[k]?=some p→w1.cell? ⟨g,k,none⟩=some (.string ⟨p.toArray⟩))) (HL:Hid (ls.length=L)) (hs1:W.heap.size+1≤w1.heap.size) (HBW:Hid (Bw W w1)) (hkL:k+1≤L) (hlt:k+1<L) (hds:Hid (DSt wr w1.heap.size W.heap.size c)) (hfit:Hid (Fit 7 c k)) (hgb:Hid (w1.grownBy wr (some W.heap.size))) (hrun:Hid (runL 7 c (ls.drop k) (k+1)=RR)) (hB:∀ x,ls[k]?=some x→(x == wEnd)=false∧((cutL 32 x).getD 0 [] == Zq)=false∧docP x=none):Qj 7 s W w1 wr RR g cap L k ls KK Aa Ab Ae Af Ag Ah Ai Aj Ak Al Am An Ao Ap Aq Ar Au Av Aw Ax Ay Az Ba Bb Bc Bd Be Bf Bg Bh Bi Bj Bk Bl Bm Bn Bo Bp Bq Br Bs Bt Bu Bv Bx By Bz Ca Cb Cc Cd Ce Cf Cg Ch Ci Cj Ck Cl Cm Cn Co Cp Cq Cr Cs Ct Cu Cv Cw Cx Cy Cz Da Db Dc De Df Dg Dh Di Dj Dk Dl Dm Dn Dp Dq Dr Ds Dt Du Dv Dw Dx Dy Dz Ea Eb Ec Ed Ee Ef Eg Eh Ei Ej Ek El Em En Eo Ep Eq Er Es Et Eu Ev Ew Ex Ey Ez Ka Kb Kc Kd Ke Kf Kg Kh Ki Kj Kk Kl Km Kn Ko Kp Kq Kr Ks Kt Ku Kv Kw Kx Ky Kz La Lb Lc Ld Le Lf Lg Lh Li Lj Lk Ll Lm Ln Lo Lp Lq Lr Ls Lt Lu Lv Lw Lx Ly Lz Ma Mb Mc Md Me Mf Mg Mh Mi Mj Mk Ml Mm Mn Mo Mp Mq Mr Ms Mt Mu Mv Mw Mx My Mz Pa Pb Pc Pe Pf Pg Ph Pi Pj Pk Pl Pm Pn Po Pp Pq Pr Ps Pt Pu Pv Pw Px Py:=by
 unfold Qj
 conv=>arg 2;whnf
 have hsr:=hgb.out.size;obtain ⟨vi,vm,pm,B,hh,hR⟩:=hds.out;obtain ⟨x,hx⟩:∃ x,ls[k]?=some x:=⟨_,List.getElem?_eq_getElem (by rw [HL.out];omega)⟩;have HBX:Hid ((x == wEnd)=false∧((cutL 32 x).getD 0 [] == Zq)=false∧docP x=none):=hB x hx;have hxl:=HLM.out x (List.mem_of_getElem? hx);have gk:wr.cell? ⟨g,k,none⟩=some (.string ⟨x.toArray⟩):=(World.cell?_of_block (hgb.out.block g hgl (by intro e;cases e;omega))).trans (HCELL.out k x hx);have hglr:g<wr.heap.size:=by omega
 have hdr:ls.drop k=x::ls.drop (k+1):=by
  obtain ⟨h1,h2⟩:=List.getElem?_eq_some_iff.1 hx;rw [List.drop_eq_getElem_cons h1,h2]
 have hne:ls.drop (k+1)≠[]:=fun e=>by
  have:=congrArg List.length e;rw [List.length_drop,HL.out,List.length_nil] at this;omega
 have HSTOP:Hid (Zt 7 c x=none→RR=(none,k+1)):=fun h=>by rw [← hrun.out,hdr,Xa hne h]
 have HNEXT:Hid (∀ st' c',Zt 7 c x=some (st',c')→runL st' c' (ls.drop (k+1)) (k+1+1)=RR∧Fit st' c' (k+1)∧st'≤8):=fun st' c' h=>⟨by rw [← hrun.out,hdr,Yt hne h],Yy hfit.out hxl h,X0 h⟩;obtain ⟨X,hX⟩:∃ X:ByteArray,X=⟨x.toArray⟩:=⟨_,rfl⟩;have HXD:Hid (X.data.toList=x):=by rw [Hid,hX]
 have hXs:X.size≤40000:=by rw [hX,Zk];exact hxl
 rw [← hX] at gk;have HC2:Hid (∀ w:World,Calls Tryz.prog 45 #[.string X,.int .u8 32] w fun e w'=>∃ v,e=.returned v∧w'.ownsRow w.heap.size 9 1 v (cutL 32 x).length ((cutL 32 x).map strV)∧Bw w w'):=fun w=>by
  have:=Zh 32 X (by omega) w;rw [HXD.out] at this;exact this
 have hcl1:=Xl x;have hcl2:=Ya 32 x;have hR0:Hid _:=hR;have hh0:Hid _:=hh;have hfit0:=hfit.out;have hk4:k≤40001:=by omega
 clear hrun hX hds hdr hne hx hfit;have hkc:(k:Int)<(L:Int) - 1:=by omega
 have HST:Hid (Zt 7 c x=if x == wEnd then some (8,c) else if (cutL 32 x).getD 0 [] == Zq then (if dmB (cutL 32 x) then some (5,{ c with ms:=c.ms++[⟨⟨((cutL 32 x).getD 1 []).toArray⟩,⟨((cutL 32 x).getD 2 []).toArray⟩,flN mthP (cutL 32 x) 3,0,0,[]⟩] }) else none) else (match docP x with|some i=>some (7,{ c with ms:=Ym (fun m=>{ m with code:=m.code++[i] }) c.ms })|none=>none)):=by rw [Hid,← Xo];rfl
 obtain ⟨f0,hf0⟩:∃ f,(cutL 32 x)[0]?=some f:=⟨_,List.getElem?_eq_getElem (by omega)⟩;have hg0:(cutL 32 x).getD 0 []=f0:=by rw [List.getD_eq_getElem?_getD,hf0];rfl
 rw [hg0] at HST;have hXl:(X.toList == [101,110,100])=(x == wEnd):=by rw [Lib.toList_data,HXD.out];rfl
 obtain ⟨F0,hF0⟩:∃ b:ByteArray,b=⟨f0.toArray⟩:=⟨_,rfl⟩;have hF0l:(F0.toList == [109,101,116,104,111,100])=(f0 == Zq):=by rw [hF0,Lib.toList_data];rfl
 rw [hg0] at HBX;clear hg0
 cases hqe:(x == wEnd) with
 | true=>exact absurd HBX.out.1 (by rw [hqe];decide)
 | false =>
   rw [hqe] at hXl
   cases hqm:(f0 == Zq) with
   | true=>exact absurd HBX.out.2.1 (by rw [hqm];decide)
   | false =>
     rw [hqm] at hF0l;have HST3:Hid (Zt 7 c x=(match docP x with|some i=>some (7,{ c with ms:=Ym (fun m=>{ m with code:=m.code++[i] }) c.ms })|none=>none)):=by rw [Hid,HST.out,hqe,hqm];rfl
     clear HST hqe hqm;have hmne:=hfit0.st (by omega) (by omega);obtain ⟨ml,mm,mv,mg,mcap,mcur,rfl,rfl,hmN,hgh,hms,hxx⟩:=hR0.out.ends hmne;have hxc:=hxx 5 (by omega);simp only [mthC,List.getElem?_cons_zero,List.getElem?_cons_succ] at hxc;have hmlt:mg<wr.heap.size:=(Array.getElem?_eq_some_iff.1 hgh).1;have hmll:ml.length≤100000:=by have h8:=hR0.out.len;have h9:=hfit0.ms;rw [List.length_append,List.length_singleton] at h8;omega
     have hcl:mm.code.length≤50000:=Nat.le_trans (hfit0.code mm (by rw [hms];simp)) (by omega);have hmgb:¬ mg=W.heap.size:=fun e=>by have h9:=hgh;rw [e,hh] at h9;simp at h9
     have hmgb2:¬ W.heap.size=mg:=fun e=>hmgb e.symm;have hvl:wr.ownsRow B 73 7 mv mm.code.length (Xy mm.code):=hR0.out.last (mm,mv) (by simp);obtain ⟨va,vcap,rfl⟩:=Xc hvl;clear hvl;have HPX:Hid (∀ w:World,Calls Tryz.prog 49 #[.string X] w fun e w'=>e=.returned (outI (docP x))∧Bw w w'):=fun w=>by
      have h9:=Zdd X (by omega) w;rw [HXD.out] at h9;exact h9
     obtain ⟨i0,hi73,hz0,hz1,hz2⟩:=info_parts Tryz.info73;have kk:((ml.length+1:Nat):Int) - 1=ml.length:=by omega
     have kk2:(ml.length:Int)<((ml.length+1:Nat):Int):=by omega
     have kk3:(ml.length:Int)<(ml.length:Int)+1:=by omega
     have kk4:¬ (ml.length:Int)<0:=by omega
     have kk5:(0:Int)≤(ml.length:Int):=by omega
     clear hms hxx hh;obtain ⟨⟨io,iN,it,ib,ic,im,id⟩,hid⟩:∃ i:Ins,i=(docP x).getD Zic:=⟨_,rfl⟩
     cases hdp:docP x with
     | none =>
       rw [hdp] at hid HST3 HPX;have HE:Hid (RR=(none,k+1)):=HSTOP.out HST3.out;clear hid;simp only [outI,insV,insC,Zic] at HPX;go_wp2_with (first
        | (go_at_call 45;refine (HC2.out _).mono ?_;rintro e w2 ⟨vl,rfl,hown2,hb2⟩;have HIS:Hid (IsStrs w2 vl (cutL 32 x)):=Zy hown2;obtain ⟨gl2,capl,rfl,_,hgl3,_,_,hcl3⟩:=Zr hown2 (Z1 32 x);have h2:=(hb2.block W.heap.size (by omega)).trans hh0.out;have R2:Hid _:=hR0.out.below hb2;have G2:Hid (w1.grownBy w2 (some W.heap.size)):=Zn hgb.out hb2;have H2:Hid _:=h2;have hs2:=hb2.size;have c0:=cell_of_row w2 W.heap.size 0 _ _ _ h2;have y0:=frozen_of_row w2 W.heap.size 0 _ _ h2;have c1:=cell_of_row w2 W.heap.size 1 _ _ _ h2;have y1:=frozen_of_row w2 W.heap.size 1 _ _ h2;have c2:=cell_of_row w2 W.heap.size 2 _ _ _ h2;have y2:=frozen_of_row w2 W.heap.size 2 _ _ h2;have c3:=cell_of_row w2 W.heap.size 3 _ _ _ h2;have y3:=frozen_of_row w2 W.heap.size 3 _ _ h2;have c4:=cell_of_row w2 W.heap.size 4 _ _ _ h2;have y4:=frozen_of_row w2 W.heap.size 4 _ _ h2;have c5:=cell_of_row w2 W.heap.size 5 _ _ _ h2;have y5:=frozen_of_row w2 W.heap.size 5 _ _ h2;simp only [List.getElem?_toArray,List.getElem?_cons_zero,List.getElem?_cons_succ] at c0 c1 c2 c3 c4 c5;have x0:=hcl3 0 f0 hf0;rw [← hF0] at x0;clear hF0;have hb2m:Hid (w2.heap[mg]?=wr.heap[mg]?):=hb2.block mg hmlt;have gk2:=(hb2.cell (p:=⟨g,k,none⟩) hglr).trans gk;have hglr2:g<w2.heap.size:=Nat.lt_of_lt_of_le hglr hb2.size;clear hown2 hb2 hh0 hR0 hgb HC2 h2 hcl3)
        | (go_at_call 49;refine (HPX.out _).mono ?_;rintro e w3 ⟨rfl,hb3⟩;have h3:=(hb3.block W.heap.size (by omega)).trans H2.out;have R3:Hid _:=R2.out.below hb3;have G3:Hid (w1.grownBy w3 (some W.heap.size)):=Zn G2.out hb3;have H3:Hid _:=h3;have hs3:=hb3.size;have hgh3:=(hb3.block mg (by omega)).trans ((hb2m.out).trans hgh);have HGH3:Hid _:=hgh3;have xc:=cell_of_row w3 mg (ml.length * 6+5) _ _ _ hgh3;rw [← cell_of_row wr mg (ml.length * 6+5) _ _ _ hgh,hxc] at xc;have hmlt3:mg<w3.heap.size:=(by omega);have hWb3:W.heap.size<w3.heap.size:=(by omega);clear c0 c1 c2 c3 c4 c5 y0 y1 y2 y3 y4 y5;have c0:=cell_of_row w3 W.heap.size 0 _ _ _ h3;have y0:=frozen_of_row w3 W.heap.size 0 _ _ h3;have c1:=cell_of_row w3 W.heap.size 1 _ _ _ h3;have y1:=frozen_of_row w3 W.heap.size 1 _ _ h3;have c2:=cell_of_row w3 W.heap.size 2 _ _ _ h3;have y2:=frozen_of_row w3 W.heap.size 2 _ _ h3;have c3:=cell_of_row w3 W.heap.size 3 _ _ _ h3;have y3:=frozen_of_row w3 W.heap.size 3 _ _ h3;have c4:=cell_of_row w3 W.heap.size 4 _ _ _ h3;have y4:=frozen_of_row w3 W.heap.size 4 _ _ h3;have c5:=cell_of_row w3 W.heap.size 5 _ _ _ h3;have y5:=frozen_of_row w3 W.heap.size 5 _ _ h3;simp only [List.getElem?_toArray,List.getElem?_cons_zero,List.getElem?_cons_succ] at c0 c1 c2 c3 c4 c5;clear hb3 h3 HPX hgh3))
       clear HST3 HSTOP HNEXT;have hmg3:¬ w3.heap.size=mg:=by omega
       have hmg4:¬ mg=w3.heap.size:=by omega
       refine wp_mono (r46 H3 HGH3 R3 G3 xc hmN hmgb2 hmll hcl) ?_;intro ex a' wx hP
       cases ex
       all_goals try exact False.elim hP
       obtain ⟨⟨v168,v169,v170,v171,v172,v173,v174,v175,v176,v177,v178,v179,v180,v181,rfl⟩,hD,hG⟩:=hP;obtain ⟨vi9,vm9,pm9,B9,hh9,hr9⟩:=hD;clear c0 c1 c2 c3 c4 c5 y0 y1 y2 y3 y4 y5;have c0:=cell_of_row wx W.heap.size 0 _ _ _ hh9;have y0:=frozen_of_row wx W.heap.size 0 _ _ hh9;have c1:=cell_of_row wx W.heap.size 1 _ _ _ hh9;have y1:=frozen_of_row wx W.heap.size 1 _ _ hh9;have c2:=cell_of_row wx W.heap.size 2 _ _ _ hh9;have y2:=frozen_of_row wx W.heap.size 2 _ _ hh9;have c3:=cell_of_row wx W.heap.size 3 _ _ _ hh9;have y3:=frozen_of_row wx W.heap.size 3 _ _ hh9;have c4:=cell_of_row wx W.heap.size 4 _ _ _ hh9;have y4:=frozen_of_row wx W.heap.size 4 _ _ hh9;have c5:=cell_of_row wx W.heap.size 5 _ _ _ hh9;have y5:=frozen_of_row wx W.heap.size 5 _ _ hh9;simp only [List.getElem?_toArray,List.getElem?_cons_zero,List.getElem?_cons_succ] at c0 c1 c2 c3 c4 c5;have G9:Hid (w1.grownBy wx (some W.heap.size)):=hG;clear hG hh9 hr9;go_wp2;exact bodyPost_ret (v:=.tuple #[.agg #[.string ⟨#[]⟩,.string ⟨#[]⟩,.slice none 0 0,.int .i64 0,.int .i64 0,.slice none 0 0],.int .i64 ((k:Int)+1),.int .i64 4]) (by simp [results,Tryz.results17,go_sem, *]) rfl (Zu (Yf (Zm (gb_W HBW.out G9.out (Nat.le_refl _)) (.string ⟨#[]⟩) (.string ⟨#[]⟩) (.slice none 0 0) (.int .i64 0) (.int .i64 0) (.slice none 0 0))) (by rw [HE.out];rfl))
     | some i=>exact absurd HBX.out.2.2 (by rw [hdp];simp)
set_option linter.unusedVariables false in
theorem dst_7c {s:ByteArray} {W w1 wr:World} {RR:Option Cls×Nat} {g cap L k:Nat} {ls:List (List UInt8)} {c:Cls} {KK:Act→World→Prop} {Aa Ab Ae Af Ag Ah Ai Aj Ak Al Am An Ao Ap Aq Ar Au Av Aw Ax Ay Az Ba Bb Bc Bd Be Bf Bg Bh Bi Bj Bk Bl Bm Bn Bo Bp Bq Br Bs Bt Bu Bv Bx By Bz Ca Cb Cc Cd Ce Cf Cg Ch Ci Cj Ck Cl Cm Cn Co Cp Cq Cr Cs Ct Cu Cv Cw Cx Cy Cz Da Db Dc De Df Dg Dh Di Dj Dk Dl Dm Dn Dp Dq Dr Ds Dt Du Dv Dw Dx Dy Dz Ea Eb Ec Ed Ee Ef Eg Eh Ei Ej Ek El Em En Eo Ep Eq Er Es Et Eu Ev Ew Ex Ey Ez Ka Kb Kc Kd Ke Kf Kg Kh Ki Kj Kk Kl Km Kn Ko Kp Kq Kr Ks Kt Ku Kv Kw Kx Ky Kz La Lb Lc Ld Le Lf Lg Lh Li Lj Lk Ll Lm Ln Lo Lp Lq Lr Ls Lt Lu Lv Lw Lx Ly Lz Ma Mb Mc Md Me Mf Mg Mh Mi Mj Mk Ml Mm Mn Mo Mp Mq Mr Ms Mt Mu Mv Mw Mx My Mz Pa Pb Pc Pe Pf Pg Ph Pi Pj Pk Pl Pm Pn Po Pp Pq Pr Ps Pt Pu Pv Pw Px Py:Value} (hgN:W.heap.size+1≤g) (hgl:g<w1.heap.size) (hcap:L≤cap) (hcm2:cap≤9223372036854775807) (hll:L≤40001) (HLM:Hid (∀ p∈ls,p.length≤40000)) (HCELL:Hid (∀ k p,ls[k]?=some p→w1.cell? ⟨g,k,none⟩=some (.string ⟨p.toArray⟩))) (HL:Hid (ls.length=L)) (hs1:W.heap.size+1≤w1.heap.size) (HBW:Hid (Bw W w1)) (hkL:k+1≤L) (hlt:k+1<L) (hds:Hid (DSt wr w1.heap.size W.heap.size c)) (hfit:Hid (Fit 7 c k)) (hgb:Hid (w1.grownBy wr (some W.heap.size))) (hrun:Hid (runL 7 c (ls.drop k) (k+1)=RR)) (hB:∀ x,ls[k]?=some x→(x == wEnd)=false∧((cutL 32 x).getD 0 [] == Zq)=false∧¬ docP x=none):Qj 7 s W w1 wr RR g cap L k ls KK Aa Ab Ae Af Ag Ah Ai Aj Ak Al Am An Ao Ap Aq Ar Au Av Aw Ax Ay Az Ba Bb Bc Bd Be Bf Bg Bh Bi Bj Bk Bl Bm Bn Bo Bp Bq Br Bs Bt Bu Bv Bx By Bz Ca Cb Cc Cd Ce Cf Cg Ch Ci Cj Ck Cl Cm Cn Co Cp Cq Cr Cs Ct Cu Cv Cw Cx Cy Cz Da Db Dc De Df Dg Dh Di Dj Dk Dl Dm Dn Dp Dq Dr Ds Dt Du Dv Dw Dx Dy Dz Ea Eb Ec Ed Ee Ef Eg Eh Ei Ej Ek El Em En Eo Ep Eq Er Es Et Eu Ev Ew Ex Ey Ez Ka Kb Kc Kd Ke Kf Kg Kh Ki Kj Kk Kl Km Kn Ko Kp Kq Kr Ks Kt Ku Kv Kw Kx Ky Kz La Lb Lc Ld Le Lf Lg Lh Li Lj Lk Ll Lm Ln Lo Lp Lq Lr Ls Lt Lu Lv Lw Lx Ly Lz Ma Mb Mc Md Me Mf Mg Mh Mi Mj Mk Ml Mm Mn Mo Mp Mq Mr Ms Mt Mu Mv Mw Mx My Mz Pa Pb Pc Pe Pf Pg Ph Pi Pj Pk Pl Pm Pn Po Pp Pq Pr Ps Pt Pu Pv Pw Px Py:=by
 unfold Qj
 conv=>arg 2;whnf
 have hsr:=hgb.out.size;obtain ⟨vi,vm,pm,B,hh,hR⟩:=hds.out;obtain ⟨x,hx⟩:∃ x,ls[k]?=some x:=⟨_,List.getElem?_eq_getElem (by rw [HL.out];omega)⟩;have HBX:Hid ((x == wEnd)=false∧((cutL 32 x).getD 0 [] == Zq)=false∧¬ docP x=none):=hB x hx;have hxl:=HLM.out x (List.mem_of_getElem? hx);have gk:wr.cell? ⟨g,k,none⟩=some (.string ⟨x.toArray⟩):=(World.cell?_of_block (hgb.out.block g hgl (by intro e;cases e;omega))).trans (HCELL.out k x hx);have hglr:g<wr.heap.size:=by omega
 have hdr:ls.drop k=x::ls.drop (k+1):=by
  obtain ⟨h1,h2⟩:=List.getElem?_eq_some_iff.1 hx;rw [List.drop_eq_getElem_cons h1,h2]
 have hne:ls.drop (k+1)≠[]:=fun e=>by
  have:=congrArg List.length e;rw [List.length_drop,HL.out,List.length_nil] at this;omega
 have HSTOP:Hid (Zt 7 c x=none→RR=(none,k+1)):=fun h=>by rw [← hrun.out,hdr,Xa hne h]
 have HNEXT:Hid (∀ st' c',Zt 7 c x=some (st',c')→runL st' c' (ls.drop (k+1)) (k+1+1)=RR∧Fit st' c' (k+1)∧st'≤8):=fun st' c' h=>⟨by rw [← hrun.out,hdr,Yt hne h],Yy hfit.out hxl h,X0 h⟩;obtain ⟨X,hX⟩:∃ X:ByteArray,X=⟨x.toArray⟩:=⟨_,rfl⟩;have HXD:Hid (X.data.toList=x):=by rw [Hid,hX]
 have hXs:X.size≤40000:=by rw [hX,Zk];exact hxl
 rw [← hX] at gk;have HC2:Hid (∀ w:World,Calls Tryz.prog 45 #[.string X,.int .u8 32] w fun e w'=>∃ v,e=.returned v∧w'.ownsRow w.heap.size 9 1 v (cutL 32 x).length ((cutL 32 x).map strV)∧Bw w w'):=fun w=>by
  have:=Zh 32 X (by omega) w;rw [HXD.out] at this;exact this
 have hcl1:=Xl x;have hcl2:=Ya 32 x;have hR0:Hid _:=hR;have hh0:Hid _:=hh;have hfit0:=hfit.out;have hk4:k≤40001:=by omega
 clear hrun hX hds hdr hne hx hfit;have hkc:(k:Int)<(L:Int) - 1:=by omega
 have HST:Hid (Zt 7 c x=if x == wEnd then some (8,c) else if (cutL 32 x).getD 0 [] == Zq then (if dmB (cutL 32 x) then some (5,{ c with ms:=c.ms++[⟨⟨((cutL 32 x).getD 1 []).toArray⟩,⟨((cutL 32 x).getD 2 []).toArray⟩,flN mthP (cutL 32 x) 3,0,0,[]⟩] }) else none) else (match docP x with|some i=>some (7,{ c with ms:=Ym (fun m=>{ m with code:=m.code++[i] }) c.ms })|none=>none)):=by rw [Hid,← Xo];rfl
 obtain ⟨f0,hf0⟩:∃ f,(cutL 32 x)[0]?=some f:=⟨_,List.getElem?_eq_getElem (by omega)⟩;have hg0:(cutL 32 x).getD 0 []=f0:=by rw [List.getD_eq_getElem?_getD,hf0];rfl
 rw [hg0] at HST;have hXl:(X.toList == [101,110,100])=(x == wEnd):=by rw [Lib.toList_data,HXD.out];rfl
 obtain ⟨F0,hF0⟩:∃ b:ByteArray,b=⟨f0.toArray⟩:=⟨_,rfl⟩;have hF0l:(F0.toList == [109,101,116,104,111,100])=(f0 == Zq):=by rw [hF0,Lib.toList_data];rfl
 rw [hg0] at HBX;clear hg0
 cases hqe:(x == wEnd) with
 | true=>exact absurd HBX.out.1 (by rw [hqe];decide)
 | false =>
   rw [hqe] at hXl
   cases hqm:(f0 == Zq) with
   | true=>exact absurd HBX.out.2.1 (by rw [hqm];decide)
   | false =>
     rw [hqm] at hF0l;have HST3:Hid (Zt 7 c x=(match docP x with|some i=>some (7,{ c with ms:=Ym (fun m=>{ m with code:=m.code++[i] }) c.ms })|none=>none)):=by rw [Hid,HST.out,hqe,hqm];rfl
     clear HST hqe hqm;have hmne:=hfit0.st (by omega) (by omega);obtain ⟨ml,mm,mv,mg,mcap,mcur,rfl,rfl,hmN,hgh,hms,hxx⟩:=hR0.out.ends hmne;have hxc:=hxx 5 (by omega);simp only [mthC,List.getElem?_cons_zero,List.getElem?_cons_succ] at hxc;have hmlt:mg<wr.heap.size:=(Array.getElem?_eq_some_iff.1 hgh).1;have hmll:ml.length≤100000:=by have h8:=hR0.out.len;have h9:=hfit0.ms;rw [List.length_append,List.length_singleton] at h8;omega
     have hcl:mm.code.length≤50000:=Nat.le_trans (hfit0.code mm (by rw [hms];simp)) (by omega);have hmgb:¬ mg=W.heap.size:=fun e=>by have h9:=hgh;rw [e,hh] at h9;simp at h9
     have hmgb2:¬ W.heap.size=mg:=fun e=>hmgb e.symm;have hvl:wr.ownsRow B 73 7 mv mm.code.length (Xy mm.code):=hR0.out.last (mm,mv) (by simp);obtain ⟨va,vcap,rfl⟩:=Xc hvl;clear hvl;have HPX:Hid (∀ w:World,Calls Tryz.prog 49 #[.string X] w fun e w'=>e=.returned (outI (docP x))∧Bw w w'):=fun w=>by
      have h9:=Zdd X (by omega) w;rw [HXD.out] at h9;exact h9
     obtain ⟨i0,hi73,hz0,hz1,hz2⟩:=info_parts Tryz.info73;have kk:((ml.length+1:Nat):Int) - 1=ml.length:=by omega
     have kk2:(ml.length:Int)<((ml.length+1:Nat):Int):=by omega
     have kk3:(ml.length:Int)<(ml.length:Int)+1:=by omega
     have kk4:¬ (ml.length:Int)<0:=by omega
     have kk5:(0:Int)≤(ml.length:Int):=by omega
     clear hms hxx hh;obtain ⟨⟨io,iN,it,ib,ic,im,id⟩,hid⟩:∃ i:Ins,i=(docP x).getD Zic:=⟨_,rfl⟩
     cases hdp:docP x with
     | none=>exact absurd hdp HBX.out.2.2
     | some i =>
       rw [hdp] at hid HST3 HPX;simp only [Option.getD_some] at hid;subst hid;simp only [outI,insV,insC] at HPX;go_wp2_with (first
        | (go_at_call 45;refine (HC2.out _).mono ?_;rintro e w2 ⟨vl,rfl,hown2,hb2⟩;have HIS:Hid (IsStrs w2 vl (cutL 32 x)):=Zy hown2;obtain ⟨gl2,capl,rfl,_,hgl3,_,_,hcl3⟩:=Zr hown2 (Z1 32 x);have h2:=(hb2.block W.heap.size (by omega)).trans hh0.out;have R2:Hid _:=hR0.out.below hb2;have G2:Hid (w1.grownBy w2 (some W.heap.size)):=Zn hgb.out hb2;have H2:Hid _:=h2;have hs2:=hb2.size;have c0:=cell_of_row w2 W.heap.size 0 _ _ _ h2;have y0:=frozen_of_row w2 W.heap.size 0 _ _ h2;have c1:=cell_of_row w2 W.heap.size 1 _ _ _ h2;have y1:=frozen_of_row w2 W.heap.size 1 _ _ h2;have c2:=cell_of_row w2 W.heap.size 2 _ _ _ h2;have y2:=frozen_of_row w2 W.heap.size 2 _ _ h2;have c3:=cell_of_row w2 W.heap.size 3 _ _ _ h2;have y3:=frozen_of_row w2 W.heap.size 3 _ _ h2;have c4:=cell_of_row w2 W.heap.size 4 _ _ _ h2;have y4:=frozen_of_row w2 W.heap.size 4 _ _ h2;have c5:=cell_of_row w2 W.heap.size 5 _ _ _ h2;have y5:=frozen_of_row w2 W.heap.size 5 _ _ h2;simp only [List.getElem?_toArray,List.getElem?_cons_zero,List.getElem?_cons_succ] at c0 c1 c2 c3 c4 c5;have x0:=hcl3 0 f0 hf0;rw [← hF0] at x0;clear hF0;have hb2m:Hid (w2.heap[mg]?=wr.heap[mg]?):=hb2.block mg hmlt;have gk2:=(hb2.cell (p:=⟨g,k,none⟩) hglr).trans gk;have hglr2:g<w2.heap.size:=Nat.lt_of_lt_of_le hglr hb2.size;clear hown2 hb2 hh0 hR0 hgb HC2 h2 hcl3)
        | (go_at_call 49;refine (HPX.out _).mono ?_;rintro e w3 ⟨rfl,hb3⟩;have h3:=(hb3.block W.heap.size (by omega)).trans H2.out;have R3:Hid _:=R2.out.below hb3;have G3:Hid (w1.grownBy w3 (some W.heap.size)):=Zn G2.out hb3;have H3:Hid _:=h3;have hs3:=hb3.size;have hgh3:=(hb3.block mg (by omega)).trans ((hb2m.out).trans hgh);have HGH3:Hid _:=hgh3;have xc:=cell_of_row w3 mg (ml.length * 6+5) _ _ _ hgh3;rw [← cell_of_row wr mg (ml.length * 6+5) _ _ _ hgh,hxc] at xc;have hmlt3:mg<w3.heap.size:=(by omega);have hWb3:W.heap.size<w3.heap.size:=(by omega);clear c0 c1 c2 c3 c4 c5 y0 y1 y2 y3 y4 y5;have c0:=cell_of_row w3 W.heap.size 0 _ _ _ h3;have y0:=frozen_of_row w3 W.heap.size 0 _ _ h3;have c1:=cell_of_row w3 W.heap.size 1 _ _ _ h3;have y1:=frozen_of_row w3 W.heap.size 1 _ _ h3;have c2:=cell_of_row w3 W.heap.size 2 _ _ _ h3;have y2:=frozen_of_row w3 W.heap.size 2 _ _ h3;have c3:=cell_of_row w3 W.heap.size 3 _ _ _ h3;have y3:=frozen_of_row w3 W.heap.size 3 _ _ h3;have c4:=cell_of_row w3 W.heap.size 4 _ _ _ h3;have y4:=frozen_of_row w3 W.heap.size 4 _ _ h3;have c5:=cell_of_row w3 W.heap.size 5 _ _ _ h3;have y5:=frozen_of_row w3 W.heap.size 5 _ _ h3;simp only [List.getElem?_toArray,List.getElem?_cons_zero,List.getElem?_cons_succ] at c0 c1 c2 c3 c4 c5;clear hb3 h3 HPX hgh3))
       obtain ⟨n1,n2,n3⟩:=HNEXT.out 7 _ HST3.out;have HN1:Hid _:=n1;have HN2:Hid (Fit 7 _ (k+1)):=n2;clear HST3 HSTOP HNEXT n1 n2;have hmg3:¬ w3.heap.size=mg:=by omega
       have hmg4:¬ mg=w3.heap.size:=by omega
       refine wp_mono (r46 H3 HGH3 R3 G3 xc hmN hmgb2 hmll hcl) ?_;intro ex a' wx hP
       cases ex
       all_goals try exact False.elim hP
       obtain ⟨⟨v168,v169,v170,v171,v172,v173,v174,v175,v176,v177,v178,v179,v180,v181,rfl⟩,hD,hG⟩:=hP;have HD9:Hid (DSt wx w1.heap.size W.heap.size { c with ms:=Ym (fun m=>{ m with code:=m.code++[⟨io,iN,it,ib,ic,im,id⟩] }) c.ms }):=hD;have G9:Hid (w1.grownBy wx (some W.heap.size)):=hG;clear hD hG;go_wp2;go_roundw
       case rel=>exact ⟨k+1,7,{ c with ms:=Ym (fun m=>{ m with code:=m.code++[⟨io,iN,it,ib,ic,im,id⟩] }) c.ms },by go_num,rfl,by omega,n3,HD9,HN2,G9,HN1⟩
       case measure=>simp [intOf];omega
set_option linter.unusedVariables false in
theorem dst_7 {s:ByteArray} {W w1 wr:World} {RR:Option Cls×Nat} {g cap L k:Nat} {ls:List (List UInt8)} {c:Cls} {KK:Act→World→Prop} {Aa Ab Ae Af Ag Ah Ai Aj Ak Al Am An Ao Ap Aq Ar Au Av Aw Ax Ay Az Ba Bb Bc Bd Be Bf Bg Bh Bi Bj Bk Bl Bm Bn Bo Bp Bq Br Bs Bt Bu Bv Bx By Bz Ca Cb Cc Cd Ce Cf Cg Ch Ci Cj Ck Cl Cm Cn Co Cp Cq Cr Cs Ct Cu Cv Cw Cx Cy Cz Da Db Dc De Df Dg Dh Di Dj Dk Dl Dm Dn Dp Dq Dr Ds Dt Du Dv Dw Dx Dy Dz Ea Eb Ec Ed Ee Ef Eg Eh Ei Ej Ek El Em En Eo Ep Eq Er Es Et Eu Ev Ew Ex Ey Ez Ka Kb Kc Kd Ke Kf Kg Kh Ki Kj Kk Kl Km Kn Ko Kp Kq Kr Ks Kt Ku Kv Kw Kx Ky Kz La Lb Lc Ld Le Lf Lg Lh Li Lj Lk Ll Lm Ln Lo Lp Lq Lr Ls Lt Lu Lv Lw Lx Ly Lz Ma Mb Mc Md Me Mf Mg Mh Mi Mj Mk Ml Mm Mn Mo Mp Mq Mr Ms Mt Mu Mv Mw Mx My Mz Pa Pb Pc Pe Pf Pg Ph Pi Pj Pk Pl Pm Pn Po Pp Pq Pr Ps Pt Pu Pv Pw Px Py:Value} (hgN:W.heap.size+1≤g) (hgl:g<w1.heap.size) (hcap:L≤cap) (hcm2:cap≤9223372036854775807) (hll:L≤40001) (HLM:Hid (∀ p∈ls,p.length≤40000)) (HCELL:Hid (∀ k p,ls[k]?=some p→w1.cell? ⟨g,k,none⟩=some (.string ⟨p.toArray⟩))) (HL:Hid (ls.length=L)) (hs1:W.heap.size+1≤w1.heap.size) (HBW:Hid (Bw W w1)) (hkL:k+1≤L) (hlt:k+1<L) (hds:Hid (DSt wr w1.heap.size W.heap.size c)) (hfit:Hid (Fit 7 c k)) (hgb:Hid (w1.grownBy wr (some W.heap.size))) (hrun:Hid (runL 7 c (ls.drop k) (k+1)=RR)):Qj 7 s W w1 wr RR g cap L k ls KK Aa Ab Ae Af Ag Ah Ai Aj Ak Al Am An Ao Ap Aq Ar Au Av Aw Ax Ay Az Ba Bb Bc Bd Be Bf Bg Bh Bi Bj Bk Bl Bm Bn Bo Bp Bq Br Bs Bt Bu Bv Bx By Bz Ca Cb Cc Cd Ce Cf Cg Ch Ci Cj Ck Cl Cm Cn Co Cp Cq Cr Cs Ct Cu Cv Cw Cx Cy Cz Da Db Dc De Df Dg Dh Di Dj Dk Dl Dm Dn Dp Dq Dr Ds Dt Du Dv Dw Dx Dy Dz Ea Eb Ec Ed Ee Ef Eg Eh Ei Ej Ek El Em En Eo Ep Eq Er Es Et Eu Ev Ew Ex Ey Ez Ka Kb Kc Kd Ke Kf Kg Kh Ki Kj Kk Kl Km Kn Ko Kp Kq Kr Ks Kt Ku Kv Kw Kx Ky Kz La Lb Lc Ld Le Lf Lg Lh Li Lj Lk Ll Lm Ln Lo Lp Lq Lr Ls Lt Lu Lv Lw Lx Ly Lz Ma Mb Mc Md Me Mf Mg Mh Mi Mj Mk Ml Mm Mn Mo Mp Mq Mr Ms Mt Mu Mv Mw Mx My Mz Pa Pb Pc Pe Pf Pg Ph Pi Pj Pk Pl Pm Pn Po Pp Pq Pr Ps Pt Pu Pv Pw Px Py:=by
 obtain ⟨x,hx⟩:∃ x,ls[k]?=some x:=⟨_,List.getElem?_eq_getElem (by rw [HL.out];omega)⟩;have hu:∀ y,ls[k]?=some y→y=x:=fun y hy=>Option.some.inj (hy.symm.trans hx);by_cases h1:(x == wEnd)=true∨((cutL 32 x).getD 0 [] == Zq)=true
 ·exact dst_7a hgN hgl hcap hcm2 hll HLM HCELL HL hs1 HBW hkL hlt hds hfit hgb hrun (fun y hy=>by rw [hu y hy];exact h1)
 ·have ha:(x == wEnd)=false:=by cases h:(x == wEnd) with|false=>rfl|true=>exact absurd (.inl h) h1
  have hb:((cutL 32 x).getD 0 [] == Zq)=false:=by cases h:((cutL 32 x).getD 0 [] == Zq) with|false=>rfl|true=>exact absurd (.inr h) h1
  by_cases h2:docP x=none
  ·exact dst_7b hgN hgl hcap hcm2 hll HLM HCELL HL hs1 HBW hkL hlt hds hfit hgb hrun (fun y hy=>by rw [hu y hy];exact ⟨ha,hb,h2⟩)
  ·exact dst_7c hgN hgl hcap hcm2 hll HLM HCELL HL hs1 HBW hkL hlt hds hfit hgb hrun (fun y hy=>by rw [hu y hy];exact ⟨ha,hb,h2⟩)
set_option linter.unusedVariables false in
theorem dst_8 {s:ByteArray} {W w1 wr:World} {RR:Option Cls×Nat} {g cap L k:Nat} {ls:List (List UInt8)} {c:Cls} {KK:Act→World→Prop} {Aa Ab Ae Af Ag Ah Ai Aj Ak Al Am An Ao Ap Aq Ar Au Av Aw Ax Ay Az Ba Bb Bc Bd Be Bf Bg Bh Bi Bj Bk Bl Bm Bn Bo Bp Bq Br Bs Bt Bu Bv Bx By Bz Ca Cb Cc Cd Ce Cf Cg Ch Ci Cj Ck Cl Cm Cn Co Cp Cq Cr Cs Ct Cu Cv Cw Cx Cy Cz Da Db Dc De Df Dg Dh Di Dj Dk Dl Dm Dn Dp Dq Dr Ds Dt Du Dv Dw Dx Dy Dz Ea Eb Ec Ed Ee Ef Eg Eh Ei Ej Ek El Em En Eo Ep Eq Er Es Et Eu Ev Ew Ex Ey Ez Ka Kb Kc Kd Ke Kf Kg Kh Ki Kj Kk Kl Km Kn Ko Kp Kq Kr Ks Kt Ku Kv Kw Kx Ky Kz La Lb Lc Ld Le Lf Lg Lh Li Lj Lk Ll Lm Ln Lo Lp Lq Lr Ls Lt Lu Lv Lw Lx Ly Lz Ma Mb Mc Md Me Mf Mg Mh Mi Mj Mk Ml Mm Mn Mo Mp Mq Mr Ms Mt Mu Mv Mw Mx My Mz Pa Pb Pc Pe Pf Pg Ph Pi Pj Pk Pl Pm Pn Po Pp Pq Pr Ps Pt Pu Pv Pw Px Py:Value} (hgN:W.heap.size+1≤g) (hgl:g<w1.heap.size) (hcap:L≤cap) (hcm2:cap≤9223372036854775807) (hll:L≤40001) (HLM:Hid (∀ p∈ls,p.length≤40000)) (HCELL:Hid (∀ k p,ls[k]?=some p→w1.cell? ⟨g,k,none⟩=some (.string ⟨p.toArray⟩))) (HL:Hid (ls.length=L)) (hs1:W.heap.size+1≤w1.heap.size) (HBW:Hid (Bw W w1)) (hkL:k+1≤L) (hlt:k+1<L) (hds:Hid (DSt wr w1.heap.size W.heap.size c)) (hfit:Hid (Fit 8 c k)) (hgb:Hid (w1.grownBy wr (some W.heap.size))) (hrun:Hid (runL 8 c (ls.drop k) (k+1)=RR)):Qj 8 s W w1 wr RR g cap L k ls KK Aa Ab Ae Af Ag Ah Ai Aj Ak Al Am An Ao Ap Aq Ar Au Av Aw Ax Ay Az Ba Bb Bc Bd Be Bf Bg Bh Bi Bj Bk Bl Bm Bn Bo Bp Bq Br Bs Bt Bu Bv Bx By Bz Ca Cb Cc Cd Ce Cf Cg Ch Ci Cj Ck Cl Cm Cn Co Cp Cq Cr Cs Ct Cu Cv Cw Cx Cy Cz Da Db Dc De Df Dg Dh Di Dj Dk Dl Dm Dn Dp Dq Dr Ds Dt Du Dv Dw Dx Dy Dz Ea Eb Ec Ed Ee Ef Eg Eh Ei Ej Ek El Em En Eo Ep Eq Er Es Et Eu Ev Ew Ex Ey Ez Ka Kb Kc Kd Ke Kf Kg Kh Ki Kj Kk Kl Km Kn Ko Kp Kq Kr Ks Kt Ku Kv Kw Kx Ky Kz La Lb Lc Ld Le Lf Lg Lh Li Lj Lk Ll Lm Ln Lo Lp Lq Lr Ls Lt Lu Lv Lw Lx Ly Lz Ma Mb Mc Md Me Mf Mg Mh Mi Mj Mk Ml Mm Mn Mo Mp Mq Mr Ms Mt Mu Mv Mw Mx My Mz Pa Pb Pc Pe Pf Pg Ph Pi Pj Pk Pl Pm Pn Po Pp Pq Pr Ps Pt Pu Pv Pw Px Py:=by
 unfold Qj
 conv=>arg 2;whnf
 have hsr:=hgb.out.size;obtain ⟨vi,vm,pm,B,hh,hR⟩:=hds.out;obtain ⟨x,hx⟩:∃ x,ls[k]?=some x:=⟨_,List.getElem?_eq_getElem (by rw [HL.out];omega)⟩;have hxl:=HLM.out x (List.mem_of_getElem? hx);have gk:wr.cell? ⟨g,k,none⟩=some (.string ⟨x.toArray⟩):=(World.cell?_of_block (hgb.out.block g hgl (by intro e;cases e;omega))).trans (HCELL.out k x hx);have hglr:g<wr.heap.size:=by omega
 have hdr:ls.drop k=x::ls.drop (k+1):=by
  obtain ⟨h1,h2⟩:=List.getElem?_eq_some_iff.1 hx;rw [List.drop_eq_getElem_cons h1,h2]
 have hne:ls.drop (k+1)≠[]:=fun e=>by
  have:=congrArg List.length e;rw [List.length_drop,HL.out,List.length_nil] at this;omega
 have HSTOP:Hid (Zt 8 c x=none→RR=(none,k+1)):=fun h=>by rw [← hrun.out,hdr,Xa hne h]
 have HNEXT:Hid (∀ st' c',Zt 8 c x=some (st',c')→runL st' c' (ls.drop (k+1)) (k+1+1)=RR∧Fit st' c' (k+1)∧st'≤8):=fun st' c' h=>⟨by rw [← hrun.out,hdr,Yt hne h],Yy hfit.out hxl h,X0 h⟩;obtain ⟨X,hX⟩:∃ X:ByteArray,X=⟨x.toArray⟩:=⟨_,rfl⟩;have HXD:Hid (X.data.toList=x):=by rw [Hid,hX]
 have hXs:X.size≤40000:=by rw [hX,Zk];exact hxl
 rw [← hX] at gk;have HC2:Hid (∀ w:World,Calls Tryz.prog 45 #[.string X,.int .u8 32] w fun e w'=>∃ v,e=.returned v∧w'.ownsRow w.heap.size 9 1 v (cutL 32 x).length ((cutL 32 x).map strV)∧Bw w w'):=fun w=>by
  have:=Zh 32 X (by omega) w;rw [HXD.out] at this;exact this
 have hcl1:=Xl x;have hcl2:=Ya 32 x;have hR0:Hid _:=hR;have hh0:Hid _:=hh;have hfit0:=hfit.out;have hk4:k≤40001:=by omega
 clear hrun hX hds hdr hne hx hfit;have hkc:(k:Int)<(L:Int) - 1:=by omega
 have HE:Hid (RR=(none,k+1)):=HSTOP.out rfl;clear HSTOP HNEXT;go_wp2_with (go_at_call 45;refine (HC2.out _).mono ?_;rintro e w2 ⟨vl,rfl,hown2,hb2⟩;have HIS:Hid (IsStrs w2 vl (cutL 32 x)):=Zy hown2;obtain ⟨gl2,capl,rfl,_,hgl3,_,_,hcl3⟩:=Zr hown2 (Z1 32 x);have h2:=(hb2.block W.heap.size (by omega)).trans hh0.out;have R2:Hid _:=hR0.out.below hb2;have G2:Hid (w1.grownBy w2 (some W.heap.size)):=Zn hgb.out hb2;have H2:Hid _:=h2;have hs2:=hb2.size;have c0:=cell_of_row w2 W.heap.size 0 _ _ _ h2;have y0:=frozen_of_row w2 W.heap.size 0 _ _ h2;have c1:=cell_of_row w2 W.heap.size 1 _ _ _ h2;have y1:=frozen_of_row w2 W.heap.size 1 _ _ h2;have c2:=cell_of_row w2 W.heap.size 2 _ _ _ h2;have y2:=frozen_of_row w2 W.heap.size 2 _ _ h2;have c3:=cell_of_row w2 W.heap.size 3 _ _ _ h2;have y3:=frozen_of_row w2 W.heap.size 3 _ _ h2;have c4:=cell_of_row w2 W.heap.size 4 _ _ _ h2;have y4:=frozen_of_row w2 W.heap.size 4 _ _ h2;have c5:=cell_of_row w2 W.heap.size 5 _ _ _ h2;have y5:=frozen_of_row w2 W.heap.size 5 _ _ h2;simp only [List.getElem?_toArray,List.getElem?_cons_zero,List.getElem?_cons_succ] at c0 c1 c2 c3 c4 c5;  clear hown2 hb2 hh0 hR0 hgb HC2 h2 hcl3)
 exact bodyPost_ret (v:=.tuple #[.agg #[.string ⟨#[]⟩,.string ⟨#[]⟩,.slice none 0 0,.int .i64 0,.int .i64 0,.slice none 0 0],.int .i64 ((k:Int)+1),.int .i64 4]) (by simp [results,Tryz.results17,go_sem, *]) rfl (Zu (Yf (Zm (gb_W HBW.out G2.out (Nat.le_refl _)) (.string ⟨#[]⟩) (.string ⟨#[]⟩) (.slice none 0 0) (.int .i64 0) (.int .i64 0) (.slice none 0 0))) (by rw [HE.out];rfl))
theorem Zg9 (s:ByteArray) (hs:s.size≤40000) (W:World) (RR:Option Cls×Nat) (hRR:runL 0 Y2 (cutL 10 s.data.toList) 1=RR):Calls Tryz.prog 17 #[.string s] W fun e w'=>PRes W (resC RR) e w':=by
 have h1:¬ (40000:Int)<(s.size:Int):=by omega
 have HC:Hid (∀ w:World,_):=Zh 10 s (by omega);obtain ⟨Wc,hWc⟩:∃ x,x=W.alloc (.cells #[.string ⟨#[]⟩,.string ⟨#[]⟩,.slice none 0 0,.int .i64 0,.int .i64 0,.slice none 0 0] 25):=⟨_,rfl⟩;have HWc:Hid (Bw W Wc):=by rw [hWc];exact (Below.refl _ _).alloc (Nat.le_refl _) _
 have hWs:Wc.heap.size=W.heap.size+1:=by rw [hWc];simp
 have HRB:Hid (Wc.heap[W.heap.size]?=some (.cells #[.string ⟨#[]⟩,.string ⟨#[]⟩,.slice none 0 0,.int .i64 0,.int .i64 0,.slice none 0 0] 25 (0,0))):=by rw [hWc];exact heap_alloc_new W _
 have HWE:Hid (Wc=W.alloc (.cells #[.string ⟨#[]⟩,.string ⟨#[]⟩,.slice none 0 0,.int .i64 0,.int .i64 0,.slice none 0 0] 25)):=hWc;clear hWc;have HRR:Hid _:=hRR;clear hRR;go_enter Tryz.func17,Tryz.ntmps17;go_wp2_with (go_at_call 45;rw [← HWE.out];refine (HC.out _).mono ?_;rintro e w1 ⟨v,rfl,hown,hb1⟩;obtain ⟨g,cap,rfl,hgN,hgl,hcap,hcm,hcell⟩:=Zr hown (Z1 10 s.data.toList);clear hown HWE HC)
 have hcm2:cap≤9223372036854775807:=by unfold maxLen at hcm;omega
 have HLM:Hid (∀ p∈cutL 10 s.data.toList,p.length≤40000):=fun p hp=>Nat.le_trans (Zdw 10 _ p hp) (by rw [Ql];exact hs);have hlpos:1≤(cutL 10 s.data.toList).length:=List.length_pos_iff.2 (Z1 10 _);have hll:(cutL 10 s.data.toList).length≤40001:=by have:=Ya 10 s.data.toList;rw [Ql] at this;omega
 generalize cutL 10 s.data.toList=ls at *;have HCELL:Hid (∀ k p,ls[k]?=some p→w1.cell? ⟨g,k,none⟩=some (.string ⟨p.toArray⟩)):=hcell;obtain ⟨L,hL⟩:∃ L,ls.length=L:=⟨_,rfl⟩;have HL:Hid (ls.length=L):=hL;rw [hL] at hcap hlpos hll ⊢;clear hL hcell hcm;have hs1:=hb1.size;have hbk1:w1.heap[W.heap.size]?=some (.cells #[.string ⟨#[]⟩,.string ⟨#[]⟩,.slice none 0 0,.int .i64 0,.int .i64 0,.slice none 0 0] 25 (0,0)):=(hb1.block W.heap.size (by omega)).trans HRB.out;have hd0:DSt w1 w1.heap.size W.heap.size Y2:=⟨nilS,nilS,[],_,hbk1,row_zero w1 _ (Nat.le_refl _)⟩;have HD0:Hid (DSt w1 w1.heap.size W.heap.size Y2):=hd0;have HBW:Hid (Bw W w1):=Below.step HWc.out hb1;clear hd0 hbk1 hb1 HRB;go_loopw [6,7] (fun sv kv wr=>∃ (k st:Nat) (c:Cls),kv=.int .i64 k∧sv=.int .i64 st∧k+1≤L∧st≤8∧Hid (DSt wr w1.heap.size W.heap.size c)∧Hid (Fit st c k)∧Hid (w1.grownBy wr (some W.heap.size))∧Hid (runL st c (ls.drop k) (k+1)=RR)) (fun _ kv _=>L - (intOf kv).toNat)
 case atStart=>exact ⟨0,0,Y2,rfl,rfl,by omega,by omega,HD0,Fit.zero 0,gb_refl _ _,HRR⟩
 case round =>
  obtain ⟨k,st,c,rfl,rfl,hkL,hst8,hds,hfit,hgb,hrun⟩:=hrel;clear HRR HD0;have hsr:=hgb.out.size;obtain ⟨vi,vm,pm,B,hh,hR⟩:=hds.out;by_cases hlt:k+1<L
  ·obtain rfl|rfl|rfl|rfl|rfl|rfl|rfl|rfl|rfl:st=0∨st=1∨st=2∨st=3∨st=4∨st=5∨st=6∨st=7∨st=8:=by omega
   ·exact dst_0 (by omega) hgl hcap hcm2 hll HLM HCELL HL (by omega) HBW hkL hlt hds hfit hgb hrun
   ·exact dst_1 (by omega) hgl hcap hcm2 hll HLM HCELL HL (by omega) HBW hkL hlt hds hfit hgb hrun
   ·exact dst_2 (by omega) hgl hcap hcm2 hll HLM HCELL HL (by omega) HBW hkL hlt hds hfit hgb hrun
   ·exact dst_3 (by omega) hgl hcap hcm2 hll HLM HCELL HL (by omega) HBW hkL hlt hds hfit hgb hrun
   ·exact dst_4 (by omega) hgl hcap hcm2 hll HLM HCELL HL (by omega) HBW hkL hlt hds hfit hgb hrun
   ·exact dst_5 (by omega) hgl hcap hcm2 hll HLM HCELL HL (by omega) HBW hkL hlt hds hfit hgb hrun
   ·exact dst_6 (by omega) hgl hcap hcm2 hll HLM HCELL HL (by omega) HBW hkL hlt hds hfit hgb hrun
   ·exact dst_7 (by omega) hgl hcap hcm2 hll HLM HCELL HL (by omega) HBW hkL hlt hds hfit hgb hrun
   ·exact dst_8 (by omega) hgl hcap hcm2 hll HLM HCELL HL (by omega) HBW hkL hlt hds hfit hgb hrun
  ·
   have hkL2:k+1=L:=by omega
   have hkc:¬ (k:Int)<(L:Int) - 1:=by omega
   have hkn:(L:Int) - 1=(k:Int):=by omega
   obtain ⟨x,hx⟩:∃ x,ls[k]?=some x:=⟨_,List.getElem?_eq_getElem (by rw [HL.out];omega)⟩;have gk:wr.cell? ⟨g,k,none⟩=some (.string ⟨x.toArray⟩):=(World.cell?_of_block (hgb.out.block g hgl (by intro e;cases e;omega))).trans (HCELL.out k x hx);have hglr:g<wr.heap.size:=by omega
   have hdr:ls.drop k=[x]:=by
    obtain ⟨h1,h2⟩:=List.getElem?_eq_some_iff.1 hx;rw [List.drop_eq_getElem_cons h1,h2,List.drop_of_length_le (by rw [HL.out];omega)]
   have HEND:Hid (RR=if (st == 8)&&(x == []) then (some c,0) else (none,k+1)):=by rw [Hid,← hrun.out,hdr];rfl
   obtain ⟨X,hX⟩:∃ X:ByteArray,X=⟨x.toArray⟩:=⟨_,rfl⟩;have hXe:X.toList.isEmpty=(x == []):=by rw [hX,Lib.toList_data];cases x <;> rfl
   rw [← hX] at gk;obtain ⟨ia,icap,rfl⟩:=Xc hR.ifs;obtain ⟨ma,mcap,rfl⟩:=Xc hR.ms;have HR:Hid (RowC wr w1.heap.size (.slice ia c.ifs.length icap) (.slice ma pm.length mcap) c pm B):=hR;have HH:Hid _:=hh;have HW:Hid (ClsW c):=hfit.out.w;have HK:Hid (∀ (vi vm:Value) (w:World),IsStrs w vi c.ifs→IsMths w vm c.ms→Calls Tryz.prog 9 #[clsV c vi vm] w fun e w'=>e=.returned (.int .i64 (clsE c))∧Bw w w'):=fun vi vm w h2 h3=>Zis c vi vm w h2 h3 HW.out;have c0:=cell_of_row wr W.heap.size 0 _ _ _ hh;have y0:=frozen_of_row wr W.heap.size 0 _ _ hh;have c1:=cell_of_row wr W.heap.size 1 _ _ _ hh;have y1:=frozen_of_row wr W.heap.size 1 _ _ hh;have c2:=cell_of_row wr W.heap.size 2 _ _ _ hh;have y2:=frozen_of_row wr W.heap.size 2 _ _ hh;have c3:=cell_of_row wr W.heap.size 3 _ _ _ hh;have y3:=frozen_of_row wr W.heap.size 3 _ _ hh;have c4:=cell_of_row wr W.heap.size 4 _ _ _ hh;have y4:=frozen_of_row wr W.heap.size 4 _ _ hh;have c5:=cell_of_row wr W.heap.size 5 _ _ _ hh;have y5:=frozen_of_row wr W.heap.size 5 _ _ hh;simp only [List.getElem?_toArray,List.getElem?_cons_zero,List.getElem?_cons_succ] at c0 c1 c2 c3 c4 c5;clear hrun hdr hX hx hR hds hfit HCELL HLM;by_cases hst:st=8∧(x == [])=true
   ·obtain ⟨rfl,hxe⟩:=hst;have HE:Hid (RR=(some c,0)):=by rw [Hid,HEND.out,hxe];rfl
    rw [hxe] at hXe;clear HEND hxe
    cases hb:clsB c with
    | false =>
      have hce:clsE c=1:=by rw [clsE,hb];rfl
      rw [hce] at HK;go_wp2_with (go_at_call 9;refine (HK.out _ _ _ (Zy HR.out.ifs) HR.out.mths).mono ?_;rintro e w3 ⟨rfl,hb3⟩;have h3:=(hb3.block W.heap.size (by omega)).trans HH.out;have R3:Hid (RowC w3 w1.heap.size (.slice ia c.ifs.length icap) (.slice ma pm.length mcap) c pm B):=HR.out.below hb3;have H3:Hid _:=h3;have B3:Hid (Bw W w3):=gb_W HBW.out (Zn hgb.out hb3) (Nat.le_refl _);clear c0 c1 c2 c3 c4 c5 y0 y1 y2 y3 y4 y5;have c0:=cell_of_row w3 W.heap.size 0 _ _ _ h3;have y0:=frozen_of_row w3 W.heap.size 0 _ _ h3;have c1:=cell_of_row w3 W.heap.size 1 _ _ _ h3;have y1:=frozen_of_row w3 W.heap.size 1 _ _ h3;have c2:=cell_of_row w3 W.heap.size 2 _ _ _ h3;have y2:=frozen_of_row w3 W.heap.size 2 _ _ h3;have c3:=cell_of_row w3 W.heap.size 3 _ _ _ h3;have y3:=frozen_of_row w3 W.heap.size 3 _ _ h3;have c4:=cell_of_row w3 W.heap.size 4 _ _ _ h3;have y4:=frozen_of_row w3 W.heap.size 4 _ _ h3;have c5:=cell_of_row w3 W.heap.size 5 _ _ _ h3;have y5:=frozen_of_row w3 W.heap.size 5 _ _ h3;simp only [List.getElem?_toArray,List.getElem?_cons_zero,List.getElem?_cons_succ] at c0 c1 c2 c3 c4 c5;clear hb3 h3 HK)
      exact bodyPost_ret (v:=.tuple #[.agg #[.string ⟨#[]⟩,.string ⟨#[]⟩,.slice none 0 0,.int .i64 0,.int .i64 0,.slice none 0 0],.int .i64 ((0:Nat):Int),.int .i64 1]) (by simp [results,Tryz.results17,go_sem, *]) rfl (Zu (Q8 (Zm B3.out (.string ⟨#[]⟩) (.string ⟨#[]⟩) (.slice none 0 0) (.int .i64 0) (.int .i64 0) (.slice none 0 0))) (by rw [HE.out,resC,hb];rfl))
    | true =>
      have hce:clsE c=0:=by rw [clsE,hb];rfl
      rw [hce] at HK;go_wp2_with (go_at_call 9;refine (HK.out _ _ _ (Zy HR.out.ifs) HR.out.mths).mono ?_;rintro e w3 ⟨rfl,hb3⟩;have h3:=(hb3.block W.heap.size (by omega)).trans HH.out;have R3:Hid (RowC w3 w1.heap.size (.slice ia c.ifs.length icap) (.slice ma pm.length mcap) c pm B):=HR.out.below hb3;have H3:Hid _:=h3;have B3:Hid (Bw W w3):=gb_W HBW.out (Zn hgb.out hb3) (Nat.le_refl _);clear c0 c1 c2 c3 c4 c5 y0 y1 y2 y3 y4 y5;have c0:=cell_of_row w3 W.heap.size 0 _ _ _ h3;have y0:=frozen_of_row w3 W.heap.size 0 _ _ h3;have c1:=cell_of_row w3 W.heap.size 1 _ _ _ h3;have y1:=frozen_of_row w3 W.heap.size 1 _ _ h3;have c2:=cell_of_row w3 W.heap.size 2 _ _ _ h3;have y2:=frozen_of_row w3 W.heap.size 2 _ _ h3;have c3:=cell_of_row w3 W.heap.size 3 _ _ _ h3;have y3:=frozen_of_row w3 W.heap.size 3 _ _ h3;have c4:=cell_of_row w3 W.heap.size 4 _ _ _ h3;have y4:=frozen_of_row w3 W.heap.size 4 _ _ h3;have c5:=cell_of_row w3 W.heap.size 5 _ _ _ h3;have y5:=frozen_of_row w3 W.heap.size 5 _ _ h3;simp only [List.getElem?_toArray,List.getElem?_cons_zero,List.getElem?_cons_succ] at c0 c1 c2 c3 c4 c5;clear hb3 h3 HK)
      refine bodyPost_ret (v:=.tuple #[.agg #[.string c.nm,.string c.su,.slice ia c.ifs.length icap,.int .i64 c.fl,.int .i64 c.ld,.slice ma pm.length mcap],.int .i64 ((0:Nat):Int),.int .i64 0]) (by simp [results,Tryz.results17,go_sem, *]) rfl ?_;refine Zu (P:=(c,0,0)) ?_ (by rw [HE.out,resC,hb];rfl);exact ⟨_,_,pm,B,rfl,(Za7 H3.out R3.out _ _ _ _ _ _).mono (Nat.le_trans (Nat.le_succ _) (by omega)),HW.out,Zm B3.out _ _ _ _ _ _⟩
   ·have HE:Hid (RR=(none,k+1)):=by
     rw [Hid,HEND.out,if_neg];intro h;simp only [Bool.and_eq_true,beq_iff_eq] at h;exact hst ⟨h.1,by rw [h.2];rfl⟩
    have hq:((st:Int) != 8)=true∨(((st:Int) != 8)=false∧(x == [])=false):=by
     by_cases h8:st=8
     ·refine .inr ⟨by rw [h8];rfl,?_⟩
      cases hxq:(x == []) with
      | false=>rfl
      | true=>exact absurd ⟨h8,hxq⟩ hst
     ·exact .inl (by rw [bne_iff_ne];omega)
    have hLk:(L:Int)=(k:Int)+1:=by omega
    clear HEND hst;rcases hq with k8|⟨k8,kx⟩
    ·go_wp2;exact bodyPost_ret (v:=.tuple #[.agg #[.string ⟨#[]⟩,.string ⟨#[]⟩,.slice none 0 0,.int .i64 0,.int .i64 0,.slice none 0 0],.int .i64 ((k:Int)+1),.int .i64 4]) (by simp [results,Tryz.results17,go_sem, *]) rfl (Zu (Yf (Zm (gb_W HBW.out hgb.out (Nat.le_refl _)) (.string ⟨#[]⟩) (.string ⟨#[]⟩) (.slice none 0 0) (.int .i64 0) (.int .i64 0) (.slice none 0 0))) (by rw [HE.out];rfl))
    ·rw [kx] at hXe;go_wp2;exact bodyPost_ret (v:=.tuple #[.agg #[.string ⟨#[]⟩,.string ⟨#[]⟩,.slice none 0 0,.int .i64 0,.int .i64 0,.slice none 0 0],.int .i64 ((k:Int)+1),.int .i64 4]) (by simp [results,Tryz.results17,go_sem, *]) rfl (Zu (Yf (Zm (gb_W HBW.out hgb.out (Nat.le_refl _)) (.string ⟨#[]⟩) (.string ⟨#[]⟩) (.slice none 0 0) (.int .i64 0) (.int .i64 0) (.slice none 0 0))) (by rw [HE.out];rfl))
theorem Zn1 (s:ByteArray) (W:World) (D:Cls) (n:Nat) (x:Int)
 (HA:∀ w',Bw W w'→Calls Tryz.prog 7 #[] w' fun e w''=>e=.returned (.bool true)∧Below w'.heap.size w' w'')
 (H1:∀ w',Bw W w'→Calls Tryz.prog 16 #[.string s] w' fun e w''=>∃ ui um,e=.returned (.tuple #[clsV D ui um,.int .i64 (n:Int),.int .i64 x])∧IsStrs w'' ui D.ifs∧IsMths w'' um D.ms∧Below w'.heap.size w' w'')
 (H2:∀ w',Bw W w'→Calls Tryz.prog 17 #[.string s] w' fun e w''=>∃ ui um,e=.returned (.tuple #[clsV D ui um,.int .i64 (n:Int),.int .i64 x])∧IsStrs w'' ui D.ifs∧IsMths w'' um D.ms∧Below w'.heap.size w' w'')
 (HS:∀ (vi vm ui um:Value) (w':World),IsStrs w' vi D.ifs→IsMths w' vm D.ms→IsStrs w' ui D.ifs→IsMths w' um D.ms→Calls Tryz.prog 18 #[clsV D vi vm,clsV D ui um] w' fun e w''=>e=.returned (.bool true)∧Below w'.heap.size w' w'') :
 Calls Tryz.prog 4 #[.string s] W fun e w'=>e=.returned (.bool true)∧Bw W w':=by
 have HA:Hid _:=HA;have H1:Hid _:=H1;have H2:Hid _:=H2;have HS:Hid _:=HS;obtain ⟨dn,du,difs,df,dl,dms⟩:=D;simp only [clsV] at *;have k1:((n:Int) == (n:Int))=true:=by simp
 have k2:(x == x)=true:=by simp
 go_enter Tryz.func4,Tryz.ntmps4;go_wp2_with (first
  | (go_at_call 7;refine (HA.out _ (Below.refl _ _)).mono ?_;rintro e w1 ⟨rfl,hb1⟩;have B1:Hid (Bw W w1):=hb1;clear hb1 HA)
  | (go_at_call 16;refine (H1.out _ B1.out).mono ?_;rintro e w2 ⟨vi,vm,rfl,hvi,hvm,hb2⟩;have B2:Hid (Bw W w2):=Below.step B1.out hb2;have HVI:Hid (IsStrs w2 vi difs):=hvi;have HVM:Hid (IsMths w2 vm dms):=hvm;obtain ⟨ci,cipi,rfl,_,_,_⟩:=hvi;obtain ⟨cm,cipm,rfl,_,_,_⟩:=hvm;clear hb2 H1)
  | (go_at_call 17;refine (H2.out _ (B2.out.alloc B2.out.size _)).mono ?_;rintro e w3 ⟨ui,um,rfl,hui,hum,hb3⟩;have B3:Hid (Bw W w3):=Below.step (B2.out.alloc B2.out.size _) hb3;have hs3:=hb3.size;have KI:Hid (IsStrs w3 (.slice ci difs.length cipi) difs):=(HVI.out.keep ((Below.refl _ _).alloc (Nat.le_refl _) _)).keep hb3;have KM:Hid (IsMths w3 (.slice cm dms.length cipm) dms):=(HVM.out.keep ((Below.refl _ _).alloc (Nat.le_refl _) _)).keep hb3;have rk:=(hb3.block w2.heap.size (by simp)).trans (heap_alloc_new w2 _);have d0:=cell_of_row w3 w2.heap.size 0 _ _ _ rk;have d1:=cell_of_row w3 w2.heap.size 1 _ _ _ rk;have d2:=cell_of_row w3 w2.heap.size 2 _ _ _ rk;have d3:=cell_of_row w3 w2.heap.size 3 _ _ _ rk;have d4:=cell_of_row w3 w2.heap.size 4 _ _ _ rk;have d5:=cell_of_row w3 w2.heap.size 5 _ _ _ rk;simp only [List.getElem?_toArray,List.getElem?_cons_zero,List.getElem?_cons_succ] at d0 d1 d2 d3 d4 d5;have hlt2:w2.heap.size<w3.heap.size:=(Array.getElem?_eq_some_iff.1 rk).1;have HUI:Hid (IsStrs w3 ui difs):=hui;have HUM:Hid (IsMths w3 um dms):=hum;obtain ⟨ei,eipi,rfl,_,_,_⟩:=hui;obtain ⟨em,eipm,rfl,_,_,_⟩:=hum;clear hb3 H2 HVI HVM rk)
  | (go_at_call 18;refine (HS.out _ _ _ _ _ (KI.out.keep ((Below.refl _ _).alloc (Nat.le_refl _) _)) (KM.out.keep ((Below.refl _ _).alloc (Nat.le_refl _) _)) (HUI.out.keep ((Below.refl _ _).alloc (Nat.le_refl _) _)) (HUM.out.keep ((Below.refl _ _).alloc (Nat.le_refl _) _))).mono ?_;rintro e w4 ⟨rfl,hb4⟩;have B4:Hid (Bw W w4):=Below.step (B3.out.alloc B3.out.size _) hb4;clear hb4 HS))
 go_ret
 exact ⟨rfl,B4.out⟩
theorem Zg0 (s:ByteArray) (hs:40000<s.size) (W:World):Calls Tryz.prog 17 #[.string s] W fun e w'=>PRes W (Y2,0,5) e w':=by
 have h1:(40000:Int)<(s.size:Int):=by omega
 go_enter Tryz.func17,Tryz.ntmps17;go_wp2;exact bodyPost_ret (v:=.tuple #[.agg #[.string ⟨#[]⟩,.string ⟨#[]⟩,.slice none 0 0,.int .i64 0,.int .i64 0,.slice none 0 0],.int .i64 ((0:Nat):Int),.int .i64 5]) (by simp [results,Tryz.results17,go_sem, *]) rfl (Q8 (by repeat (first|refine Below.setCell ?_ (by simp) _|refine Below.alloc ?_ (by simp) _|exact Below.refl _ _)))
theorem Ziu (s:ByteArray) (W:World):Calls Tryz.prog 17 #[.string s] W fun e w'=>PRes W (parC s.data.toList) e w':=by
 by_cases hs:s.size≤40000
 ·have e0:parC s.data.toList=resC (runL 0 Y2 (cutL 10 s.data.toList) 1):=by
   rw [parC,if_neg (by rw [Ql];omega)];generalize runL 0 Y2 (cutL 10 s.data.toList) 1=q;obtain ⟨_|c,n⟩:=q <;> rfl
  rw [e0];exact Zg9 s hs W _ rfl
 ·have e0:parC s.data.toList=(Y2,0,5):=by rw [parC,if_pos (by rw [Ql];omega)]
  rw [e0];exact Zg0 s (by omega) W
theorem Zd1 (s:ByteArray) (W:World) (_:s.size≤140737488351232) (hG:GP W) (hH:Hnd W):Calls Tryz.prog 4 #[.string s] W fun e w'=>e=.returned (.bool true)∧Bw W w':=by
 have HA:=fun (w':World) (h:Bw W w')=>Zo9 w' (hG.keep h).1
 cases hP:parC s.data.toList with
 | mk D p =>
   obtain ⟨n,x⟩:=p;refine Zn1 s W D n x HA ?_ ?_ ?_
   ·intro w' h;have:=Zj0 s w' (hG.keep h) (hH.keep h);rw [hP] at this;exact this.mono fun e w'' ⟨ui,um,pm,B,he,hr,_,hb⟩=>⟨ui,um,he,Zy hr.ifs,hr.mths,hb⟩
   ·intro w' _;have:=Ziu s w';rw [hP] at this;exact this.mono fun e w'' ⟨ui,um,pm,B,he,hr,_,hb⟩=>⟨ui,um,he,Zy hr.ifs,hr.mths,hb⟩
   ·intro vi vm ui um w' h1 h2 h3 h4;exact rSame_eq D vi vm ui um w' h1 h2 h3 h4
end Go.Proofs.YtfbhjfpkhofifaaGreatDoor
