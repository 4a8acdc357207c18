import Derived.Test.YtmafkabjjibcbaaGreatItF
set_option maxRecDepth 100000
namespace Go.Proofs.YtmafkabjjibcbaaGreat
open Go.RowKit Go.Maps
theorem Zr {w w':World} {N e s n:Nat} {v:Value} {r:Option Nat} {xs:List Value} (h:w.ownsRow N e s v n xs) (hne:∀ k,v.ownBlock=some k→r=some k→False) (hg:w.grownBy w' r):w'.ownsRow N e s v n xs:=by
 refine h.kept hg ?_
 cases ob:v.ownBlock with
 | none=>exact .inl rfl
 | some k=>exact .inr fun e1=>hne k ob e1.symm
set_option maxHeartbeats 16000000 in
theorem ikeeps_w (ps:List Plc) (cs:List Cls) (W:World) (v:Value) (x E:Int) (K K2:Nat) (F F2:List Value) (hK:K≤301000000) (hK2:K2≤301000000) (HB:Hid (∀ w:World,Bw W w→Calls Tryz.prog 10 #[v] w fun e w'=>(∃ b,e=.returned (.pointer (some ⟨b,0,none⟩))∧WAt b ps w')∧Bw w w')) (HO:Hid (∀ w:World,Bw W w→Calls Tryz.prog 14 #[v] w fun e w'=>(∃ b,e=.returned (.pointer (some ⟨b,0,none⟩))∧RAt b cs w')∧Bw w w')) (M1:Hid (∀ b w,WAt b ps w→Calls Tryz.prog 11 #[.pointer (some ⟨b,0,none⟩),.int .i64 x] w fun e w'=>(∃ v,e=.returned (.tuple #[v,.int .i64 E])∧w'.ownsRow w.heap.size 40 8 v K F)∧Bw w w')) (C1:Hid (∀ b w,WAt b ps w→Calls Tryz.prog 12 #[.pointer (some ⟨b,0,none⟩),.int .i64 x] w fun e w'=>(∃ v,e=.returned (.tuple #[v,.int .i64 E])∧w'.ownsRow w.heap.size 38 2 v K2 F2)∧Bw w w')) (M4:Hid (∀ b w,RAt b cs w→Calls Tryz.prog 13 #[.pointer (some ⟨b,0,none⟩),.int .i64 x] w fun e w'=>(∃ v,e=.returned (.tuple #[v,.int .i64 E])∧w'.ownsRow w.heap.size 40 8 v K F)∧Bw w w')) (HS1:Hid (∀ N1 N2 v1 v2 (w:World),w.ownsRow N1 40 8 v1 K F→w.ownsRow N2 40 8 v2 K F→Calls Tryz.prog 15 #[v1,v2] w fun e w'=>e=.returned (.bool true)∧Bw w w')) :
 Calls Tryz.prog 3 #[v,.int .i64 x] W fun e w'=>e=.returned (.bool true)∧Bw W w':=by
 have HA:Hid (∀ w:World,Calls Tryz.prog 9 #[] w fun e w'=>e=.returned (.bool true)∧Bw w w'):=Zmr
 have BB:Hid (Bw W W):=Below.refl _ _
 have M2:=M1
 have M3:=M1
 have HS2:=HS1
 have HS3:=HS1
 have HS4:=HS1
 have HN1:Hid (∀ w:World,Calls Tryz.prog 12 #[.pointer none,.int .i64 0] w fun e w'=>e=.returned (.tuple #[.slice none 0 0,.int .i64 2])∧Bw w w'):=fun w=>Zkc w 0
 have HN2:Hid (∀ w:World,Calls Tryz.prog 11 #[.pointer none,.int .i64 0] w fun e w'=>e=.returned (.tuple #[.slice none 0 0,.int .i64 2])∧Bw w w'):=fun w=>ibln_c w 0
 have HN3:Hid (∀ w:World,Calls Tryz.prog 16 #[.pointer none,.int .i64 0,.agg #[.int .i64 0,.int .i64 0]] w fun e w'=>e=.returned (.tuple #[.agg #[.int .i64 0,.int .i64 0,.int .i64 0,.int .i64 0,.int .i64 0,.int .i64 0,.int .i64 0,.int .i64 0],.int .i64 2])∧Bw w w'):=fun w=>lokn_c w 0 0 0
 have HN4:Hid (∀ w:World,Calls Tryz.prog 17 #[.pointer none,.int .i64 0] w fun e w'=>e=.returned (.tuple #[.int .i64 0,.int .i64 0,.int .i64 0,.int .i64 0,.int .i64 2])∧Bw w w'):=fun w=>mrkn_c w 0
 obtain ⟨i0,hi0,hz0,hz1,hz2⟩:=info_parts Tryz.hinfoE
 go_enter Tryz.func3,Tryz.ntmps3
 go_wp2_with (go_at_call 9;refine (HA.out _).mono ?_;rintro e w1 ⟨rfl,hb⟩;have BB2:Bw W w1:=Za (sqE BB) hb;clear BB;have BB:Hid (Bw W w1):=BB2;clear BB2;clear hb HA)
 go_wp2_with (go_at_call 10;refine (HB.out _ BB.out).mono ?_;rintro e w2 ⟨⟨b,rfl,hw⟩,hb⟩;have HW:Hid (∀ w,Bw w2 w→WAt b ps w):=fun w hx=>hw.below hx;have BB2:Bw W w2:=Za (sqE BB) hb;clear BB;have BB:Hid (Bw W w2):=BB2;clear BB2;have D:Hid (Bw w2 w2):=Below.refl _ _;clear hb HB hw)
 go_wp2_with (go_at_call 11;refine (M1.out _ _ (HW.out _ D.out)).mono ?_;rintro e w3 ⟨⟨v9,rfl,ho⟩,hb⟩;obtain ⟨la,lc,rfl⟩:=ownv ho;have RA:Hid (w3.ownsRow w2.heap.size 40 8 (.slice la K lc) K F):=ho;have GA:Hid (∀ k,(Value.slice la K lc).ownBlock=some k→w2.heap.size≤k∧k<w3.heap.size):=ho.lt;have S3:w2.heap.size≤w3.heap.size:=hb.size;have D2:Bw w2 w3:=Za (sqE D) hb;clear D;have D:Hid (Bw w2 w3):=D2;clear D2;clear hb ho M1)
 go_wp2_with (go_at_call 11;refine (M2.out _ _ (HW.out _ D.out)).mono ?_;rintro e w4 ⟨⟨v9,rfl,ho⟩,hb⟩;obtain ⟨ma,mc,rfl⟩:=ownv ho;have RB:Hid (w4.ownsRow w3.heap.size 40 8 (.slice ma K mc) K F):=ho;have GB:Hid (∀ k,(Value.slice ma K mc).ownBlock=some k→w3.heap.size≤k∧k<w4.heap.size):=ho.lt;have S4:w3.heap.size≤w4.heap.size:=hb.size;have Z9:=Zb RA.out hb;clear RA;have RA:Hid (w4.ownsRow w2.heap.size 40 8 (.slice la K lc) K F):=Z9;clear Z9;have D2:Bw w2 w4:=Za (sqE D) hb;clear D;have D:Hid (Bw w2 w4):=D2;clear D2;clear hb ho M2)
 go_wp2_with (go_at_call 12;refine (C1.out _ _ (HW.out _ D.out)).mono ?_;rintro e w5 ⟨⟨v9,rfl,ho⟩,hb⟩;obtain ⟨na,nc,rfl⟩:=ownv ho;have RL:Hid (w5.ownsRow w4.heap.size 38 2 (.slice na K2 nc) K2 F2):=ho;have GL:Hid (∀ k,(Value.slice na K2 nc).ownBlock=some k→w4.heap.size≤k∧k<w5.heap.size):=ho.lt;have S5:w4.heap.size≤w5.heap.size:=hb.size;have Z9:=Zb RA.out hb;clear RA;have RA:Hid (w5.ownsRow w2.heap.size 40 8 (.slice la K lc) K F):=Z9;clear Z9;have Z9:=Zb RB.out hb;clear RB;have RB:Hid (w5.ownsRow w3.heap.size 40 8 (.slice ma K mc) K F):=Z9;clear Z9;have D2:Bw w2 w5:=Za (sqE D) hb;clear D;have D:Hid (Bw w2 w5):=D2;clear D2;clear hb ho C1)
 go_wp2_with (go_at_call 14;refine (HO.out _ (Za BB.out D.out)).mono ?_;rintro e w6 ⟨⟨bx,rfl,hw⟩,hb⟩;have S6:w5.heap.size≤w6.heap.size:=hb.size;have HR:Hid (RAt bx cs w6):=hw;have Z9:=Zb RA.out hb;clear RA;have RA:Hid (w6.ownsRow w2.heap.size 40 8 (.slice la K lc) K F):=Z9;clear Z9;have Z9:=Zb RB.out hb;clear RB;have RB:Hid (w6.ownsRow w3.heap.size 40 8 (.slice ma K mc) K F):=Z9;clear Z9;have Z9:=Zb RL.out hb;clear RL;have RL:Hid (w6.ownsRow w4.heap.size 38 2 (.slice na K2 nc) K2 F2):=Z9;clear Z9;have D2:Bw w2 w6:=Za (sqE D) hb;clear D;have D:Hid (Bw w2 w6):=D2;clear D2;clear hb HO hw)
 go_wp2_with (go_at_call 13;refine (M4.out _ _ HR.out).mono ?_;rintro e w7 ⟨⟨v9,rfl,ho⟩,hb⟩;obtain ⟨ta,tc,rfl⟩:=ownv ho;have RT:Hid (w7.ownsRow w6.heap.size 40 8 (.slice ta K tc) K F):=ho;have S7:w6.heap.size≤w7.heap.size:=hb.size;clear HR;have Z9:=Zb RA.out hb;clear RA;have RA:Hid (w7.ownsRow w2.heap.size 40 8 (.slice la K lc) K F):=Z9;clear Z9;have Z9:=Zb RB.out hb;clear RB;have RB:Hid (w7.ownsRow w3.heap.size 40 8 (.slice ma K mc) K F):=Z9;clear Z9;have Z9:=Zb RL.out hb;clear RL;have RL:Hid (w7.ownsRow w4.heap.size 38 2 (.slice na K2 nc) K2 F2):=Z9;clear Z9;have D2:Bw w2 w7:=Za (sqE D) hb;clear D;have D:Hid (Bw w2 w7):=D2;clear D2;clear hb ho M4)
 go_wp2_with (go_at_call 15;refine (HS1.out _ _ _ _ _ RA.out RT.out).mono ?_;rintro e w8 ⟨rfl,hb⟩;have Z9:=Zb RA.out hb;clear RA;have RA:Hid (w8.ownsRow w2.heap.size 40 8 (.slice la K lc) K F):=Z9;clear Z9;have Z9:=Zb RB.out hb;clear RB;have RB:Hid (w8.ownsRow w3.heap.size 40 8 (.slice ma K mc) K F):=Z9;clear Z9;have Z9:=Zb RL.out hb;clear RL;have RL:Hid (w8.ownsRow w4.heap.size 38 2 (.slice na K2 nc) K2 F2):=Z9;clear Z9;have Z9:=Zb RT.out hb;clear RT;have RT:Hid (w8.ownsRow w6.heap.size 40 8 (.slice ta K tc) K F):=Z9;clear Z9;have D2:Bw w2 w8:=Za (sqE D) hb;clear D;have D:Hid (Bw w2 w8):=D2;clear D2;clear hb HS1)
 go_wp2_with (go_at_call 15;refine (HS2.out _ _ _ _ _ RB.out RT.out).mono ?_;rintro e w9 ⟨rfl,hb⟩;have Z9:=Zb RA.out hb;clear RA;have RA:Hid (w9.ownsRow w2.heap.size 40 8 (.slice la K lc) K F):=Z9;clear Z9;have Z9:=Zb RB.out hb;clear RB;have RB:Hid (w9.ownsRow w3.heap.size 40 8 (.slice ma K mc) K F):=Z9;clear Z9;have Z9:=Zb RL.out hb;clear RL;have RL:Hid (w9.ownsRow w4.heap.size 38 2 (.slice na K2 nc) K2 F2):=Z9;clear Z9;have Z9:=Zb RT.out hb;clear RT;have RT:Hid (w9.ownsRow w6.heap.size 40 8 (.slice ta K tc) K F):=Z9;clear Z9;have D2:Bw w2 w9:=Za (sqE D) hb;clear D;have D:Hid (Bw w2 w9):=D2;clear D2;clear hb HS2)
 go_loopw [14] (fun iv wr=>∃ i:Nat,iv=.int .i64 i∧i≤K∧Hid ((∃ xs,wr.ownsRow w2.heap.size 40 8 (.slice la K lc) K xs)∧wr.ownsRow w3.heap.size 40 8 (.slice ma K mc) K F∧wr.ownsRow w4.heap.size 38 2 (.slice na K2 nc) K2 F2∧wr.ownsRow w6.heap.size 40 8 (.slice ta K tc) K F∧Bw w2 wr)) (fun iv _=>K - (intOf iv).toNat)
 case atStart=>exact ⟨0,rfl,Nat.zero_le _,⟨_,RA.out⟩,RB.out,RL.out,RT.out,D.out⟩
 case round =>
  obtain ⟨i,rfl,hi,hI⟩:=hrel
  clear RA RB RL RT D
  obtain ⟨⟨xs,h1⟩,h2,h3,h4,h5⟩:=hI.out
  clear hI
  by_cases hlt:i<K
  ·skip
   have hiI:(i:Int)<(K:Int):=by omega
   obtain ⟨g,cp,hf⟩:=Go.Joins.ownsRow_form h1 (by omega)
   injection hf with e1 _ e2
   subst e1 e2
   obtain ⟨g1,g2⟩:=GA.out g rfl
   have hlen:xs.length=K * 8:=h1.1
   have x0:=(h1.cellAt (i * 8) (by omega)).trans (List.getElem?_eq_getElem (by omega))
   generalize xs[i * 8]=y0 at x0
   have x1:=(h1.cellAt (i * 8+1) (by omega)).trans (List.getElem?_eq_getElem (by omega))
   generalize xs[i * 8+1]=y1 at x1
   have x2:=(h1.cellAt (i * 8+2) (by omega)).trans (List.getElem?_eq_getElem (by omega))
   generalize xs[i * 8+2]=y2 at x2
   have x3:=(h1.cellAt (i * 8+3) (by omega)).trans (List.getElem?_eq_getElem (by omega))
   generalize xs[i * 8+3]=y3 at x3
   have x4:=(h1.cellAt (i * 8+4) (by omega)).trans (List.getElem?_eq_getElem (by omega))
   generalize xs[i * 8+4]=y4 at x4
   have x5:=(h1.cellAt (i * 8+5) (by omega)).trans (List.getElem?_eq_getElem (by omega))
   generalize xs[i * 8+5]=y5 at x5
   have x6:=(h1.cellAt (i * 8+6) (by omega)).trans (List.getElem?_eq_getElem (by omega))
   generalize xs[i * 8+6]=y6 at x6
   have x7:=(h1.cellAt (i * 8+7) (by omega)).trans (List.getElem?_eq_getElem (by omega))
   generalize xs[i * 8+7]=y7 at x7
   have xf:∀ k,wr.frozen? ⟨g,k,none⟩=false:=fun k=>h1.frozenAt k
   have xL:g<wr.heap.size:=(h1.lt g rfl).2
   have NX:Hid ((∃ xs,((((((((wr.setCell ⟨g,i * 8,none⟩ (.int .i64 0)).setCell ⟨g,i * 8+1,none⟩ (.int .i64 0)).setCell ⟨g,i * 8+2,none⟩ (.int .i64 0)).setCell ⟨g,i * 8+3,none⟩ (.int .i64 0)).setCell ⟨g,i * 8+4,none⟩ (.int .i64 99)).setCell ⟨g,i * 8+5,none⟩ (.int .i64 0)).setCell ⟨g,i * 8+6,none⟩ (.int .i64 0)).setCell ⟨g,i * 8+7,none⟩ (.int .i64 0)).ownsRow w2.heap.size 40 8 (.slice (some ⟨g,0,none⟩) K lc) K xs)∧((((((((wr.setCell ⟨g,i * 8,none⟩ (.int .i64 0)).setCell ⟨g,i * 8+1,none⟩ (.int .i64 0)).setCell ⟨g,i * 8+2,none⟩ (.int .i64 0)).setCell ⟨g,i * 8+3,none⟩ (.int .i64 0)).setCell ⟨g,i * 8+4,none⟩ (.int .i64 99)).setCell ⟨g,i * 8+5,none⟩ (.int .i64 0)).setCell ⟨g,i * 8+6,none⟩ (.int .i64 0)).setCell ⟨g,i * 8+7,none⟩ (.int .i64 0)).ownsRow w3.heap.size 40 8 (.slice ma K mc) K F∧((((((((wr.setCell ⟨g,i * 8,none⟩ (.int .i64 0)).setCell ⟨g,i * 8+1,none⟩ (.int .i64 0)).setCell ⟨g,i * 8+2,none⟩ (.int .i64 0)).setCell ⟨g,i * 8+3,none⟩ (.int .i64 0)).setCell ⟨g,i * 8+4,none⟩ (.int .i64 99)).setCell ⟨g,i * 8+5,none⟩ (.int .i64 0)).setCell ⟨g,i * 8+6,none⟩ (.int .i64 0)).setCell ⟨g,i * 8+7,none⟩ (.int .i64 0)).ownsRow w4.heap.size 38 2 (.slice na K2 nc) K2 F2∧((((((((wr.setCell ⟨g,i * 8,none⟩ (.int .i64 0)).setCell ⟨g,i * 8+1,none⟩ (.int .i64 0)).setCell ⟨g,i * 8+2,none⟩ (.int .i64 0)).setCell ⟨g,i * 8+3,none⟩ (.int .i64 0)).setCell ⟨g,i * 8+4,none⟩ (.int .i64 99)).setCell ⟨g,i * 8+5,none⟩ (.int .i64 0)).setCell ⟨g,i * 8+6,none⟩ (.int .i64 0)).setCell ⟨g,i * 8+7,none⟩ (.int .i64 0)).ownsRow w6.heap.size 40 8 (.slice ta K tc) K F∧Bw w2 ((((((((wr.setCell ⟨g,i * 8,none⟩ (.int .i64 0)).setCell ⟨g,i * 8+1,none⟩ (.int .i64 0)).setCell ⟨g,i * 8+2,none⟩ (.int .i64 0)).setCell ⟨g,i * 8+3,none⟩ (.int .i64 0)).setCell ⟨g,i * 8+4,none⟩ (.int .i64 99)).setCell ⟨g,i * 8+5,none⟩ (.int .i64 0)).setCell ⟨g,i * 8+6,none⟩ (.int .i64 0)).setCell ⟨g,i * 8+7,none⟩ (.int .i64 0))):=by
    have s1:=h1.stored (i * 8) (.int .i64 0)
    have s2:=s1.1.stored (i * 8+1) (.int .i64 0)
    have s3:=s2.1.stored (i * 8+2) (.int .i64 0)
    have s4:=s3.1.stored (i * 8+3) (.int .i64 0)
    have s5:=s4.1.stored (i * 8+4) (.int .i64 99)
    have s6:=s5.1.stored (i * 8+5) (.int .i64 0)
    have s7:=s6.1.stored (i * 8+6) (.int .i64 0)
    have s8:=s7.1.stored (i * 8+7) (.int .i64 0)
    have gk:∀ k,(Value.slice (some ⟨g,0,none⟩) K lc).ownBlock=some k→_∧_:=GA.out
    refine ⟨⟨_,s8.1⟩,?_,?_,?_,((((((((h5.setCell (by simp;omega) _).setCell (by simp;omega) _).setCell (by simp;omega) _).setCell (by simp;omega) _).setCell (by simp;omega) _).setCell (by simp;omega) _).setCell (by simp;omega) _).setCell (by simp;omega) _)⟩
    ·have q1:=Zr h2 (fun k a1 a2=>by have p1:=GB.out k a1;have p2:=gk k a2;omega) s1.2
     have q2:=Zr q1 (fun k a1 a2=>by have p1:=GB.out k a1;have p2:=gk k a2;omega) s2.2
     have q3:=Zr q2 (fun k a1 a2=>by have p1:=GB.out k a1;have p2:=gk k a2;omega) s3.2
     have q4:=Zr q3 (fun k a1 a2=>by have p1:=GB.out k a1;have p2:=gk k a2;omega) s4.2
     have q5:=Zr q4 (fun k a1 a2=>by have p1:=GB.out k a1;have p2:=gk k a2;omega) s5.2
     have q6:=Zr q5 (fun k a1 a2=>by have p1:=GB.out k a1;have p2:=gk k a2;omega) s6.2
     have q7:=Zr q6 (fun k a1 a2=>by have p1:=GB.out k a1;have p2:=gk k a2;omega) s7.2
     exact Zr q7 (fun k a1 a2=>by have p1:=GB.out k a1;have p2:=gk k a2;omega) s8.2
    ·have q1:=Zr h3 (fun k a1 a2=>by have p1:=GL.out k a1;have p2:=gk k a2;omega) s1.2
     have q2:=Zr q1 (fun k a1 a2=>by have p1:=GL.out k a1;have p2:=gk k a2;omega) s2.2
     have q3:=Zr q2 (fun k a1 a2=>by have p1:=GL.out k a1;have p2:=gk k a2;omega) s3.2
     have q4:=Zr q3 (fun k a1 a2=>by have p1:=GL.out k a1;have p2:=gk k a2;omega) s4.2
     have q5:=Zr q4 (fun k a1 a2=>by have p1:=GL.out k a1;have p2:=gk k a2;omega) s5.2
     have q6:=Zr q5 (fun k a1 a2=>by have p1:=GL.out k a1;have p2:=gk k a2;omega) s6.2
     have q7:=Zr q6 (fun k a1 a2=>by have p1:=GL.out k a1;have p2:=gk k a2;omega) s7.2
     exact Zr q7 (fun k a1 a2=>by have p1:=GL.out k a1;have p2:=gk k a2;omega) s8.2
    ·have q1:=Zr h4 (fun k a1 a2=>by have p1:=(h4.lt k a1).1;have p2:=gk k a2;omega) s1.2
     have q2:=Zr q1 (fun k a1 a2=>by have p1:=(h4.lt k a1).1;have p2:=gk k a2;omega) s2.2
     have q3:=Zr q2 (fun k a1 a2=>by have p1:=(h4.lt k a1).1;have p2:=gk k a2;omega) s3.2
     have q4:=Zr q3 (fun k a1 a2=>by have p1:=(h4.lt k a1).1;have p2:=gk k a2;omega) s4.2
     have q5:=Zr q4 (fun k a1 a2=>by have p1:=(h4.lt k a1).1;have p2:=gk k a2;omega) s5.2
     have q6:=Zr q5 (fun k a1 a2=>by have p1:=(h4.lt k a1).1;have p2:=gk k a2;omega) s6.2
     have q7:=Zr q6 (fun k a1 a2=>by have p1:=(h4.lt k a1).1;have p2:=gk k a2;omega) s7.2
     exact Zr q7 (fun k a1 a2=>by have p1:=(h4.lt k a1).1;have p2:=gk k a2;omega) s8.2
   clear h1 h2 h3 h4 h5 hlen
   go_wp2
   exact ⟨⟨i+1,by simp,by omega,NX.out⟩,by simp [intOf];omega⟩
  ·have e:i=K:=by omega
   subst e
   obtain ⟨K,hKi⟩:∃ K,K=i:=⟨_,rfl⟩
   subst hKi
   have RA:Hid (wr.ownsRow w2.heap.size 40 8 (.slice la K lc) K xs):=h1
   have RB:Hid (wr.ownsRow w3.heap.size 40 8 (.slice ma K mc) K F):=h2
   have RL:Hid (wr.ownsRow w4.heap.size 38 2 (.slice na K2 nc) K2 F2):=h3
   have RT:Hid (wr.ownsRow w6.heap.size 40 8 (.slice ta K tc) K F):=h4
   have D:Hid (Bw w2 wr):=h5
   clear h1 h2 h3 h4 h5 hlt hi
   obtain ⟨wx,hwx⟩:∃ wx,wx=wr:=⟨_,rfl⟩
   subst hwx
   go_wp2
   go_loopw [15] (fun iv wr=>∃ i:Nat,iv=.int .i64 i∧i≤K2∧Hid ((∃ xs,wr.ownsRow w2.heap.size 40 8 (.slice la K lc) K xs)∧wr.ownsRow w3.heap.size 40 8 (.slice ma K mc) K F∧(∃ ys,wr.ownsRow w4.heap.size 38 2 (.slice na K2 nc) K2 ys)∧wr.ownsRow w6.heap.size 40 8 (.slice ta K tc) K F∧Bw w2 wr)) (fun iv _=>K2 - (intOf iv).toNat)
   case atStart=>exact ⟨0,rfl,Nat.zero_le _,⟨_,RA.out⟩,RB.out,⟨_,RL.out⟩,RT.out,D.out⟩
   case round =>
    obtain ⟨i,rfl,hi,hI⟩:=hrel
    clear RA RB RL RT D
    obtain ⟨⟨zs,h1⟩,h2,⟨ys,h3⟩,h4,h5⟩:=hI.out
    clear hI
    by_cases hlt:i<K2
    ·skip
     have hiI:(i:Int)<(K2:Int):=by omega
     obtain ⟨g,cp,hf⟩:=Go.Joins.ownsRow_form h3 (by omega)
     injection hf with e1 _ e2
     subst e1 e2
     obtain ⟨g1,g2⟩:=GL.out g rfl
     have hlen:ys.length=K2 * 2:=h3.1
     have x0:=(h3.cellAt (i * 2) (by omega)).trans (List.getElem?_eq_getElem (by omega))
     generalize ys[i * 2]=y0 at x0
     have x1:=(h3.cellAt (i * 2+1) (by omega)).trans (List.getElem?_eq_getElem (by omega))
     generalize ys[i * 2+1]=y1 at x1
     have xf:∀ k,wr.frozen? ⟨g,k,none⟩=false:=fun k=>h3.frozenAt k
     have xL:g<wr.heap.size:=(h3.lt g rfl).2
     have NX:Hid ((∃ xs,((wr.setCell ⟨g,i * 2,none⟩ (.int .i64 (-9))).setCell ⟨g,i * 2+1,none⟩ (.int .i64 0)).ownsRow w2.heap.size 40 8 (.slice la K lc) K xs)∧((wr.setCell ⟨g,i * 2,none⟩ (.int .i64 (-9))).setCell ⟨g,i * 2+1,none⟩ (.int .i64 0)).ownsRow w3.heap.size 40 8 (.slice ma K mc) K F∧(∃ ys,((wr.setCell ⟨g,i * 2,none⟩ (.int .i64 (-9))).setCell ⟨g,i * 2+1,none⟩ (.int .i64 0)).ownsRow w4.heap.size 38 2 (.slice (some ⟨g,0,none⟩) K2 nc) K2 ys)∧((wr.setCell ⟨g,i * 2,none⟩ (.int .i64 (-9))).setCell ⟨g,i * 2+1,none⟩ (.int .i64 0)).ownsRow w6.heap.size 40 8 (.slice ta K tc) K F∧Bw w2 ((wr.setCell ⟨g,i * 2,none⟩ (.int .i64 (-9))).setCell ⟨g,i * 2+1,none⟩ (.int .i64 0))):=by
      have s1:=h3.stored (i * 2) (.int .i64 (-9))
      have s2:=s1.1.stored (i * 2+1) (.int .i64 0)
      have gk:∀ k,(Value.slice (some ⟨g,0,none⟩) K2 nc).ownBlock=some k→_∧_:=GL.out
      refine ⟨⟨zs,?_⟩,?_,⟨_,s2.1⟩,?_,((h5.setCell (by simp;omega) _).setCell (by simp;omega) _)⟩
      ·have q1:=Zr h1 (fun k a1 a2=>by have p1:=GA.out k a1;have p2:=gk k a2;omega) s1.2
       exact Zr q1 (fun k a1 a2=>by have p1:=GA.out k a1;have p2:=gk k a2;omega) s2.2
      ·have q1:=Zr h2 (fun k a1 a2=>by have p1:=GB.out k a1;have p2:=gk k a2;omega) s1.2
       exact Zr q1 (fun k a1 a2=>by have p1:=GB.out k a1;have p2:=gk k a2;omega) s2.2
      ·have q1:=Zr h4 (fun k a1 a2=>by have p1:=(h4.lt k a1).1;have p2:=gk k a2;omega) s1.2
       exact Zr q1 (fun k a1 a2=>by have p1:=(h4.lt k a1).1;have p2:=gk k a2;omega) s2.2
     clear h1 h2 h3 h4 h5 hlen
     go_wp2
     exact ⟨⟨i+1,by simp,by omega,NX.out⟩,by simp [intOf];omega⟩
    ·have e:i=K2:=by omega
     subst e
     have RA:Hid (wr.ownsRow w2.heap.size 40 8 (.slice la K lc) K zs):=h1
     have RB:Hid (wr.ownsRow w3.heap.size 40 8 (.slice ma K mc) K F):=h2
     have RT:Hid (wr.ownsRow w6.heap.size 40 8 (.slice ta K tc) K F):=h4
     have D:Hid (Bw w2 wr):=h5
     clear h1 h2 h3 h4 h5 hlt hi
     go_wp2_with (at_builtin;refine wpList_append_own _ rfl _ _ 26 rfl w2.heap.size 40 i0 (.agg #[.int .i64 0,.int .i64 0,.int .i64 0,.int .i64 0,.int .i64 0,.int .i64 0,.int .i64 0,.int .i64 0]) 8 64 Tryz.underlying26 hi0 hz0 hz1 hz2 rfl (by decide) (.slice la K lc) K zs rfl (RA.out.alloc _) ⟨wr.heap.size,0,none⟩ 2 2 [.int .i64 0,.int .i64 0,.int .i64 0,.int .i64 0,.int .i64 0,.int .i64 0,.int .i64 0,.int .i64 0,.int .i64 0,.int .i64 0,.int .i64 0,.int .i64 0,.int .i64 0,.int .i64 0,.int .i64 0,.int .i64 0] rfl rfl ?c1 ?c2 ?c3 ?c4 ?c5 ?_)
     case c1=>exact World.news_of_block (cs:=#[.int .i64 0,.int .i64 0,.int .i64 0,.int .i64 0,.int .i64 0,.int .i64 0,.int .i64 0,.int .i64 0,.int .i64 0,.int .i64 0,.int .i64 0,.int .i64 0,.int .i64 0,.int .i64 0,.int .i64 0,.int .i64 0]) (Zm _ _)
     case c2=>intro u hu;simp at hu;subst hu;rfl
     case c3=>unfold maxLen;omega
     case c4=>omega
     case c5=>have:=D.out.size;simp;omega
     intro v' w10 hown hgrow _
     obtain ⟨a10,c10,rfl⟩:=ownv hown
     have hD:Bw w2 w10:=by
      refine (D.out.alloc D.out.size _).grown hgrow (by have:=D.out.size;simp;omega) (fun z hz=>?_)
      exact (RA.out.lt z hz).1
     have hB:w10.ownsRow w3.heap.size 40 8 (.slice ma K mc) K F:=Zr (RB.out.alloc _) (fun k a1 a2=>by have p1:=(RB.out.lt k a1).1;have p2:=GA.out k a2;omega) hgrow
     have hT:w10.ownsRow w6.heap.size 40 8 (.slice ta K tc) K F:=Zr (RT.out.alloc _) (fun k a1 a2=>by have p1:=(RT.out.lt k a1).1;have p2:=GA.out k a2;omega) hgrow
     clear RA RB RT D hown hgrow
     have RB:Hid (w10.ownsRow w3.heap.size 40 8 (.slice ma K mc) K F):=hB
     have RT:Hid (w10.ownsRow w6.heap.size 40 8 (.slice ta K tc) K F):=hT
     have D:Hid (Bw w2 w10):=hD
     clear hB hT hD
     go_wp2_with (go_at_call 11;refine (M3.out _ _ (HW.out _ D.out)).mono ?_;rintro e w11 ⟨⟨v9,rfl,ho⟩,hb⟩;obtain ⟨oa,oc,rfl⟩:=ownv ho;have RC:Hid (w11.ownsRow w10.heap.size 40 8 (.slice oa K oc) K F):=ho;have Z9:=Zb RB.out hb;clear RB;have RB:Hid (w11.ownsRow w3.heap.size 40 8 (.slice ma K mc) K F):=Z9;clear Z9;have Z9:=Zb RT.out hb;clear RT;have RT:Hid (w11.ownsRow w6.heap.size 40 8 (.slice ta K tc) K F):=Z9;clear Z9;have D2:Bw w2 w11:=Za (sqE D) hb;clear D;have D:Hid (Bw w2 w11):=D2;clear D2;clear hb ho M3)
     go_wp2_with (go_at_call 15;refine (HS3.out _ _ _ _ _ RB.out RT.out).mono ?_;rintro e w12 ⟨rfl,hb⟩;have Z9:=Zb RT.out hb;clear RT;have RT:Hid (w12.ownsRow w6.heap.size 40 8 (.slice ta K tc) K F):=Z9;clear Z9;have Z9:=Zb RC.out hb;clear RC;have RC:Hid (w12.ownsRow w10.heap.size 40 8 (.slice oa K oc) K F):=Z9;clear Z9;have D2:Bw w2 w12:=Za (sqE D) hb;clear D;have D:Hid (Bw w2 w12):=D2;clear D2;clear hb HS3)
     go_wp2_with (go_at_call 15;refine (HS4.out _ _ _ _ _ RC.out RT.out).mono ?_;rintro e w13 ⟨rfl,hb⟩;have D2:Bw w2 w13:=Za (sqE D) hb;clear D;have D:Hid (Bw w2 w13):=D2;clear D2;clear hb HS4)
     go_wp2_with (first|(go_at_call 12;refine (HN1.out _).mono ?_;rintro e w14 ⟨rfl,hb⟩;have D2:Bw w2 w14:=Za (sqE D) hb;clear D;have D:Hid (Bw w2 w14):=D2;clear D2;clear hb HN1)|(go_at_call 11;refine (HN2.out _).mono ?_;rintro e w15 ⟨rfl,hb⟩;have D2:Bw w2 w15:=Za (sqE D) hb;clear D;have D:Hid (Bw w2 w15):=D2;clear D2;clear hb HN2)|(go_at_call 16;refine (HN3.out _).mono ?_;rintro e w16 ⟨rfl,hb⟩;have D2:Bw w2 w16:=Za (sqE D) hb;clear D;have D:Hid (Bw w2 w16):=D2;clear D2;clear hb HN3)|(go_at_call 17;refine (HN4.out _).mono ?_;rintro e w17 ⟨rfl,hb⟩;have D2:Bw w2 w17:=Za (sqE D) hb;clear D;have D:Hid (Bw w2 w17):=D2;clear D2;clear hb HN4))
     go_ret
     exact ⟨rfl,Za BB.out (sqE D)⟩
theorem Zcf (v:Value) (l:List Cls) (x:Int) (W:World) (h:Za3 W v l):Calls Tryz.prog 3 #[v,.int .i64 x] W fun e w'=>e=.returned (.bool true)∧Bw W w':=by
 have hCW:=Zmb h
 obtain ⟨hWI,hWJ⟩:=wld_wj l hCW
 have ht:=twW l hCW
 have hS:=sndI_wld l hCW
 have hU:=unqM_wld l hCW
 have hz:=ht.tw.sz ht.wi
 have hL:=Zhq hWI x
 have hL2:(itT (wld l) x).length≤301000000:=by rw [itT,List.length_map];exact hL
 exact ikeeps_w (wld l) (wldC l) W v x _ _ _ _ _ hL2 hL (fun w hb=>(Zmn v l w (Zgo h hb)).mono fun e w' zz=>⟨by obtain ⟨b,e1,mb,vp,pv,hw⟩:=zz.1;exact ⟨b,e1,hw.wat⟩,zz.2⟩) (fun w hb=>of_c v l w (Zgo h hb)) (fun b w hw=>Zmo hw hWI x) (fun b w hw=>Zkg hw hWI x) (fun b w hw=>r14b_c hw ht hWJ hS hU hz x) (fun N1 N2 v1 v2 w r1 r2=>sameEntries_eq N1 N2 _ v1 v2 w r1 r2 (by omega))
end Go.Proofs.YtmafkabjjibcbaaGreat
