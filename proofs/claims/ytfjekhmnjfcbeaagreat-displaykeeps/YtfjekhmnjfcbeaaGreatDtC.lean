import Derived.Test.YtfjekhmnjfcbeaaGreatNaA
import Derived.Test.YtfjekhmnjfcbeaaGreatDsP
import Derived.Test.YtfjekhmnjfcbeaaGreatDsG
import Derived.Deep.AppendLies
set_option maxRecDepth 100000
namespace Go.Proofs.YtfjekhmnjfcbeaaGreat
open Go.RowKit Go.Maps
set_option maxHeartbeats 4000000 in
theorem r15s_c (P Q C:List Nat) (u1 u2 u3 v1 v2 v3:Value) (W:World) (h1:Rds W u1 P.length 1 (P.map numV)) (h2:Rds W u2 Q.length 1 (Q.map numV)) (h3:Rds W u3 C.length 1 (C.map numV)) (g1:Rds W v1 P.length 1 (P.map numV)) (g2:Rds W v2 Q.length 1 (Q.map numV)) (g3:Rds W v3 C.length 1 (C.map numV)) (hP:P.length≤1000000000) (hQ:Q.length≤1000000000) (hC:C.length≤1000000000) :
    Calls Tryz.prog 51 #[.agg #[u1,u2,u3],.agg #[v1,v2,v3]] W fun e w'=>e=.returned (.bool true)∧Below W.heap.size W w':=by
  have form:∀ {v:Value} {n:Nat} {xs:List Value},Rds W v n 1 xs→∃ a c,v=.slice a n c:=fun {v n xs} h=>by
    rcases h.val with ⟨rfl,rfl⟩|⟨g,o,cap,rfl,_⟩
    · exact ⟨none,0,rfl⟩
    · exact ⟨_,_,rfl⟩
  have HN1:Hid (∀ x y w,Below W.heap.size W w→x=u1→y=v1→Calls Tryz.prog 17 #[x,y] w fun e w'=>e=.returned (.bool true)∧Below w.heap.size w w'):=fun x y w hb hx hy=>by rw [hx,hy];exact sameNums_rds P _ _ w (h1.keep hb) (g1.keep hb) hP
  have HN2:Hid (∀ x y w,Below W.heap.size W w→x=u2→y=v2→Calls Tryz.prog 17 #[x,y] w fun e w'=>e=.returned (.bool true)∧Below w.heap.size w w'):=fun x y w hb hx hy=>by rw [hx,hy];exact sameNums_rds Q _ _ w (h2.keep hb) (g2.keep hb) hQ
  have HN3:Hid (∀ x y w,Below W.heap.size W w→x=u3→y=v3→Calls Tryz.prog 17 #[x,y] w fun e w'=>e=.returned (.bool true)∧Below w.heap.size w w'):=fun x y w hb hx hy=>by rw [hx,hy];exact sameNums_rds C _ _ w (h3.keep hb) (g3.keep hb) hC
  obtain ⟨a1,c1,rfl⟩:=form h1
  obtain ⟨a2,c2,rfl⟩:=form h2
  obtain ⟨a3,c3,rfl⟩:=form h3
  obtain ⟨b1,d1,rfl⟩:=form g1
  obtain ⟨b2,d2,rfl⟩:=form g2
  obtain ⟨b3,d3,rfl⟩:=form g3
  clear form h1 h2 h3 g1 g2 g3
  generalize P.length=p at *
  generalize Q.length=q at *
  generalize C.length=c at *
  have BB:Hid (Below W.heap.size W W):=Below.refl _ _
  go_enter Tryz.func51,Tryz.ntmps51
  go_wp2_with (first
    | (go_at_call 17;refine (HN1.out _ _ _ (by repeat (first|exact Below.refl _ _|refine Below.setCell ?_ (by simp;try omega) _|refine Below.alloc ?_ (by simp;try omega) _|refine Below.drew ?_)) (by rfl) (by rfl)).mono ?_;rintro e w1 ⟨rfl,hb⟩;have uud:=kp3 (n:=W.heap.size) hb (by simp;try omega) (hkeep (halloc1 _ _));obtain ⟨uuB,uu0,uu1,uu2,uuf,uuL,uuN⟩:=uud;have vvd:=kp3 (n:=W.heap.size+1) hb (by simp;try omega) (halloc2 _ _ (by simp));obtain ⟨vvB,vv0,vv1,vv2,vvf,vvL,vvN⟩:=vvd;have BB2:Below W.heap.size W w1:=bstep (by repeat (first|exact Below.refl _ _|refine Below.setCell ?_ (by simp;try omega) _|refine Below.alloc ?_ (by simp;try omega) _|refine Below.drew ?_)) hb;clear BB;have BB:Hid (Below W.heap.size W w1):=BB2;clear BB2 hb HN1)
    | (go_at_call 17;refine (HN2.out _ _ _ BB.out (by rfl) (by rfl)).mono ?_;rintro e w2 ⟨rfl,hb⟩;have uud:=kp3 (n:=W.heap.size) hb (by omega) uuB.out;clear uuB uu0 uu1 uu2 uuf uuL uuN;obtain ⟨uuB,uu0,uu1,uu2,uuf,uuL,uuN⟩:=uud;have vvd:=kp3 (n:=W.heap.size+1) hb (by omega) vvB.out;clear vvB vv0 vv1 vv2 vvf vvL vvN;obtain ⟨vvB,vv0,vv1,vv2,vvf,vvL,vvN⟩:=vvd;have BB2:Below W.heap.size W w2:=bstep BB.out hb;clear BB;have BB:Hid (Below W.heap.size W w2):=BB2;clear BB2 hb HN2)
    | (go_at_call 17;refine (HN3.out _ _ _ BB.out (by rfl) (by rfl)).mono ?_;rintro e w3 ⟨rfl,hb⟩;have BB2:Below W.heap.size W w3:=bstep BB.out hb;clear BB;have BB:Hid (Below W.heap.size W w3):=BB2;clear BB2 hb HN3))
  exact bodyPost_ret (results_tmp rfl _ _ _) rfl ⟨rfl,BB.out⟩
theorem dck_nil (W:World) (x:Int):Calls Tryz.prog 98 #[.pointer none,.int .i64 x] W fun e w'=>e=.returned (.int .i64 2)∧Below W.heap.size W w':=by
  go_enter Tryz.func98,Tryz.ntmps98
  go_wp2
  go_ret
  exact ⟨rfl,Below.refl _ _⟩
theorem ld_nil (W:World) (d:Int) (s:ByteArray):Calls Tryz.prog 101 #[.pointer none,.agg #[.int .i64 d,.string s]] W fun e w'=>e=.returned (.int .i64 2)∧Below W.heap.size W w':=by
  go_enter Tryz.func101,Tryz.ntmps101
  go_wp2
  go_ret
  exact ⟨rfl,(by repeat (first|exact Below.refl _ _|refine Below.setCell ?_ (by simp;try omega) _|refine Below.alloc ?_ (by simp;try omega) _|refine Below.drew ?_))⟩
theorem dbn_w (W:World) (x E:Int) (hE:¬ E=0) (HC:Hid (∀ w,Below W.heap.size W w→Calls Tryz.prog 98 #[.pointer none,.int .i64 x] w fun e w'=>e=.returned (.int .i64 E)∧Below w.heap.size w w')):Calls Tryz.prog 49 #[.pointer none,.int .i64 x] W fun e w'=>e=.returned (.tuple #[.agg #[.slice none 0 0,.slice none 0 0,.slice none 0 0],.int .i64 E])∧Below W.heap.size W w':=by
  have hE2:(E == 0)=false:=by simp [hE]
  go_enter Tryz.func49,Tryz.ntmps49
  go_wp2_with (go_at_call 98;refine (HC.out _ (by repeat (first|exact Below.refl _ _|refine Below.setCell ?_ (by simp;try omega) _|refine Below.alloc ?_ (by simp;try omega) _|refine Below.drew ?_))).mono ?_;rintro e w1 ⟨rfl,hb⟩;have rrd:=kp3 (n:=W.heap.size) hb (by simp) (halloc1 _ _);obtain ⟨rrB,rr0,rr1,rr2,rrf,rrL,rrN⟩:=rrd;have B1:Hid (Below W.heap.size W w1):=bstep (by repeat (first|exact Below.refl _ _|refine Below.setCell ?_ (by simp;try omega) _|refine Below.alloc ?_ (by simp;try omega) _|refine Below.drew ?_)) hb;clear hb HC)
  exact bodyPost_ret (v:=.tuple #[.agg #[.slice none 0 0,.slice none 0 0,.slice none 0 0],.int .i64 E]) (by simp [results,Tryz.results49,go_sem, *]) rfl ⟨rfl,((B1.out.setCell (Nat.le_refl _) _).setCell (Nat.le_refl _) _).setCell (Nat.le_refl _) _⟩
set_option maxHeartbeats 4000000 in
theorem tsn_w (W:World) (s t E:Int) (hE:¬ E=0) (HS:Hid (∀ w,Below W.heap.size W w→Calls Tryz.prog 98 #[.pointer none,.int .i64 s] w fun e w'=>e=.returned (.int .i64 E)∧Below w.heap.size w w')):Calls Tryz.prog 52 #[.pointer none,.int .i64 s,.int .i64 t] W fun e w'=>e=.returned (.tuple #[.bool false,.int .i64 0,.int .i64 E])∧Below W.heap.size W w':=by
  have hE2:(E == 0)=false:=by simp [hE]
  have IX0:=idx2_0 s t
  have IX1:=idx2_1 s t
  go_enter Tryz.func52,Tryz.ntmps52
  go_wp2
  go_loopw [17] (fun kv wr=>(kv=.int .i64 0)∧Hid (Below W.heap.size W wr)∧Hid (wr.heap[W.heap.size]?=some (.cells #[.int .i64 0] 3 (0,0)))∧Hid (wr.heap[W.heap.size+1]?=some (.cells #[.int .i64 s,.int .i64 t] 150 (0,0)))) (fun kv _=>2 - (intOf kv).toNat)
  case atStart=>exact ⟨rfl,((Below.refl _ _).alloc (Nat.le_refl _) _).alloc (by simp) _,hkeep (halloc1 _ _),halloc2 _ _ (by simp)⟩
  case round =>
    obtain ⟨hk,hB,rrB,eeB⟩:=hrel
    obtain ⟨rr0,rrf,rrL⟩:=rw1 rrB.out
    obtain ⟨ee0,ee1,eef,eeL⟩:=rw2 eeB.out
    have rrN:¬ W.heap.size=wr.heap.size:=by omega
    have eeN:¬ W.heap.size+1=wr.heap.size:=by omega
    subst hk
    go_wp2_with (go_at_call 98;refine (HS.out _ hB.out).mono ?_;rintro e w1 ⟨rfl,hb⟩;have eed:=kp2 (n:=W.heap.size+1) hb (by first|omega|(simp;try omega)) (eeB.out);(try clear eeB ee0 ee1 eef eeL eeN);obtain ⟨eeB,ee0,ee1,eef,eeL,eeN⟩:=eed;have rrd:=kp1 (n:=W.heap.size) hb (by first|omega|(simp;try omega)) (rrB.out);(try clear rrB rr0 rrf rrL rrN);obtain ⟨rrB,rr0,rrf,rrL,rrN⟩:=rrd;have B1:Hid (Below W.heap.size W w1):=bstep hB.out hb;clear hb)
    exact bodyPost_ret (v:=.tuple #[.bool false,.int .i64 0,.int .i64 E]) (by simp [results,Tryz.results52,go_sem, *]) rfl ⟨rfl,B1.out.setCell (Nat.le_refl _) _⟩
set_option maxHeartbeats 4000000 in
theorem ttn_w (W:World) (x y E:Int) (s t:ByteArray) (hE:¬ E=0) (HS:Hid (∀ w,Below W.heap.size W w→Calls Tryz.prog 101 #[.pointer none,.agg #[.int .i64 x,.string s]] w fun e w'=>e=.returned (.int .i64 E)∧Below w.heap.size w w')):Calls Tryz.prog 53 #[.pointer none,.agg #[.int .i64 x,.string s],.agg #[.int .i64 y,.string t]] W fun e w'=>e=.returned (.tuple #[.bool false,.int .i64 0,.int .i64 E])∧Below W.heap.size W w':=by
  have hE2:(E == 0)=false:=by simp [hE]
  have IX0:=idxT_0 x y s t
  have IX1:=idxT_1 x y s t
  go_enter Tryz.func53,Tryz.ntmps53
  go_wp2
  go_loopw [17] (fun kv wr=>(kv=.int .i64 0)∧Hid (Below W.heap.size W wr)∧Hid (wr.heap[W.heap.size+2]?=some (.cells #[.int .i64 0] 3 (0,0)))∧Hid (wr.heap[W.heap.size+3]?=some (.cells #[.int .i64 x,.string s,.int .i64 y,.string t] 153 (0,0)))) (fun kv _=>2 - (intOf kv).toNat)
  case atStart=>exact ⟨rfl,(by repeat (first|exact Below.refl _ _|refine Below.setCell ?_ (by simp;try omega) _|refine Below.alloc ?_ (by simp;try omega) _|refine Below.drew ?_)),hkeep (halloc2 _ _ (by simp)),halloc2 _ _ (by simp)⟩
  case round =>
    obtain ⟨hk,hB,rrB,eeB⟩:=hrel
    obtain ⟨rr0,rrf,rrL⟩:=rw1 rrB.out
    obtain ⟨ee0,ee1,ee2,ee3,eef,eeL⟩:=rw4 eeB.out
    have rrN:¬ W.heap.size+2=wr.heap.size:=by omega
    have eeN:¬ W.heap.size+3=wr.heap.size:=by omega
    subst hk
    go_wp2_with (go_at_call 101;refine (HS.out _ (hB.out.alloc hB.out.size _)).mono ?_;rintro e w1 ⟨rfl,hb⟩;have eed:=kp4 (n:=W.heap.size+3) hb (by first|omega|(simp;try omega)) (hkeep eeB.out);(try clear eeB ee0 ee1 ee2 ee3 eef eeL eeN);obtain ⟨eeB,ee0,ee1,ee2,ee3,eef,eeL,eeN⟩:=eed;have rrd:=kp1 (n:=W.heap.size+2) hb (by first|omega|(simp;try omega)) (hkeep rrB.out);(try clear rrB rr0 rrf rrL rrN);obtain ⟨rrB,rr0,rrf,rrL,rrN⟩:=rrd;have B1:Hid (Below W.heap.size W w1):=bstep (hB.out.alloc hB.out.size _) hb;clear hb)
    exact bodyPost_ret (v:=.tuple #[.bool false,.int .i64 0,.int .i64 E]) (by simp [results,Tryz.results53,go_sem, *]) rfl ⟨rfl,B1.out.setCell (by simp;try omega) _⟩
theorem dbn_c (W:World) (x:Int):Calls Tryz.prog 49 #[.pointer none,.int .i64 x] W fun e w'=>e=.returned (.tuple #[.agg #[.slice none 0 0,.slice none 0 0,.slice none 0 0],.int .i64 2])∧Below W.heap.size W w':=dbn_w W x 2 (by decide) (fun w _=>dck_nil w x)
theorem tsn_c (W:World) (s t:Int):Calls Tryz.prog 52 #[.pointer none,.int .i64 s,.int .i64 t] W fun e w'=>e=.returned (.tuple #[.bool false,.int .i64 0,.int .i64 2])∧Below W.heap.size W w':=tsn_w W s t 2 (by decide) (fun w _=>dck_nil w s)
theorem ttn_c (W:World) (x y:Int) (s t:ByteArray):Calls Tryz.prog 53 #[.pointer none,.agg #[.int .i64 x,.string s],.agg #[.int .i64 y,.string t]] W fun e w'=>e=.returned (.tuple #[.bool false,.int .i64 0,.int .i64 2])∧Below W.heap.size W w':=ttn_w W x y 2 s t (by decide) (fun w _=>ld_nil w x s)
theorem dpn_c (W:World):Calls Tryz.prog 54 #[.pointer none] W fun e w'=>e=.returned (.tuple #[.int .i64 0,.int .i64 2])∧Below W.heap.size W w':=by
  go_enter Tryz.func54,Tryz.ntmps54
  go_wp2
  exact bodyPost_ret (results_tmp2 rfl _ _ _) rfl ⟨rfl,(by repeat (first|exact Below.refl _ _|refine Below.setCell ?_ (by simp;try omega) _|refine Below.alloc ?_ (by simp;try omega) _|refine Below.drew ?_))⟩
theorem clss_kp {w w':World} {v:Value} {l:List Cls} (h:IsClss w v l) (hb:Below w.heap.size w w'):IsClss w' v l:=by
  obtain ⟨ao,cap,rfl,h1,h2,h3⟩:=h
  refine ⟨ao,cap,rfl,h1,h2,fun hne=>?_⟩
  obtain ⟨bk,o,e,hlt,hc⟩:=h3 hne
  refine ⟨bk,o,e,Nat.lt_of_lt_of_le hlt hb.size,fun k c hk=>?_⟩
  obtain ⟨vi,vm,h4,h5⟩:=hc k c hk
  exact ⟨vi,vm,fun j u hj=>(hb.cell hlt).trans (h4 j u hj),h5.keep hb⟩
theorem tst3:tstR P3 1 0=((true,1),0):=by kernel_rfl
theorem awake15_n (W:World) (HN:Hid (∀ w:World,Calls Tryz.prog 9 #[] w fun e w'=>∃ b,e=.returned (.pointer (some ⟨b,0,none⟩))∧WAt b P3 w'∧Below w.heap.size w w')) (HM:Hid (∀ (w:World) (b:Nat),WAt b P3 w→Calls Tryz.prog 52 #[.pointer (some ⟨b,0,none⟩),.int .i64 1,.int .i64 0] w fun e w'=>e=.returned (.tuple #[.bool true,.int .i64 1,.int .i64 0])∧Below w.heap.size w w')):Calls Tryz.prog 47 #[] W fun e w'=>e=.returned (.bool true)∧Below W.heap.size W w':=by
  go_enter Tryz.func47,Tryz.ntmps47
  go_wp2_with (first
    | (go_at_call 9;refine (HN.out _).mono ?_;rintro e w1 ⟨b,rfl,hw,hb⟩;have H1:Hid (WAt b P3 w1):=hw;have B1:Hid (Below W.heap.size W w1):=hb;clear hw hb HN)
    | (go_at_call 52;refine (HM.out _ _ H1.out).mono ?_;rintro e w2 ⟨rfl,hb⟩;have B2:Hid (Below W.heap.size W w2):=bstep B1.out hb;clear hb HM))
  all_goals exact bodyPost_ret (results_tmp rfl _ _ _) rfl ⟨rfl,B2.out⟩
theorem awake15_c (W:World):Calls Tryz.prog 47 #[] W fun e w'=>e=.returned (.bool true)∧Below W.heap.size W w' :=
  awake15_n W (fun w=>(new_any w).mono fun e w' zz=>⟨_,zz.1,by obtain ⟨vp,pv,hw⟩:=zz.2.1;exact hw.wat,zz.2.2⟩) (fun w b h=>(tst_c h wi3 1 0).mono fun e w' zz=>⟨by rw [zz.1,tst3];rfl,zz.2⟩)
set_option maxHeartbeats 4000000 in
theorem built15_c (v:Value) (l:List Cls) (W:World) (h:IsClss W v l):Calls Tryz.prog 48 #[v] W fun e w'=>(∃ b,e=.returned (.pointer (some ⟨b,0,none⟩))∧WAt b (wld l) w')∧Below W.heap.size W w':=by
  have hCW:=clss_w h
  obtain ⟨ao,cap,rfl,h1,h2,h3⟩:=h
  unfold maxLen at h2
  obtain ⟨L,hL⟩:∃ L,l.length=L:=⟨_,rfl⟩
  have HL:Hid (l.length=L):=hL
  have HI:Hid _:=h3
  have HCW:Hid (∀ c∈l,ClsW c):=hCW
  rw [hL] at h1 ⊢
  clear hL h3 hCW
  have HN:Hid (∀ w:World,Calls Tryz.prog 9 #[] w fun e w'=>e=.returned (.pointer (some ⟨w.heap.size+1,0,none⟩))∧(∃ vp pv,HW w' w.heap.size (w.heap.size+1) w.heap.size P3 vp pv)∧Below w.heap.size w w'):=new_any
  go_enter Tryz.func48,Tryz.ntmps48
  go_wp2_with (first
    | (go_at_call 9;refine (HN.out _).mono ?_;rintro e w2 ⟨rfl,hw,hb⟩;have H2:Hid (∃ vp pv,HW w2 W.heap.size (W.heap.size+1) W.heap.size P3 vp pv):=hw;have B2:Hid (Below W.heap.size W w2):=hb;clear hb hw HN))
  go_loopw [4] (fun iv wr=>∃ (i:Nat),iv=.int .i64 i∧i≤L∧Hid (∃ vp pv,HW wr W.heap.size (W.heap.size+1) W.heap.size (wld (l.take i)) vp pv)∧Hid (Below W.heap.size W wr)) (fun iv _=>L - (intOf iv).toNat)
  case atStart=>exact ⟨0,rfl,Nat.zero_le _,H2,B2⟩
  case round =>
    clear H2 B2
    obtain ⟨i,rfl,hi,hHW,hB⟩:=hrel
    by_cases hlt:i<L
    · obtain ⟨c,hc⟩:∃ c,l[i]?=some c:=⟨_,List.getElem?_eq_getElem (by rw [HL.out];exact hlt)⟩
      obtain ⟨bk,o,rfl,hbk,hcl⟩:=HI.out (fun e=>by rw [e] at hc;simp at hc)
      obtain ⟨vi,vm,hcell,hin⟩:=hcl i c hc
      have bel:Below W.heap.size W wr:=hB.out
      have p0:wr.cell? ⟨bk,o+i * 6,none⟩=some (.string c.nm):=(bel.cell (p:=⟨bk,o+i * 6,none⟩) hbk).trans (hcell 0 _ rfl)
      have p1:wr.cell? ⟨bk,o+i * 6+1,none⟩=some (.string c.su):=(bel.cell (p:=⟨bk,o+i * 6+1,none⟩) hbk).trans (hcell 1 _ rfl)
      have p2:wr.cell? ⟨bk,o+i * 6+2,none⟩=some vi:=(bel.cell (p:=⟨bk,o+i * 6+2,none⟩) hbk).trans (hcell 2 _ rfl)
      have p3:wr.cell? ⟨bk,o+i * 6+3,none⟩=some (.int .i64 c.fl):=(bel.cell (p:=⟨bk,o+i * 6+3,none⟩) hbk).trans (hcell 3 _ rfl)
      have p4:wr.cell? ⟨bk,o+i * 6+4,none⟩=some (.int .i64 c.ld):=(bel.cell (p:=⟨bk,o+i * 6+4,none⟩) hbk).trans (hcell 4 _ rfl)
      have p5:wr.cell? ⟨bk,o+i * 6+5,none⟩=some vm:=(bel.cell (p:=⟨bk,o+i * 6+5,none⟩) hbk).trans (hcell 5 _ rfl)
      have hWI:WI (wld (l.take i)):=wld_wi _ (fun c hc=>HCW.out c (List.mem_of_mem_take hc))
      have HD:Hid (Calls Tryz.prog 10 #[.pointer (some ⟨W.heap.size+1,0,none⟩),.agg #[.string c.nm,.string c.su,vi,.int .i64 c.fl,.int .i64 c.ld,vm]] wr fun e w'=>(∃ u,e=.returned u)∧Hid (∃ vp pv,HW w' W.heap.size (W.heap.size+1) W.heap.size (wld (l.take (i+1))) vp pv)∧Hid (Below W.heap.size W w')):=by
        obtain ⟨vp,pv,hw⟩:=hHW.out
        refine (define_any W.heap.size (W.heap.size+1) W.heap.size _ vp pv c vi vm wr hw hB.out.size (hin.keep bel) hWI.nm).mono ?_
        rintro e w' ⟨rfl,hw',hb',_⟩
        rw [wld_at hc]
        exact ⟨⟨_,rfl⟩,hw',hB.out.trans hb'⟩
      clear hcl hcell hin hc bel hWI hHW hB HI
      go_wp2_with (go_at_call 10;refine HD.out.mono ?_;rintro e w3 ⟨⟨u3,rfl⟩,hw3,hb3⟩;clear HD)
      go_roundw
      case rel=>exact ⟨i+1,by go_num,by omega,hw3,hb3⟩
      case measure=>simp [intOf];omega
    · have e:i=L:=by omega
      subst e
      have HF:Hid (WAt (W.heap.size+1) (wld l) wr):=by
        obtain ⟨vp,pv,hw⟩:=hHW.out
        rw [List.take_of_length_le (by rw [HL.out];exact Nat.le_refl _)] at hw
        exact hw.wat
      clear hHW HI
      go_wp2
      exact bodyPost_ret (results_tmp rfl _ _ _) rfl ⟨⟨_,rfl,HF.out⟩,hB.out⟩
structure DB (N q:Nat) (D:List Nat) (j:Nat) (w:World) (a1:Option Addr) (c1:Nat) (a2:Option Addr) (c2:Nat):Prop where
  blk:w.heap[q]?=some (.cells #[.slice a1 (min j 8) c1,.slice a2 (j - 8) c2,.slice none 0 0] 86 (0,0))
  one:w.ownsRow N 3 1 (.slice a1 (min j 8) c1) (min j 8) ((D.take (min j 8)).map numV)
  two:∃ T,N≤T∧T≤w.heap.size∧(∀ x,(Value.slice a1 (min j 8) c1).ownBlock=some x→x<T)∧w.ownsRow T 3 1 (.slice a2 (j - 8) c2) (j - 8) (((D.take j).drop 8).map numV)
  few:j≤8→a2=none∧c2=0
theorem DB.start (N q:Nat) (D:List Nat) (w:World) (hN:N≤w.heap.size) (h:w.heap[q]?=some (.cells #[.slice none 0 0,.slice none 0 0,.slice none 0 0] 86 (0,0))):DB N q D 0 w none 0 none 0 :=
  ⟨h,World.ownsRow_nil _ _ _ _,⟨N,Nat.le_refl _,hN,fun x hx=>by simp [Value.ownBlock] at hx,by rw [List.take_zero];exact World.ownsRow_nil _ _ _ _⟩,fun _=>⟨rfl,rfl⟩⟩
theorem set3 {w:World} {n:Nat} {t:TypeId} {a0 a1 a2:Value} (h:w.heap[n]?=some (.cells #[a0,a1,a2] t (0,0))) (v:Value):(w.setCell ⟨n,0,none⟩ v).heap[n]?=some (.cells #[v,a1,a2] t (0,0))∧(w.setCell ⟨n,1,none⟩ v).heap[n]?=some (.cells #[a0,v,a2] t (0,0))∧(w.setCell ⟨n,2,none⟩ v).heap[n]?=some (.cells #[a0,a1,v] t (0,0)) :=
  ⟨(Go.Joins.block_setCell (i:=0) h v).trans (by simp),(Go.Joins.block_setCell (i:=1) h v).trans (by simp),(Go.Joins.block_setCell (i:=2) h v).trans (by simp)⟩
theorem own4 {w:World} {N n d r:Nat} {v:Value} {xs:List Value} (h:w.ownsRow N 3 1 v n xs) (hr:r<N) (hd:d<N) (x y z u:Value):((((w.setCell ⟨d,2,none⟩ x).setCell ⟨r,0,none⟩ y).setCell ⟨r,1,none⟩ z).setCell ⟨r,2,none⟩ u).ownsRow N 3 1 v n xs :=
  ownsRow_setCell_below (ownsRow_setCell_below (ownsRow_setCell_below (ownsRow_setCell_below h hd _) hr _) hr _) hr _
theorem DB.put1 {N q:Nat} {D:List Nat} {j x g cap:Nat} {w w5:World} {o:Obj} {a1:Option Addr} {c1:Nat} {a2:Option Addr} {c2:Nat} (h:DB N q D j w a1 c1 a2 c2) (hq:q<N) (hj:j<8) (hx:D[j]?=some x) (hown:w5.ownsRow N 3 1 (.slice (some ⟨g,0,none⟩) (min j 8+1) cap) (min j 8+1) ((D.take (min j 8)).map numV++[numV x])) (hg:(w.drew.alloc o).grownBy w5 (Value.slice a1 (min j 8) c1).ownBlock):DB N q D (j+1) (w5.setCell ⟨q,0,none⟩ (.slice (some ⟨g,0,none⟩) (min j 8+1) cap)) (some ⟨g,0,none⟩) cap none 0:=by
  have e1:min (j+1) 8=j+1:=by omega
  have e2:min j 8=j:=by omega
  have e3:j+1 - 8=0:=by omega
  obtain ⟨e4,e5⟩:=h.few (by omega)
  have e6:j - 8=0:=by omega
  have hql:q<w.heap.size:=(Array.getElem?_eq_some_iff.1 h.blk).1
  have hb5:w5.heap[q]?=some (.cells #[.slice a1 (min j 8) c1,.slice none 0 0,.slice none 0 0] 86 (0,0)):=by
    have hb:=h.blk
    rw [e4,e5,e6] at hb
    refine (hg.block q (by simp;omega) (fun e=>?_)).trans ((Below.heap_alloc _ _ _ (by simpa using hql)).trans hb)
    have:=(h.one.lt q e.symm).1
    omega
  have hL:(D.take (j+1)).map numV=(D.take j).map numV++[numV x]:=by rw [List.take_add_one,hx,Option.toList_some,List.map_append];rfl
  rw [e2] at hown ⊢
  refine ⟨?_,?_,⟨w5.heap.size,?_,?_,?_,?_⟩,fun _=>⟨rfl,rfl⟩⟩
  · rw [e1,e3];exact (set3 hb5 _).1
  · rw [e1,hL];exact ownsRow_setCell_below hown hq _
  · have:=(hown.lt g rfl)
    omega
  · simp
  · rw [e1];exact fun x hx=>(hown.lt x hx).2
  · rw [e3,List.drop_of_length_le (by rw [List.length_take];omega)];exact World.ownsRow_nil _ _ _ _
theorem DB.put2 {N q:Nat} {D:List Nat} {j x g cap T:Nat} {w w5:World} {o:Obj} {a1:Option Addr} {c1:Nat} {a2:Option Addr} {c2:Nat} (h:DB N q D j w a1 c1 a2 c2) (hq:q<N) (hj:¬ j<8) (hjl:j<D.length) (hx:D[j]?=some x) (hT:N≤T∧T≤w.heap.size∧(∀ x,(Value.slice a1 (min j 8) c1).ownBlock=some x→x<T)∧w.ownsRow T 3 1 (.slice a2 (j - 8) c2) (j - 8) (((D.take j).drop 8).map numV)) (hown:w5.ownsRow T 3 1 (.slice (some ⟨g,0,none⟩) (j - 8+1) cap) (j - 8+1) (((D.take j).drop 8).map numV++[numV x])) (hg:(w.drew.alloc o).grownBy w5 (Value.slice a2 (j - 8) c2).ownBlock):DB N q D (j+1) (w5.setCell ⟨q,1,none⟩ (.slice (some ⟨g,0,none⟩) (j - 8+1) cap)) a1 c1 (some ⟨g,0,none⟩) cap:=by
  have e1:min (j+1) 8=min j 8:=by omega
  have e3:j+1 - 8=j - 8+1:=by omega
  have hql:q<w.heap.size:=(Array.getElem?_eq_some_iff.1 h.blk).1
  obtain ⟨t1,t2,t3,t4⟩:=hT
  have hb5:w5.heap[q]?=some (.cells #[.slice a1 (min j 8) c1,.slice a2 (j - 8) c2,.slice none 0 0] 86 (0,0)):=by
    refine (hg.block q (by simp;omega) (fun e=>?_)).trans ((Below.heap_alloc _ _ _ (by simpa using hql)).trans h.blk)
    have:=(t4.lt q e.symm).1
    omega
  have hL:((D.take (j+1)).drop 8).map numV=((D.take j).drop 8).map numV++[numV x]:=by
    rw [List.take_add_one,hx,Option.toList_some,List.drop_append_of_le_length (by rw [List.length_take];omega),List.map_append];rfl
  refine ⟨?_,?_,⟨T,t1,?_,?_,?_⟩,fun hh=>absurd hh (by omega)⟩
  · rw [e1,e3];exact (set3 hb5 _).2.1
  · rw [e1]
    refine ownsRow_setCell_below ?_ hq _
    refine ((h.one.drew).alloc o).kept hg ?_
    cases hv:(Value.slice a1 (min j 8) c1).ownBlock with
    | none=>exact .inl rfl
    | some y =>
      refine .inr fun e=>?_
      have y1:=t3 y hv
      have y2:=(t4.lt y e.symm).1
      omega
  · have:=hg.size
    simp at this ⊢
    omega
  · rw [e1];exact t3
  · rw [e3,hL];exact ownsRow_setCell_below hown (show q<T by omega) _
theorem DB.bel {M N q:Nat} {w0 w w5:World} {o:Obj} {i T n c:Nat} {a:Option Addr} {xs:List Value} {v:Value} (hB:Below M w0 w) (hM:M≤w.heap.size) (hMq:M≤q) (hMT:M≤T) (h:w.ownsRow T 3 1 (.slice a n c) n xs) (hg:(w.drew.alloc o).grownBy w5 (Value.slice a n c).ownBlock):Below M w0 (w5.setCell ⟨q,i,none⟩ v):=by
  have hN:N=N:=rfl
  refine Below.setCell (p:=⟨q,i,none⟩) ?_ hMq _
  refine Below.grown (w:=w.drew.alloc o) ((hB.drew).alloc (by simpa using hM) o) hg (by simp;omega) (fun k hk=>?_)
  have:=(h.lt k hk).1
  omega
set_option maxHeartbeats 8000000 in
theorem r15b_w (W:World) (b:Nat) (x:Int) (l D C:List Nat) (n k:Nat) (HN:Hid (l.length=n)) (HD:Hid (D=l.reverse)) (HK:Hid (C.length=k)) (hn:n≤300)
    (HC:Hid (∀ w,Below W.heap.size W w→Calls Tryz.prog 29 #[.pointer (some ⟨b,0,none⟩),.int .i64 x] w fun e w'=>NumsA (l,0) e w'∧Below w.heap.size w w'))
    (HCL:Hid (∀ w,Below W.heap.size W w→Calls Tryz.prog 30 #[.pointer (some ⟨b,0,none⟩),.int .i64 x] w fun e w'=>(∃ v,e=.returned (.tuple #[v,.int .i64 0])∧w'.ownsRow w.heap.size 3 1 v k (C.map numV))∧Below w.heap.size w w')) :
    Calls Tryz.prog 50 #[.pointer (some ⟨b,0,none⟩),.int .i64 x] W fun e w'=>(∃ v1 v2 v3,e=.returned (.tuple #[.agg #[v1,v2,v3],.int .i64 0])∧w'.ownsRow W.heap.size 3 1 v1 (D.take 8).length ((D.take 8).map numV)∧w'.ownsRow W.heap.size 3 1 v2 (D.drop 8).length ((D.drop 8).map numV)∧w'.ownsRow W.heap.size 3 1 v3 C.length (C.map numV))∧Below W.heap.size W w':=by
  obtain ⟨i0,hi0,hz0,hz1,hz2⟩:=info_parts Tryz.hinfoInt
  go_enter Tryz.func50,Tryz.ntmps50
  go_wp2_with (go_at_call 29;refine (HC.out _ (by repeat (first|exact Below.refl _ _|refine Below.setCell ?_ (by simp;try omega) _|refine Below.alloc ?_ (by simp;try omega) _|refine Below.drew ?_))).mono ?_;rintro e w1 ⟨⟨ca,cc,rfl,hr⟩,hb⟩;simp only [HN.out] at hr ⊢;have R1:Hid (Rds w1 (.slice ca n cc) n 1 (l.map numV)):=hr;have B1:Hid (Below W.heap.size W w1):=bstep (by repeat (first|exact Below.refl _ _|refine Below.setCell ?_ (by simp;try omega) _|refine Below.alloc ?_ (by simp;try omega) _|refine Below.drew ?_)) hb;have rrd:=kp3 (n:=W.heap.size) hb (by simp) (halloc1 _ _);obtain ⟨rrB,rr0,rr1,rr2,rrf,rrL,rrN⟩:=rrd;clear hr hb HC)
  go_loopw [9] (fun iv wr=>∃ (j:Nat) (a1:Option Addr) (c1:Nat) (a2:Option Addr) (c2:Nat),iv=.int .i64 ((n:Int) - 1 - (j:Int))∧j≤n∧Hid (DB (w1.heap.size+1) w1.heap.size D j wr a1 c1 a2 c2)∧Hid (Below w1.heap.size w1 wr)) (fun iv _=>((intOf iv)+1).toNat)
  case atStart=>exact ⟨0,none,0,none,0,by simp,Nat.zero_le _,DB.start _ _ _ _ (by simp) (halloc1 _ _),(Below.refl _ _).alloc (Nat.le_refl _) _⟩
  case round =>
    obtain ⟨j,a1,c1,a2,c2,rfl,hjn,hDB,hB⟩:=hrel
    obtain ⟨q0,q1,q2,qf,qqL⟩:=rw3 hDB.out.blk
    by_cases hlt:j<n
    · obtain ⟨i,hi⟩:∃ i:Nat,(n:Int) - 1 - (j:Int)=(i:Int):=⟨n - 1 - j,by omega⟩
      have hin:(i:Int)<(n:Int):=by omega
      have hi0':¬ (i:Int)<0:=by omega
      have hdj:j<D.length:=by rw [HD.out,List.length_reverse,HN.out];exact hlt
      obtain ⟨y,hy⟩:∃ y,D[j]?=some y:=⟨_,List.getElem?_eq_getElem hdj⟩
      have HY:Hid (D[j]?=some y):=hy
      have hy2:l[i]?=some y:=by
        have:=hy
        rw [HD.out,List.getElem?_reverse (by rw [HN.out];exact hlt),HN.out] at this
        rw [show i=n - 1 - j by omega];exact this
      rcases R1.out.val with ⟨_,e⟩|⟨g,o,cap,e,_,_,hg,hcs⟩
      · exact absurd e (by omega)
      injection e with e1 _ e2
      subst e1 e2
      have hcell:=hcs i (.int .i64 (y:Int)) (by rw [List.getElem?_map,hy2];rfl)
      have hcr:wr.cell? ⟨g,o+i,none⟩=some (.int .i64 (y:Int)):=(hB.out.cell (p:=⟨g,o+i,none⟩) hg).trans hcell
      have hgl:g<wr.heap.size:=by omega
      have hgn:¬ g=wr.heap.size:=by omega
      have hqn:¬ w1.heap.size=wr.heap.size:=by omega
      rw [hi]
      have HDJ:Hid (j<D.length):=hdj
      clear hcs hcell hy hy2 hdj
      by_cases h8:j<8
      · have ROW:Hid (wr.ownsRow (w1.heap.size+1) 3 1 (.slice a1 (min j 8) c1) (min j 8) ((D.take (min j 8)).map numV)):=hDB.out.one
        have hm:((min j 8:Nat):Int)<8:=by omega
        have hm2:min (j:Int) 8<8:=by omega
        have hm3:min j 8<8:=by omega
        go_upto_region 9 with fail
        go_region_law (refine step_append_lies _ rfl (.tmp 32) (.tmp 37) 37 rfl (w1.heap.size+1) 3 i0 (.int .i64 0) 1 8 Tryz.underlying37 hi0 hz0 hz1 hz2 rfl (by decide) (.slice a1 (min j 8) c1) (min j 8) ((D.take (min j 8)).map numV) (by simp [Act.eval]) ((ROW.out.drew).alloc _) ⟨wr.heap.size,0,none⟩ 1 1 [.int .i64 (y:Int)] (by simp [Act.eval]) rfl (World.news_of_block (heap_alloc_new _ _)) ?_ (by decide) ?_ ?_ ?_ _ rfl ?_;(intro u hu;simp at hu;subst hu;rfl);(unfold maxLen;omega);omega;(simp;omega);intro g5 cap5 w5 hown hgrow _ _;have O5:Hid (w5.ownsRow (w1.heap.size+1) 3 1 (.slice (some ⟨g5,0,none⟩) ((min j 8)+1) cap5) ((min j 8)+1) ((D.take (min j 8)).map numV++[numV y])):=hown;have G5:Hid ((wr.drew.alloc (.cells #[.int .i64 (y:Int)] 3)).grownBy w5 (Value.ownBlock (.slice a1 (min j 8) c1))):=hgrow;have qd5:w5.heap[w1.heap.size]?=some (.cells #[.slice a1 (min j 8) c1,.slice a2 (j - 8) c2,.slice none 0 0] 86 (0,0)):=(hgrow.block w1.heap.size (by simp;omega) (fun e=>by have:=(ROW.out.lt _ e.symm).1;omega)).trans ((Below.heap_alloc _ _ _ (by simpa using qqL)).trans hDB.out.blk);obtain ⟨q0,q1,q2,qf,qL⟩:=rw3 qd5;clear hown hgrow qd5)
        all_goals go_wp2
        all_goals exact ⟨⟨j+1,_,cap5,none,0,(by rw [show (n:Int) - 1 - ((j+1:Nat):Int)=(i:Int) - 1 by omega]),by omega,hDB.out.put1 (Nat.lt_succ_self _) h8 HY.out O5.out G5.out,DB.bel (N:=0) hB.out hB.out.size (Nat.le_refl _) (Nat.le_succ _) ROW.out G5.out⟩,by simp [intOf]⟩
      · have hm:¬ ((min j 8:Nat):Int)<8:=by omega
        have hm2:¬ min (j:Int) 8<8:=by omega
        have hm3:¬ min j 8<8:=by omega
        obtain ⟨T,hT⟩:=hDB.out.two
        have HT:Hid _:=hT
        have ROW:Hid (wr.ownsRow T 3 1 (.slice a2 (j - 8) c2) (j - 8) (((D.take j).drop 8).map numV)):=hT.2.2.2
        have hT1:=hT.1
        have hT2:=hT.2.1
        clear hT
        go_upto_region 10 with fail
        go_region_law (refine step_append_lies _ rfl (.tmp 41) (.tmp 46) 37 rfl T 3 i0 (.int .i64 0) 1 8 Tryz.underlying37 hi0 hz0 hz1 hz2 rfl (by decide) (.slice a2 (j - 8) c2) (j - 8) (((D.take j).drop 8).map numV) (by simp [Act.eval]) ((ROW.out.drew).alloc _) ⟨wr.heap.size,0,none⟩ 1 1 [.int .i64 (y:Int)] (by simp [Act.eval]) rfl (World.news_of_block (heap_alloc_new _ _)) ?_ (by decide) ?_ ?_ ?_ _ rfl ?_;(intro u hu;simp at hu;subst hu;rfl);(unfold maxLen;omega);omega;(simp;omega);intro g5 cap5 w5 hown hgrow _ _;have O5:Hid (w5.ownsRow T 3 1 (.slice (some ⟨g5,0,none⟩) ((j - 8)+1) cap5) ((j - 8)+1) (((D.take j).drop 8).map numV++[numV y])):=hown;have G5:Hid ((wr.drew.alloc (.cells #[.int .i64 (y:Int)] 3)).grownBy w5 (Value.ownBlock (.slice a2 (j - 8) c2))):=hgrow;have qd5:w5.heap[w1.heap.size]?=some (.cells #[.slice a1 (min j 8) c1,.slice a2 (j - 8) c2,.slice none 0 0] 86 (0,0)):=(hgrow.block w1.heap.size (by simp;omega) (fun e=>by have:=(ROW.out.lt _ e.symm).1;omega)).trans ((Below.heap_alloc _ _ _ (by simpa using qqL)).trans hDB.out.blk);obtain ⟨q0,q1,q2,qf,qL⟩:=rw3 qd5;clear hown hgrow qd5)
        all_goals go_wp2
        all_goals exact ⟨⟨j+1,a1,c1,_,cap5,(by rw [show (n:Int) - 1 - ((j+1:Nat):Int)=(i:Int) - 1 by omega]),by omega,hDB.out.put2 (Nat.lt_succ_self _) h8 HDJ.out HY.out HT.out O5.out G5.out,DB.bel (N:=0) hB.out hB.out.size (Nat.le_refl _) (by omega) ROW.out G5.out⟩,by simp [intOf]⟩
    · have e:j=n:=by omega
      subst e
      have hI:(j:Int) - 1 - (j:Int)=-1:=by omega
      rw [hI]
      have rrn:¬ W.heap.size=w1.heap.size:=by omega
      have rrn2:¬ w1.heap.size=W.heap.size:=by omega
      have rrd2:=kp3 (n:=W.heap.size) hB.out rrL rrB.out
      have RL1:Hid (W.heap.size<w1.heap.size):=rrL
      clear rrB rr0 rr1 rr2 rrf rrL rrN
      obtain ⟨rrB,rr0,rr1,rr2,rrf,rrL,rrN⟩:=rrd2
      have BW:Hid (Below W.heap.size W wr):=bstep B1.out hB.out
      go_wp2_with (go_at_call 30;refine (HCL.out _ BW.out).mono ?_;rintro e w6 ⟨⟨v3,rfl,ho⟩,hb⟩;obtain ⟨a3,c3,rfl⟩:=ownv ho;have C6:Hid (w6.ownsRow wr.heap.size 3 1 (.slice a3 k c3) k (C.map numV)):=ho;have B6:Hid (Below W.heap.size W w6):=bstep BW.out hb;have O1:Hid (w6.ownsRow (w1.heap.size+1) 3 1 (.slice a1 (min j 8) c1) (min j 8) ((D.take (min j 8)).map numV)):=rowBelow hDB.out.one hb;have O2:Hid (w6.ownsRow (w1.heap.size+1) 3 1 (.slice a2 (j - 8) c2) (j - 8) (((D.take j).drop 8).map numV)):=(by obtain ⟨T,t1,t2,t3,t4⟩:=hDB.out.two;exact rowBelow (Go.Joins.ownsRow_le t4 t1) hb);have SZ:Hid (w1.heap.size<wr.heap.size):=qqL;have dd:=kp3 (n:=w1.heap.size) hb qqL hDB.out.blk;clear q0 q1 q2 qf qqL;obtain ⟨qB,q0,q1,q2,qf,qL,qN⟩:=dd;have rrd:=kp3 (n:=W.heap.size) hb rrL rrB.out;clear rrB rr0 rr1 rr2 rrf rrL rrN;obtain ⟨rrB,rr0,rr1,rr2,rrf,rrL,rrN⟩:=rrd;clear hb ho HCL)
      refine bodyPost_ret (v:=.tuple #[.agg #[.slice a1 (min j 8) c1,.slice a2 (j - 8) c2,.slice a3 k c3],.int .i64 0]) (by simp [results,Tryz.results50,go_sem, *]) rfl ⟨⟨_,_,_,rfl,?_,?_,?_⟩,?_⟩
      · rw [show (D.take 8).length=min j 8 by rw [List.length_take,HD.out,List.length_reverse,HN.out];omega,show D.take 8=D.take (min j 8) by rw [show min j 8=min 8 D.length by rw [HD.out,List.length_reverse,HN.out];omega];exact List.take_eq_take_min]
        exact Go.Joins.ownsRow_le (own4 O1.out (by have:=RL1.out;omega) (Nat.lt_succ_self _) _ _ _ _) (by have:=RL1.out;omega)
      · have eD:D.take j=D:=List.take_of_length_le (by rw [HD.out,List.length_reverse,HN.out];exact Nat.le_refl _)
        have o2:=O2.out
        rw [eD] at o2
        rw [show (D.drop 8).length=j - 8 by rw [List.length_drop,HD.out,List.length_reverse,HN.out]]
        exact Go.Joins.ownsRow_le (own4 o2 (by have:=RL1.out;omega) (Nat.lt_succ_self _) _ _ _ _) (by have:=RL1.out;omega)
      · rw [HK.out]
        exact Go.Joins.ownsRow_le (own4 C6.out (by have:=RL1.out;have:=SZ.out;omega) SZ.out _ _ _ _) (by have:=RL1.out;have:=SZ.out;omega)
      · have:=B1.out.size
        exact (((B6.out.setCell (p:=⟨w1.heap.size,2,none⟩) this _).setCell (Nat.le_refl _) _).setCell (Nat.le_refl _) _).setCell (Nat.le_refl _) _
theorem r15b_no (W:World) (b:Nat) (x:Int) (HC:Hid (∀ w,Below W.heap.size W w→Calls Tryz.prog 29 #[.pointer (some ⟨b,0,none⟩),.int .i64 x] w fun e w'=>(e=.returned (.tuple #[.slice none 0 0,.int .i64 3]))∧Below w.heap.size w w')):Calls Tryz.prog 50 #[.pointer (some ⟨b,0,none⟩),.int .i64 x] W fun e w'=>e=.returned (.tuple #[.agg #[.slice none 0 0,.slice none 0 0,.slice none 0 0],.int .i64 3])∧Below W.heap.size W w':=by
  go_enter Tryz.func50,Tryz.ntmps50
  go_wp2_with (go_at_call 29;refine (HC.out _ (by repeat (first|exact Below.refl _ _|refine Below.setCell ?_ (by simp;try omega) _|refine Below.alloc ?_ (by simp;try omega) _|refine Below.drew ?_))).mono ?_;rintro e w1 ⟨rfl,hb⟩;have rrd:=kp3 (n:=W.heap.size) hb (by simp) (halloc1 _ _);obtain ⟨rrB,rr0,rr1,rr2,rrf,rrL,rrN⟩:=rrd;have B1:Hid (Below W.heap.size W w1):=bstep (by repeat (first|exact Below.refl _ _|refine Below.setCell ?_ (by simp;try omega) _|refine Below.alloc ?_ (by simp;try omega) _|refine Below.drew ?_)) hb;clear hb HC)
  exact bodyPost_ret (v:=.tuple #[.agg #[.slice none 0 0,.slice none 0 0,.slice none 0 0],.int .i64 3]) (by simp [results,Tryz.results50,go_sem, *]) rfl ⟨rfl,((B1.out.setCell (Nat.le_refl _) _).setCell (Nat.le_refl _) _).setCell (Nat.le_refl _) _⟩
theorem r15b_o {b:Nat} {cs:List Cls} {ps:List Plc} {W:World} (h:RAt b cs W) (ht:TwW cs ps) (hJ:WJ ps) (x:Int):Calls Tryz.prog 50 #[.pointer (some ⟨b,0,none⟩),.int .i64 x] W fun e w'=>(∃ v1 v2 v3,e=.returned (.tuple #[.agg #[v1,v2,v3],.int .i64 (dspR ps x).2])∧w'.ownsRow W.heap.size 3 1 v1 (dspR ps x).1.1.length ((dspR ps x).1.1.map numV)∧w'.ownsRow W.heap.size 3 1 v2 (dspR ps x).1.2.1.length ((dspR ps x).1.2.1.map numV)∧w'.ownsRow W.heap.size 3 1 v3 (dspR ps x).1.2.2.length ((dspR ps x).1.2.2.map numV))∧Below W.heap.size W w':=by
  rcases plcI_cases ps x with ⟨hn,_⟩|⟨k,q,rfl,hk,hq⟩
  · have e0:dspR ps x=(([],[],[]),3):=by rw [dspR,hn]
    rw [e0]
    refine (r15b_no W b x (fun w hb=>rChain_no6 (h.below hb) ht x hn)).mono ?_
    rintro e w' ⟨rfl,hb⟩
    exact ⟨⟨_,_,_,rfl,World.ownsRow_nil _ _ _ _,World.ownsRow_nil _ _ _ _,World.ownsRow_nil _ _ _ _⟩,hb⟩
  · have e0:dspR ps (k:Int)=(((dnL ps k).take 8,(dnL ps k).drop 8,q.cl),0):=by rw [dspR,hq];rfl
    rw [e0]
    have hd:=dn_le ht.wi (List.getElem?_eq_some_iff.1 hk).1
    rw [dn_len] at hd
    refine r15b_w W b k (chL (ps.map nd) k) (dnL ps k) q.cl _ _ rfl rfl rfl hd (fun w hb=>?_) (fun w hb=>rClosure_yes (h.below hb) ht hJ k q hk)
    have hc:=rChain_r (h.below hb) ht (k:Int)
    rw [chR,hq] at hc
    exact hc
end Go.Proofs.YtfjekhmnjfcbeaaGreat
