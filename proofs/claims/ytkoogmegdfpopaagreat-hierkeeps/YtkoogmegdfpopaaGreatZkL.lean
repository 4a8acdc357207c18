import Derived.Test.YtkoogmegdfpopaaGreatZkM
set_option maxRecDepth 100000
namespace Go.Proofs.YtkoogmegdfpopaaGreat
open Go.RowKit Go.Maps
def NumsO (N:Nat) (r:List Nat×Int) (e:Ending) (w':World):Prop:=∃ a c,e=.returned (.tuple #[.slice a r.1.length c,.int .i64 r.2])∧w'.ownsRow N 3 1 (.slice a r.1.length c) r.1.length (r.1.map numV)
theorem NumsO.of {N:Nat} {l:List Nat} {E:Int} {v:Value} {w':World} (h:w'.ownsRow N 3 1 v l.length (l.map numV)):NumsO N (l,E) (.returned (.tuple #[v,.int .i64 E])) w':=by
 obtain ⟨a,c,rfl⟩:=ownv h
 exact ⟨a,c,rfl,h⟩
theorem NumsO.nil (N:Nat) (E:Int) (w':World):NumsO N ([],E) (.returned (.tuple #[.slice none 0 0,.int .i64 E])) w':=NumsO.of (World.ownsRow_nil w' N _ _)
theorem chain_o {b:Nat} {ps:List Plc} {W:World} (h:WAt b ps W) (hW:WI ps) (x:Int):Calls Tryz.prog 17 #[.pointer (some ⟨b,0,none⟩),.int .i64 x] W fun e w'=>NumsO W.heap.size (chR ps x) e w'∧Bw W w':=by
 rcases Zu ps x with ⟨hn,_⟩|⟨k,q,rfl,hk,hq⟩
 ·refine (Zi5 h x hn).mono fun e w' zz=>⟨?_,zz.2⟩
  rw [zz.1,chR,hn]
  exact NumsO.nil _ 3 w'
 ·obtain ⟨N,mb,vp,pv,hw⟩:=h
  refine (Zi4 N b mb ps vp pv k (List.getElem?_eq_some_iff.1 hk).1 hW.wo hW.hi W hw).mono ?_
  rintro e w' ⟨v,rfl,ho,hb⟩
  rw [chR,hq]
  exact ⟨NumsO.of ho,hb⟩
theorem Zi0 {b:Nat} {ps:List Plc} {W:World} (h:WAt b ps W) (hW:WI ps) (x:Int):Calls Tryz.prog 18 #[.pointer (some ⟨b,0,none⟩),.int .i64 x] W fun e w'=>NumsO W.heap.size (clR ps x) e w'∧Bw W w':=by
 rcases Zu ps x with ⟨hn,h2⟩|⟨k,q,rfl,hk,hq⟩
 ·obtain ⟨N,mb,vp,pv,hw⟩:=h
  refine (Zg5 N b mb ps vp pv x W hw h2).mono fun e w' zz=>⟨?_,by rw [zz.2];exact Below.refl _ _⟩
  rw [zz.1,clR,hn]
  exact NumsO.nil _ 3 w'
 ·obtain ⟨N,mb,vp,pv,hw⟩:=h
  refine (Ze4 N b mb ps vp pv k q W hw hk hW.hi).mono ?_
  rintro e w' ⟨v,rfl,ho,hb⟩
  rw [clR,hq]
  exact ⟨NumsO.of ho,hb⟩
def MthO (N:Nat) (e:Ending) (w':World):Prop:=∃ nm ds fl lo st a n c E xs,e=.returned (.tuple #[.agg #[.string nm,.string ds,.int .i64 fl,.int .i64 lo,.int .i64 st,.slice a n c],.int .i64 E])∧w'.ownsRow N 56 7 (.slice a n c) n xs∧n≤1000000
theorem meth_o {b:Nat} {ps:List Plc} {W:World} (h:WAt b ps W) (hB:∀ q∈ps,PlcB q) (x y:Int):Calls Tryz.prog 16 #[.pointer (some ⟨b,0,none⟩),.agg #[.int .i64 x,.int .i64 y]] W fun e w'=>MthO W.heap.size e w'∧Bw W w':=by
 refine (method_c h hB x y).mono fun e w' zz=>⟨?_,zz.2⟩
 have z:=zz.1
 cases hm:Zdl ps x y with
 | none =>
   rw [hm] at z
   rw [show e=_ from z]
   exact ⟨_,_,_,_,_,_,_,_,_,[],rfl,World.ownsRow_nil w' _ _ _,Nat.zero_le _⟩
 | some m =>
   rw [hm] at z
   obtain ⟨v,rfl,ho⟩:=z
   obtain ⟨a,c,rfl⟩:=ownv ho
   refine ⟨_,_,_,_,_,_,_,_,_,_,rfl,ho,?_⟩
   rcases Zu ps x with ⟨h1,_⟩|⟨k,q,rfl,h2,h1⟩
   ·rw [Zdl,h1] at hm;cases hm
   ·rw [Zdl,h1] at hm
    replace hm:Zcd q y=some m:=hm
    rw [Zcd] at hm
    split at hm
    ·exact ((hB q (List.mem_of_getElem? h2)).cd m (List.mem_of_getElem? hm)).2
    ·cases hm
structure Kd (wr:World) (p:Nat) (q u:World):Prop where
 bel:Bw wr u
 wp:wr.heap.size≤p
 pq:p≤q.heap.size
 sz:q.heap.size≤u.heap.size
 kd:∀ k,p≤k→k<q.heap.size→u.heap[k]?=q.heap[k]?
section
variable {wr q u u':World} {p:Nat}
theorem Kd.step (h:Kd wr p q u) (hb:Bw u u'):Kd wr p q u' :=
 ⟨Zj h.bel hb,h.wp,h.pq,Nat.le_trans h.sz hb.size,fun k h1 h2=>(hb.block k (Nat.lt_of_lt_of_le h2 h.sz)).trans (h.kd k h1 h2)⟩
theorem Kd.far {N:Nat} (h:Kd wr p q u) (hN:q.heap.size≤N) (hb:Below N u u'):Kd wr p q u' :=
 ⟨h.bel.trans (hb.mono (Nat.le_trans (Nat.le_trans h.wp h.pq) hN)),h.wp,h.pq,Nat.le_trans h.sz hb.size,fun k h1 h2=>(hb.block k (Nat.lt_of_lt_of_le h2 hN)).trans (h.kd k h1 h2)⟩
theorem Kd.tz {S:Nat→Prop} (h:Kd wr p q u) (hs:Tz S u u') (hS:∀ k,S k→wr.heap.size≤k∧k<p):Kd wr p q u' :=
 ⟨h.bel.trans (hs.below h.bel.size (fun k hk=>(hS k hk).1)),h.wp,h.pq,Nat.le_trans h.sz hs.size,fun k h1 h2=>(hs.blk k (Nat.lt_of_lt_of_le h2 h.sz) (fun x=>by have:=(hS k x).2;omega)).trans (h.kd k h1 h2)⟩
theorem Kd.box {i:Nat} {v:Value} (h:Kd wr p q u) (hp:p<q.heap.size):Kd wr (p+1) q (u.setCell ⟨p,i,none⟩ v) :=
 ⟨h.bel.setCell (p:=⟨p,i,none⟩) h.wp _,by have:=h.wp;omega,hp,by simpa using h.sz,fun k h1 h2=>(Below.heap_setCell _ _ _ _ (by simp;omega)).trans (h.kd k (by omega) h2)⟩
theorem Kd.box' {i:Nat} {v:Value} (h:Kd wr (p+1) q u) (hp:wr.heap.size≤p):Kd wr (p+1) q (u.setCell ⟨p,i,none⟩ v) :=
 ⟨h.bel.setCell (p:=⟨p,i,none⟩) hp _,h.wp,h.pq,by simpa using h.sz,fun k h1 h2=>(Below.heap_setCell _ _ _ _ (by simp;omega)).trans (h.kd k h1 h2)⟩
theorem Kd.own {N:Nat} {vi:Value} {ni:Nat} {xi:List Value} {vm:Value} {qm:List (HM×Value)} (h:Kd wr p q u) (hN:p≤N) (ho:OwnC q N vi ni xi vm qm):OwnC u N vi ni xi vm qm:=by
 have hk:∀ k,N≤k→k<q.heap.size→u.heap[k]?=q.heap[k]?:=fun k h1 h2=>h.kd k (Nat.le_trans hN h1) h2
 exact ⟨Ya ho.ifs hk,Ya ho.ms hk,fun x hx=>Ya (ho.cod x hx) hk⟩
end
theorem ClZ.bel {w w':World} {S:Nat→Prop} {vI:Value} {nI:Nat} {vM:Value} {us:List (Value×Nat)} (h:ClZ w S vI nI vM us) (hb:Bw w w'):ClZ w' S vI nI vM us:=by
 obtain ⟨h1,⟨ys,h2,h3⟩,h4,h5,h6,h7⟩:=h
 exact ⟨h1.sh (ShK.bel hb),⟨ys,Zi h2 hb,h3⟩,h4,fun u hu=>⟨(h5 u hu).1.sh (ShK.bel hb),(h5 u hu).2⟩,h6,h7⟩
theorem apart4 (N s1 s2 s3:Nat) (W:World) (gl cl:Nat) (a1 a2 a3 a4:Option Addr) (n1 n2 n3 n4 c1 c2 c3 c4:Nat) (l1 l2 l3 l4:List Value)
 (x1:W.ownsRow N 3 1 (.slice a1 n1 c1) n1 l1) (t1:∀ k,(Value.slice a1 n1 c1).ownBlock=some k→k<s1) (x2:W.ownsRow s1 3 1 (.slice a2 n2 c2) n2 l2) (t2:∀ k,(Value.slice a2 n2 c2).ownBlock=some k→k<s2)
 (x3:W.ownsRow s2 3 1 (.slice a3 n3 c3) n3 l3) (t3:∀ k,(Value.slice a3 n3 c3).ownBlock=some k→k<s3) (x4:W.ownsRow s3 3 1 (.slice a4 n4 c4) n4 l4)
 (o1:N≤s1) (o2:s1≤s2) (o3:s2≤s3) (hN:N≤W.heap.size) (hl:W.heap[gl]?=some (.cells #[.slice a1 n1 c1,.slice a2 n2 c2,.slice a3 n3 c3,.slice a4 n4 c4] 57 (0,0)))
 (z1:n1≤1000000) (z2:n2≤1000000) (z3:n3≤1000000) (z4:n4≤1000000) :
 Calls Tryz.prog 19 #[.slice (some ⟨gl,0,none⟩) 4 cl] W fun e w'=>e=.returned (.bool true)∧Below N W w':=by
 let R:List SlT:=[(a1,n1,c1),(a2,n2,c2),(a3,n3,c3),(a4,n4,c4)]
 have six:∀ (j:Nat) (r:SlT),R[j]?=some r→(j=0∧r=(a1,n1,c1))∨(j=1∧r=(a2,n2,c2))∨(j=2∧r=(a3,n3,c3))∨(j=3∧r=(a4,n4,c4)):=fun j r hj=>by
  have hlt:j<4:=(List.getElem?_eq_some_iff.1 hj).1
  have:j=0∨j=1∨j=2∨j=3:=by omega
  rcases this with rfl|rfl|rfl|rfl <;> (simp [R] at hj;subst hj;simp)
 have lie:∀ (j:Nat) (r:SlT) (k:Nat),R[j]?=some r→(slV r).ownBlock=some k→((j=0∧k<s1)∨(j=1∧s1≤k∧k<s2)∨(j=2∧s2≤k∧k<s3)∨(j=3∧s3≤k)):=fun j r k hj hk=>by
  rcases six j r hj with ⟨rfl,rfl⟩|⟨rfl,rfl⟩|⟨rfl,rfl⟩|⟨rfl,rfl⟩
  ·have h2:=t1 k hk;omega
  ·have h1:=(x2.lt k hk).1;have h2:=t2 k hk;omega
  ·have h1:=(x3.lt k hk).1;have h2:=t3 k hk;omega
  ·have h1:=(x4.lt k hk).1;omega
 have S:NaS N R W:=by
  refine ⟨fun j r hj=>?_,fun j j' r r' k h1 h2 e1 e2=>?_,hN⟩
  ·rcases six j r hj with ⟨rfl,rfl⟩|⟨rfl,rfl⟩|⟨rfl,rfl⟩|⟨rfl,rfl⟩
   ·exact ⟨_,x1⟩
   ·exact ⟨_,Go.Joins.ownsRow_le x2 (by omega)⟩
   ·exact ⟨_,Go.Joins.ownsRow_le x3 (by omega)⟩
   ·exact ⟨_,Go.Joins.ownsRow_le x4 (by omega)⟩
  ·have p1:=lie j r k h1 e1
   have p2:=lie j' r' k h2 e2
   omega
 refine (apart_c N R W gl cl S hl (by simp [R]) (fun j r hj=>?_)).mono ?_
 ·rcases six j r hj with ⟨rfl,rfl⟩|⟨rfl,rfl⟩|⟨rfl,rfl⟩|⟨rfl,rfl⟩ <;> assumption
 ·rintro e w' ⟨rfl,hk⟩
  exact ⟨rfl,hk.1⟩
theorem ch_lenz {ps:List Plc} (h:WI ps) (a:Int):(chR ps a).1.length≤1000000:=by
 rw [chR]
 rcases Zu ps a with ⟨hn,_⟩|⟨k,q,rfl,hk,hq⟩
 ·rw [hn];simp
 ·rw [hq]
  exact Nat.le_trans (chL_len h (List.getElem?_eq_some_iff.1 hk).1) (by omega)
theorem cl_lenz {ps:List Plc} (h:WI ps) (a:Int):(clR ps a).1.length≤1000000:=by
 rw [clR]
 rcases Zu ps a with ⟨hn,_⟩|⟨k,q,rfl,hk,hq⟩
 ·rw [hn];simp
 ·rw [hq]
  have h1:=wi_cl h hk
  have h2:=h.hi
  show q.cl.length≤1000000
  omega
set_option maxHeartbeats 4000000 in
theorem Zcy (v:Value) (l:List Cls) (a:Int) (W:World) (h:Zef W v l) (hz:∀ c∈l,ClsY c):Calls Tryz.prog 3 #[v,.int .i64 a] W fun e w'=>e=.returned (.bool true)∧Bw W w':=by
 have hCW:=clss_w h
 obtain ⟨ao,cap,rfl,h1,h2,h3⟩:=h
 unfold maxLen at h2
 obtain ⟨L,hL⟩:∃ L,l.length=L:=⟨_,rfl⟩
 have HL:Hid (l.length=L):=hL
 have HI:Hid _:=h3
 have HCW:Hid (∀ c∈l,ClsW c):=hCW
 have HZ:Hid (∀ c∈l,ClsY c):=hz
 rw [hL] at h1 ⊢
 clear hL h3 hCW hz
 have HA:Hid (∀ w:World,Calls Tryz.prog 4 #[] w fun e w'=>e=.returned (.bool true)∧Bw w w'):=Zja
 have HN:Hid (∀ w:World,Calls Tryz.prog 5 #[] w fun e w'=>e=.returned (.pointer (some ⟨w.heap.size+1,0,none⟩))∧(∃ vp pv,HW w' w.heap.size (w.heap.size+1) w.heap.size P3 vp pv)∧Bw w w'):=Zic
 have HM:Hid (∀ w:World,Calls Tryz.prog 6 #[] w fun e w'=>∃ b v rs,e=.returned (.pointer (some ⟨b,0,none⟩))∧RW w' w.heap.size b v rs∧rs.map CR.c=C3∧Bw w w'):=rNew_c
 go_enter Tryz.func3,Tryz.ntmps3
 go_upto_region 5 with (first
  | (go_at_call 4;refine (HA.out _).mono ?_;rintro e w1 ⟨rfl,hb⟩;have B1:Hid (Bw W w1):=hb;clear hb HA)
  | (go_at_call 5;refine (HN.out _).mono ?_;rintro e w2 ⟨rfl,hw,hb⟩;have H2:Hid (∃ vp pv,HW w2 w1.heap.size (w1.heap.size+1) w1.heap.size P3 vp pv):=hw;have B2:Hid (Bw w1 w2):=hb;clear hb hw HN)
  | (go_at_call 6;refine (HM.out _).mono ?_;rintro e w3 ⟨b',v3,rs3,rfl,hw,hc3,hb⟩;have H3:Hid (TwoW w1 (w1.heap.size+1) w1.heap.size b' (wld (l.take 0)) (wldC (l.take 0)) w3):=⟨(by obtain ⟨vp,pv,hh⟩:=H2.out;exact ⟨vp,pv,hh.below hb⟩),⟨w2.heap.size,v3,rs3,B2.out.size,hb.size,hw,hc3⟩,Zj B2.out hb⟩;clear hb hw hc3 HM H2 B2))
 go_wp2
 go_loopw [7] (fun iv wr=>∃ (i:Nat),iv=.int .i64 i∧i≤L∧Hid (TwoW w1 (w1.heap.size+1) w1.heap.size b' (wld (l.take i)) (wldC (l.take i)) wr)) (fun iv _=>L - (intOf iv).toNat)
 case atStart=>exact ⟨0,rfl,Nat.zero_le _,H3.out⟩
 case round =>
  clear H3
  obtain ⟨i,rfl,hi,hT⟩:=hrel
  by_cases hlt:i<L
  ·obtain ⟨c,hc⟩:∃ c,l[i]?=some c:=⟨_,List.getElem?_eq_getElem (by rw [HL.out];exact hlt)⟩
   obtain ⟨bk,o,rfl,hbk,hcl⟩:=HI.out (fun e=>by rw [e] at hc;simp at hc)
   obtain ⟨vi,vm,hcell,hin⟩:=hcl i c hc
   have bel:Bw W wr:=Zj B1.out hT.out.2.2
   have HQ:Hid (∀ w:World,Bw w1 w→w.cell? ⟨bk,o+i * 6,none⟩=some (.string c.nm)∧w.cell? ⟨bk,o+i * 6+1,none⟩=some (.string c.su)∧w.cell? ⟨bk,o+i * 6+2,none⟩=some (vi)∧w.cell? ⟨bk,o+i * 6+3,none⟩=some (.int .i64 c.fl)∧w.cell? ⟨bk,o+i * 6+4,none⟩=some (.int .i64 c.ld)∧w.cell? ⟨bk,o+i * 6+5,none⟩=some (vm)):=fun w b1=>by
    have bel:=Zj B1.out b1
    exact ⟨(bel.cell (p:=⟨bk,o+i * 6,none⟩) hbk).trans (hcell 0 _ rfl),(bel.cell (p:=⟨bk,o+i * 6+1,none⟩) hbk).trans (hcell 1 _ rfl),(bel.cell (p:=⟨bk,o+i * 6+2,none⟩) hbk).trans (hcell 2 _ rfl),(bel.cell (p:=⟨bk,o+i * 6+3,none⟩) hbk).trans (hcell 3 _ rfl),(bel.cell (p:=⟨bk,o+i * 6+4,none⟩) hbk).trans (hcell 4 _ rfl),(bel.cell (p:=⟨bk,o+i * 6+5,none⟩) hbk).trans (hcell 5 _ rfl)⟩
   obtain ⟨p0,p1,p2,p3,p4,p5⟩:=HQ.out wr hT.out.2.2
   have hTk:∀ c∈l.take i,ClsW c:=fun c hc=>HCW.out c (List.mem_of_mem_take hc)
   have hTw:Twin (wldC (l.take i)) (wld (l.take i)):=Zae l HCW.out i
   have hWI:WI (wld (l.take i)):=wld_wi _ hTk
   have hNm:NmW (wld (l.take i)):=nmW _ hTk
   have hmem:c∈l:=List.mem_of_getElem? hc
   have hzc:=HZ.out c hmem
   have hwc:=HCW.out c hmem
   obtain ⟨K,E,hKE⟩:∃ K E,dfV (wld (l.take i)).length (defN (wld (l.take i)) c)=.tuple #[.int .i64 K,.int .i64 E]:=by
    cases defN (wld (l.take i)) c with
    | ok p=>exact ⟨_,_,rfl⟩
    | error x=>exact ⟨_,_,rfl⟩
   have HR:Hid (Calls Tryz.prog 7 #[.agg #[.string c.nm,.string c.su,vi,.int .i64 c.fl,.int .i64 c.ld,vm]] wr fun e w'=>(∃ rb vi' vm' gi ci gm cm us vC qm,e=.returned (.pointer (some ⟨rb,0,none⟩))∧RoomK w' wr.heap.size rb c vi' vm' gi ci gm cm us vC qm)∧Bw wr w'):=Zgd c vi vm wr (hin.keep bel) hzc
   have HD:Hid (∀ (w:World) (vi' vm':Value),Bw wr w→ClsIn w vi' vm' c→Calls Tryz.prog 8 #[.pointer (some ⟨w1.heap.size+1,0,none⟩),.agg #[.string c.nm,.string c.su,vi',.int .i64 c.fl,.int .i64 c.ld,vm']] w fun e w'=>e=.returned (.tuple #[.int .i64 K,.int .i64 E])∧Mid w1 wr w w' (w1.heap.size+1) w1.heap.size b' (wld (l.take (i+1))) (wldC (l.take i))∧Jc Zee w w'∧Below w1.heap.size w w'):=by
    intro w vi' vm' hb hci
    refine (mid_hier (Mid.start hT.out hb) hWI c vi' vm' hci).mono ?_
    rintro e w' ⟨rfl,ht⟩
    rw [wld_at hc]
    exact ⟨by rw [hKE],ht⟩
   have HE:Hid (∀ u w:World,Mid w1 wr u w (w1.heap.size+1) w1.heap.size b' (wld (l.take (i+1))) (wldC (l.take i))→Calls Tryz.prog 9 #[.pointer (some ⟨b',0,none⟩),.agg #[.string c.nm,.string c.su,vi,.int .i64 c.fl,.int .i64 c.ld,vm]] w fun e w'=>e=.returned (.tuple #[.int .i64 K,.int .i64 E])∧Mid w1 wr u w' (w1.heap.size+1) w1.heap.size b' (wld (l.take (i+1))) (wldC (l.take (i+1)))∧Jc KRef w w'∧Below w1.heap.size w w'):=by
    intro u w hw
    refine (mid_ref hw hTw hWI c vi vm (hin.keep (Zj B1.out hw.bel))).mono ?_
    rintro e w' ⟨rfl,ht⟩
    rw [Zhf hc]
    exact ⟨by rw [two_say hTw hNm c,hKE],ht⟩
   have HZC:Hid (ClsY c∧ClsW c):=⟨hzc,hwc⟩
   clear hcl hcell hin hc bel hWI hT HI hTw hTk hmem hKE hNm hzc hwc
   go_upto_region 11 with (first
    | (go_at_call 7;refine HR.out.mono ?_;rintro e w4 ⟨⟨rb,vi',vm',gi,ci,gm,cm,us,vC,qm,rfl,hk⟩,hb4⟩;have RK4:Hid (RoomK w4 wr.heap.size rb c vi' vm' gi ci gm cm us vC qm):=hk;have B4:Hid (Bw wr w4):=hb4;obtain ⟨k0,k1,k2,k3,k4,k5⟩:=hk.six;clear hb4 HR hk p0 p1 p2 p3 p4 p5)
    | (go_at_call 8;refine (HD.out _ _ _ B4.out (RK4.out.clsIn HZC.out.2)).mono ?_;rintro e w5 ⟨rfl,hm,hk,hb5⟩;have M5:Hid (Mid w1 wr w4 w5 (w1.heap.size+1) w1.heap.size b' (wld (l.take (i+1))) (wldC (l.take i))):=hm;have RK5:Hid (RoomK w5 wr.heap.size rb c vi' vm' gi ci gm cm us vC qm):=RK4.out.keptK hk he_hier;obtain ⟨q0,q1,q2,q3,q4,q5⟩:=HQ.out w5 hm.bel;clear hm hk hb5 k0 k1 k2 k3 k4 k5 HD B4)
    | (go_at_call 9;refine (HE.out _ _ M5.out).mono ?_;rintro e w6 ⟨rfl,hm,hk,hb6⟩;have M6:Hid (Mid w1 wr w4 w6 (w1.heap.size+1) w1.heap.size b' (wld (l.take (i+1))) (wldC (l.take (i+1)))):=hm;have RK6:Hid (RoomK w6 wr.heap.size rb c vi' vm' gi ci gm cm us vC qm):=RK5.out.keptK hk he_ref;clear hm hk hb6 HE HQ M5 RK5 q0 q1 q2 q3 q4 q5))
   obtain ⟨aC,cC,hkz⟩:=RK6.out.kpz (by have:=HZC.out.1.1;omega) (by have:=HZC.out.1.2.1;omega) (fun m hm=>by have:=HZC.out.1.2.2 m hm;omega) HZC.out.2
   have HK:Hid (Calls Tryz.prog 10 #[.pointer (some ⟨rb,0,none⟩)] w6 fun e w'=>e=.returned (.bool true)∧Bw w6 w'):=kept_c hkz
   clear hkz
   have kK:(K != K)=false:=by simp
   have kE:(E != E)=false:=by simp
   go_wp2_with (first
    | (go_at_call 10;refine HK.out.mono ?_;rintro e w7 ⟨rfl,hb⟩;have M7:Hid (Mid w1 wr w4 w7 (w1.heap.size+1) w1.heap.size b' (wld (l.take (i+1))) (wldC (l.take (i+1)))):=M6.out.below hb;have RK7:Hid (RoomK w7 wr.heap.size rb c vi' vm' gi ci gm cm us vC qm):=RK6.out.keep (fun k _ hk=>hb.block k hk);clear hb HK M6 RK6)
    | (go_at_call 11;refine (spoil_c (RK7.out.rmz RK4.out)).mono ?_;rintro e w8 ⟨rfl,hs⟩;have T8:Hid (TwoW w1 (w1.heap.size+1) w1.heap.size b' (wld (l.take (i+1))) (wldC (l.take (i+1))) w8):=M7.out.spoil hs;clear hs M7 RK7 RK4))
   exact ⟨⟨i+1,by go_num,by omega,T8⟩,by simp [intOf];omega⟩
  ·have e:i=L:=by omega
   subst e
   have HF:Hid (TwoW w1 (w1.heap.size+1) w1.heap.size b' (wld l) (wldC l) wr):=by
    have:=hT.out
    rw [List.take_of_length_le (by rw [HL.out];exact Nat.le_refl _)] at this
    exact this
   clear hT HI
   obtain ⟨we,rfl⟩:∃ we,we=wr:=⟨_,rfl⟩
   have hCW:∀ c∈l,ClsW c:=HCW.out
   have hTW:TwW (wldC l) (wld l):=twW l hCW
   obtain ⟨⟨vp,pv,f1⟩,⟨M0,v0,rs0,_,_,f4,f5⟩,f6⟩:=HF.out
   have HWA:Hid (∀ w,Bw we w→WAt (w1.heap.size+1) (wld l) w):=fun w hb=>WAt.below f1.wat hb
   have HRA:Hid (∀ w,Bw we w→RAt b' (wldC l) w):=fun w hb=>RAt.below ⟨_,_,_,f4,f5⟩ hb
   have HBW:Hid (Bw W we):=Zj B1.out f6
   obtain ⟨c,E,n1,n2,n3,hc1,hc2⟩:=two_own hTW a
   have HC1:Hid (∀ w,Bw we w→Calls Tryz.prog 12 #[.pointer (some ⟨w1.heap.size+1,0,none⟩),.int .i64 a] w fun e w'=>ClsO w.heap.size c E e w'∧Bw w w'):=fun w hb=>hc1 _ w (HWA.out w hb)
   have HC2:Hid (∀ w,Bw we w→Calls Tryz.prog 13 #[.pointer (some ⟨b',0,none⟩),.int .i64 a] w fun e w'=>ClsO w.heap.size c E e w'∧Bw w w'):=fun w hb=>hc2 _ w (HRA.out w hb)
   have HMt:Hid (∀ w,Bw we w→Calls Tryz.prog 16 #[.pointer (some ⟨w1.heap.size+1,0,none⟩),.agg #[.int .i64 a,.int .i64 0]] w fun e w'=>MthO w.heap.size e w'∧Bw w w'):=fun w hb=>meth_o (HWA.out w hb) hTW.wi.pb a 0
   have HCh:Hid (∀ w,Bw we w→Calls Tryz.prog 17 #[.pointer (some ⟨w1.heap.size+1,0,none⟩),.int .i64 a] w fun e w'=>NumsO w.heap.size (chR (wld l) a) e w'∧Bw w w'):=fun w hb=>chain_o (HWA.out w hb) hTW.wi a
   have HCl:Hid (∀ w,Bw we w→Calls Tryz.prog 18 #[.pointer (some ⟨w1.heap.size+1,0,none⟩),.int .i64 a] w fun e w'=>NumsO w.heap.size (clR (wld l) a) e w'∧Bw w w'):=fun w hb=>Zi0 (HWA.out w hb) hTW.wi a
   have HN:Hid (c.ifs.length≤1000000∧c.ms.length≤1000000∧∀ m∈c.ms,m.code.length≤1000000):=⟨n1,n2,n3⟩
   have HTW:Hid (TwW (wldC l) (wld l)):=hTW
   obtain ⟨CH,hCH⟩:∃ r,r=chR (wld l) a:=⟨_,rfl⟩
   obtain ⟨CL,hCL⟩:∃ r,r=clR (wld l) a:=⟨_,rfl⟩
   have z1:CH.1.length≤1000000:=by rw [hCH];exact ch_lenz hTW.wi a
   have z2:CL.1.length≤1000000:=by rw [hCL];exact cl_lenz hTW.wi a
   have HRh:Hid (∀ w,Bw we w→Calls Tryz.prog 20 #[.pointer (some ⟨b',0,none⟩),.int .i64 a] w fun e w'=>NumsA CH e w'∧Bw w w'):=fun w hb=>by rw [hCH];exact rChain_r (HRA.out w hb) hTW a
   have HRl:Hid (∀ w,Bw we w→Calls Tryz.prog 21 #[.pointer (some ⟨b',0,none⟩),.int .i64 a] w fun e w'=>NumsA CL e w'∧Bw w w'):=fun w hb=>by rw [hCL];exact Zgh (HRA.out w hb) hTW (wld_wj l HCW.out).2 a
   rw [← hCH] at HCh
   rw [← hCL] at HCl
   clear hCH hCL
   have kE:(E != E)=false:=by simp
   clear hCW hTW f1 f4 f5 f6 hc1 hc2 n1 n2 n3 HF HCW HZ HL
   go_upto_region 16 with (first
    | (go_at_call 12;refine (HC1.out we (Below.refl _ _)).mono ?_;rintro e u1 ⟨⟨ai,ci,am,cm,qm1,rfl,ho,hm⟩,hb⟩;have O1:Hid (OwnC u1 we.heap.size (.slice ai c.ifs.length ci) c.ifs.length (Z0 c.ifs) (.slice am c.ms.length cm) qm1∧qm1.map Prod.fst=c.ms.map hmOf):=⟨ho,hm⟩;have U1:Hid (Bw we u1):=hb;clear ho hm hb)
    | (go_at_call 13;go_loud (refine (HC2.out _ (U1.out.alloc U1.out.size _)).mono ?_;rintro e u2 ⟨⟨di,ei,dm,em,qm2,rfl,ho,hm⟩,hb⟩;have O2:Hid (OwnC u2 (u1.heap.size+1) (.slice di c.ifs.length ei) c.ifs.length (Z0 c.ifs) (.slice dm c.ms.length em) qm2∧qm2.map Prod.fst=c.ms.map hmOf):=⟨ho.le (by simp),hm⟩;have U2:Hid (Below (u1.heap.size+1) (u1.alloc (.cells #[.string c.nm,.string c.su,.slice ai c.ifs.length ci,.int .i64 c.fl,.int .i64 c.ld,.slice am c.ms.length cm] 33)) u2):=hb.mono (by simp);clear ho hm hb HC2)))
   obtain ⟨q,hq⟩:∃ q,q=u2.alloc (.cells #[.string c.nm,.string c.su,.slice di c.ifs.length ei,.int .i64 c.fl,.int .i64 c.ld,.slice dm c.ms.length em] 33):=⟨_,rfl⟩
   have hbq:Bw u2 q:=by rw [hq];exact (Below.refl _ _).alloc (Nat.le_refl _) _
   have hqs:q.heap.size=u2.heap.size+1:=by rw [hq];simp
   have h15:q.heap[u2.heap.size]?=some (.cells #[.string c.nm,.string c.su,.slice di c.ifs.length ei,.int .i64 c.fl,.int .i64 c.ld,.slice dm c.ms.length em] 33 (0,0)):=by rw [hq];exact heap_alloc_new u2 _
   rw [← hq]
   clear hq
   have s12:u1.heap.size+1≤u2.heap.size:=by have:=U2.out.size;simpa using this
   have h13:q.heap[u1.heap.size]?=some (.cells #[.string c.nm,.string c.su,.slice ai c.ifs.length ci,.int .i64 c.fl,.int .i64 c.ld,.slice am c.ms.length cm] 33 (0,0)):=(hbq.block _ (by omega)).trans ((U2.out.block _ (Nat.lt_succ_self _)).trans (heap_alloc_new u1 _))
   have b1q:Bw u1 q:=(((Below.refl _ _).alloc (Nat.le_refl _) _).trans (U2.out.mono (by omega))).trans (hbq.mono (by omega))
   have O1q:Hid (OwnC q we.heap.size (.slice ai c.ifs.length ci) c.ifs.length (Z0 c.ifs) (.slice am c.ms.length cm) qm1∧qm1.map Prod.fst=c.ms.map hmOf):=⟨O1.out.1.below b1q,O1.out.2⟩
   have O2q:Hid (OwnC q (u1.heap.size+1) (.slice di c.ifs.length ei) c.ifs.length (Z0 c.ifs) (.slice dm c.ms.length em) qm2∧qm2.map Prod.fst=c.ms.map hmOf):=⟨O2.out.1.below hbq,O2.out.2⟩
   have HZ1:Hid (ClZ q (fun g=>we.heap.size≤g∧g<u1.heap.size) (.slice ai c.ifs.length ci) c.ifs.length (.slice am c.ms.length cm) (qm1.map fun p=>(p.2,p.1.n))):=(ClZ.of O1.out.1 O1.out.2 HN.out.1 HN.out.2.1 HN.out.2.2).bel b1q
   have KD:Hid (Kd we u1.heap.size q q):=⟨Zj U1.out b1q,U1.out.size,by omega,Nat.le_refl _,fun _ _ _=>rfl⟩
   have H13:Hid (q.heap[u1.heap.size]?=some (.cells #[.string c.nm,.string c.su,.slice ai c.ifs.length ci,.int .i64 c.fl,.int .i64 c.ld,.slice am c.ms.length cm] 33 (0,0))):=h13
   have H15:Hid (q.heap[u2.heap.size]?=some (.cells #[.string c.nm,.string c.su,.slice di c.ifs.length ei,.int .i64 c.fl,.int .i64 c.ld,.slice dm c.ms.length em] 33 (0,0))):=h15
   have HSm:Hid (Calls Tryz.prog 14 #[.agg #[.string c.nm,.string c.su,.slice ai c.ifs.length ci,.int .i64 c.fl,.int .i64 c.ld,.slice am c.ms.length cm],.agg #[.string c.nm,.string c.su,.slice di c.ifs.length ei,.int .i64 c.fl,.int .i64 c.ld,.slice dm c.ms.length em]] q fun e w'=>e=.returned (.bool true)∧Bw q w'):=Zb5 c _ _ _ _ q (Yz (Zw O1q.out.1.ifs)) (Xf O1q.out.1 O1q.out.2) (Yz (Zw O2q.out.1.ifs)) (Xf O2q.out.1 O2q.out.2)
   have l13:u1.heap.size<q.heap.size:=by omega
   have l15:u2.heap.size<q.heap.size:=by omega
   clear hbq b1q O1 O2 U1 U2
   obtain ⟨x0,x1,x2,x3,x4,x5,xf,_⟩:=rw6 h13
   obtain ⟨y0,y1,y2,y3,y4,y5,yf,_⟩:=rw6 h15
   clear h13 h15
   go_upto_region 19 with (first
    | (go_at_call 14;refine HSm.out.mono ?_;rintro e u3 ⟨rfl,hb⟩;have KD3:Hid (Kd we u1.heap.size q u3):=KD.out.step hb;have HZ3:Hid (ClZ u3 (fun g=>we.heap.size≤g∧g<u1.heap.size) (.slice ai c.ifs.length ci) c.ifs.length (.slice am c.ms.length cm) (qm1.map fun p=>(p.2,p.1.n))):=HZ1.out.bel hb;have h13:=(KD3.out.kd _ (Nat.le_refl _) l13).trans H13.out;clear hb KD HZ1 HSm x0 x1 x2 x3 x4 x5 xf y0 y1 y2 y3 y4 y5 yf;obtain ⟨x0,x1,x2,x3,x4,x5,xf,_⟩:=rw6 h13;clear h13)
    | (go_at_call 15;refine (spoilC_c HZ3.out).mono ?_;rintro e u4 ⟨rfl,hs⟩;have KD4:Hid (Kd we u1.heap.size q u4):=KD3.out.tz hs (fun k hk=>hk);clear hs KD3 HZ3 x0 x1 x2 x3 x4 x5 xf))
   go_upto_region 20 with (go_at_call 16;refine (HMt.out _ KD4.out.bel).mono ?_;rintro e u5 ⟨⟨mn,md,mf,mo,ms,aC,nC,cC,E5,xsC,rfl,ho,hn⟩,hb⟩;have KD5:Hid (Kd we u1.heap.size q u5):=KD4.out.step hb;have RC:Hid (RwZ u5 (fun g=>u4.heap.size≤g∧g<u5.heap.size) 56 7 (.slice aC nC cC) nC):=.of ho (fun g hg=>ho.lt g hg);have SZ4:Hid (q.heap.size≤u4.heap.size):=KD4.out.sz;have hnC:=hn;clear hb ho hn HMt KD4)
   obtain ⟨v5,hv5⟩:∃ v5,v5=u5.alloc (.cells #[.string mn,.string md,.int .i64 mf,.int .i64 mo,.int .i64 ms,.slice aC nC cC] 48):=⟨_,rfl⟩
   have hb5:Bw u5 v5:=by rw [hv5];exact (Below.refl _ _).alloc (Nat.le_refl _) _
   have h17:v5.heap[u5.heap.size]?=some (.cells #[.string mn,.string md,.int .i64 mf,.int .i64 mo,.int .i64 ms,.slice aC nC cC] 48 (0,0)):=by rw [hv5];exact heap_alloc_new u5 _
   rw [← hv5]
   clear hv5
   have L0:Hid (Kd we u1.heap.size q v5∧v5.heap[u5.heap.size]?=some (.cells #[.string mn,.string md,.int .i64 mf,.int .i64 mo,.int .i64 ms,.slice aC nC cC] 48 (0,0))∧RwZ v5 (fun g=>u4.heap.size≤g∧g<u5.heap.size) 56 7 (.slice aC nC cC) nC):=⟨KD5.out.step hb5,h17,RC.out.sh (ShK.bel hb5)⟩
   clear hb5 h17 KD5 RC
   go_wp2
   go_loopw [19] (fun iv w=>∃ j:Nat,iv=.int .i64 j∧j≤nC∧Hid (Kd we u1.heap.size q w∧w.heap[u5.heap.size]?=some (.cells #[.string mn,.string md,.int .i64 mf,.int .i64 mo,.int .i64 ms,.slice aC nC cC] 48 (0,0))∧RwZ w (fun g=>u4.heap.size≤g∧g<u5.heap.size) 56 7 (.slice aC nC cC) nC)) (fun iv _=>nC - (intOf iv).toNat)
   case atStart=>exact ⟨0,rfl,Nat.zero_le _,L0.out⟩
   case round =>
    clear L0
    obtain ⟨j,rfl,hj,hL⟩:=hrel
    obtain ⟨m0,m1,m2,m3,m4,m5,mfz,mL⟩:=rw6 hL.out.2.1
    by_cases hlt:j<nC
    ·have hj1:(0:Int)≤(j:Int):=by omega
     have hj2:(j:Int)<(nC:Int):=by omega
     obtain ⟨g,cap,cs,hv,hg,hzs,hS,_⟩:=hL.out.2.2.at hlt
     cases hv
     have hfz:=fun k=>frozen_of_row wr g k _ _ hg
     have hgl:=(Array.getElem?_eq_some_iff.1 hg).1
     obtain ⟨cz0,z0⟩:=Zh hg (k:=j * 7) (by omega)
     obtain ⟨cz1,z1⟩:=Zh hg (k:=j * 7+1) (by omega)
     obtain ⟨cz2,z2⟩:=Zh hg (k:=j * 7+2) (by omega)
     obtain ⟨cz3,z3⟩:=Zh hg (k:=j * 7+3) (by omega)
     obtain ⟨cz4,z4⟩:=Zh hg (k:=j * 7+4) (by omega)
     obtain ⟨cz5,z5⟩:=Zh hg (k:=j * 7+5) (by omega)
     obtain ⟨cz6,z6⟩:=Zh hg (k:=j * 7+6) (by omega)
     have HG:Hid (wr.heap[g]?=some (.cells cs 56 (0,0))):=hg
     have HS:Hid (u4.heap.size≤g∧g<u5.heap.size):=hS
     clear hg hzs hS
     go_wp2
     have R:=(StZ.refl (fun k=>k=g) wr).set7 HG.out (.inr (.inr rfl)) (.inl rfl) (j * 7) (j * 7+1) (j * 7+2) (j * 7+3) (j * 7+4) (j * 7+5) (j * 7+6) (.int .i64 39) (.int .i64 0) (.string ⟨#[]⟩) (.bool false) (.string ⟨#[]⟩) (.string ⟨#[]⟩) (.string ⟨#[]⟩)
     have hg4:=SZ4.out
     have hg5:=HS.out
     have R2:Hid (Kd we u1.heap.size q _∧_∧RwZ _ (fun g=>u4.heap.size≤g∧g<u5.heap.size) 56 7 (.slice (some ⟨g,0,none⟩) nC cC) nC):=⟨hL.out.1.far (Nat.le_refl _) (R.tz.below hL.out.1.sz (fun k hk=>by have:k=g:=hk;omega)),(R.tz.blk u5.heap.size mL (fun hk=>by have:u5.heap.size=g:=hk;omega)).trans hL.out.2.1,hL.out.2.2.sh R.sh⟩
     clear R
     refine ⟨⟨j+1,by go_num,by omega,R2⟩,?_⟩
     clear R2
     simp [intOf];omega
    ·have hj2:¬ (j:Int)<(nC:Int):=by omega
     have L5:Hid (Kd we u1.heap.size q wr):=hL.out.1
     have SZ5:Hid (q.heap.size≤wr.heap.size):=hL.out.1.sz
     clear hL m0 m1 m2 m3 m4
     go_upto_region 28 with (first
      | (go_at_call 17;refine (HCh.out _ L5.out.bel).mono ?_;rintro e w6 ⟨⟨a1,c1,rfl,ho⟩,hb⟩;have Kw6:Hid (Kd we u1.heap.size q w6):=L5.out.step hb;have Rw61:Hid (w6.ownsRow wr.heap.size 3 1 (.slice a1 CH.1.length c1) CH.1.length (CH.1.map numV)):=ho;have T1:Hid (wr.heap.size≤w6.heap.size∧∀ k,(Value.slice a1 CH.1.length c1).ownBlock=some k→k<w6.heap.size):=⟨hb.size,fun k hk=>(ho.lt k hk).2⟩;clear ho hb L5)
      | (go_at_call 17;refine (HCh.out _ Kw6.out.bel).mono ?_;rintro e w7 ⟨⟨a2,c2,rfl,ho⟩,hb⟩;have Kw7:Hid (Kd we u1.heap.size q w7):=Kw6.out.step hb;have Rw71:Hid (w7.ownsRow wr.heap.size 3 1 (.slice a1 CH.1.length c1) CH.1.length (CH.1.map numV)):=Zi Rw61.out hb;have Rw72:Hid (w7.ownsRow w6.heap.size 3 1 (.slice a2 CH.1.length c2) CH.1.length (CH.1.map numV)):=ho;have T2:Hid (w6.heap.size≤w7.heap.size∧∀ k,(Value.slice a2 CH.1.length c2).ownBlock=some k→k<w7.heap.size):=⟨hb.size,fun k hk=>(ho.lt k hk).2⟩;clear ho hb Kw6 Rw61)
      | (go_at_call 18;refine (HCl.out _ Kw7.out.bel).mono ?_;rintro e w8 ⟨⟨a3,c3,rfl,ho⟩,hb⟩;have Kw8:Hid (Kd we u1.heap.size q w8):=Kw7.out.step hb;have Rw81:Hid (w8.ownsRow wr.heap.size 3 1 (.slice a1 CH.1.length c1) CH.1.length (CH.1.map numV)):=Zi Rw71.out hb;have Rw82:Hid (w8.ownsRow w6.heap.size 3 1 (.slice a2 CH.1.length c2) CH.1.length (CH.1.map numV)):=Zi Rw72.out hb;have Rw83:Hid (w8.ownsRow w7.heap.size 3 1 (.slice a3 CL.1.length c3) CL.1.length (CL.1.map numV)):=ho;have T3:Hid (w7.heap.size≤w8.heap.size∧∀ k,(Value.slice a3 CL.1.length c3).ownBlock=some k→k<w8.heap.size):=⟨hb.size,fun k hk=>(ho.lt k hk).2⟩;clear ho hb Kw7 Rw71 Rw72)
      | (go_at_call 18;refine (HCl.out _ Kw8.out.bel).mono ?_;rintro e w9 ⟨⟨a4,c4,rfl,ho⟩,hb⟩;have Kw9:Hid (Kd we u1.heap.size q w9):=Kw8.out.step hb;have Rw91:Hid (w9.ownsRow wr.heap.size 3 1 (.slice a1 CH.1.length c1) CH.1.length (CH.1.map numV)):=Zi Rw81.out hb;have Rw92:Hid (w9.ownsRow w6.heap.size 3 1 (.slice a2 CH.1.length c2) CH.1.length (CH.1.map numV)):=Zi Rw82.out hb;have Rw93:Hid (w9.ownsRow w7.heap.size 3 1 (.slice a3 CL.1.length c3) CL.1.length (CL.1.map numV)):=Zi Rw83.out hb;have Rw94:Hid (w9.ownsRow w8.heap.size 3 1 (.slice a4 CL.1.length c4) CL.1.length (CL.1.map numV)):=ho;have T4:Hid (w8.heap.size≤w9.heap.size∧∀ k,(Value.slice a4 CL.1.length c4).ownBlock=some k→k<w9.heap.size):=⟨hb.size,fun k hk=>(ho.lt k hk).2⟩;clear ho hb Kw8 Rw81 Rw82 Rw83))
     go_upto_region 30 with (go_at_call 19;refine (apart4 wr.heap.size w6.heap.size w7.heap.size w8.heap.size _ w9.heap.size 4 a1 a2 a3 a4 CH.1.length CH.1.length CL.1.length CL.1.length c1 c2 c3 c4 _ _ _ _ (Rw91.out.alloc _) T1.out.2 (Rw92.out.alloc _) T2.out.2 (Rw93.out.alloc _) T3.out.2 (Rw94.out.alloc _) T1.out.1 T2.out.1 T3.out.1 (by have:=T1.out.1;have:=T2.out.1;have:=T3.out.1;have:=T4.out.1;simp;omega) (heap_alloc_new _ _) z1 z1 z2 z2).mono ?_;rintro e w10 ⟨rfl,hb⟩;have K10:Hid (Kd we u1.heap.size q w10):=(Kw9.out.step ((Below.refl _ _).alloc (Nat.le_refl _) _)).far SZ5.out hb;clear hb Kw9)
     clear Rw91 Rw92 Rw93 Rw94 T1 T2 T3 T4
     go_upto_region 31 with (go_at_call 12;refine (HC1.out _ K10.out.bel).mono ?_;rintro e w11 ⟨⟨ai2,ci2,am2,cm2,qm3,rfl,ho,hm⟩,hb⟩;have K11:Hid (Kd we u1.heap.size q w11):=K10.out.step hb;have O11:Hid (OwnC w11 w10.heap.size (.slice ai2 c.ifs.length ci2) c.ifs.length (Z0 c.ifs) (.slice am2 c.ms.length cm2) qm3∧qm3.map Prod.fst=c.ms.map hmOf):=⟨ho,hm⟩;have SZ10:Hid (q.heap.size≤w10.heap.size):=K10.out.sz;have h13:=(K11.out.kd _ (Nat.le_refl _) l13).trans H13.out;obtain ⟨x0,x1,x2,x3,x4,x5,xf,xL⟩:=rw6 h13;clear hb ho hm K10)
     clear x0 x1 x2 x3 x4 x5
     have we13:we.heap.size≤u1.heap.size:=K11.out.wp
     have l13b:u1.heap.size<w10.heap.size:=Nat.lt_of_lt_of_le l13 SZ10.out
     have g0:=heap_setCell_same w11 u1.heap.size 0 _ 33 (.string c.nm) h13
     have g1:=heap_setCell_same _ u1.heap.size 1 _ 33 (.string c.su) g0
     have g2:=heap_setCell_same _ u1.heap.size 2 _ 33 (.slice ai2 c.ifs.length ci2) g1
     have g3:=heap_setCell_same _ u1.heap.size 3 _ 33 (.int .i64 c.fl) g2
     have g4:=heap_setCell_same _ u1.heap.size 4 _ 33 (.int .i64 c.ld) g3
     have g5:=heap_setCell_same _ u1.heap.size 5 _ 33 (.slice am2 c.ms.length cm2) g4
     have KV:Kd we (u1.heap.size+1) q ((((((w11.setCell ⟨u1.heap.size,0,none⟩ (.string c.nm)).setCell ⟨u1.heap.size,1,none⟩ (.string c.su)).setCell ⟨u1.heap.size,2,none⟩ (.slice ai2 c.ifs.length ci2)).setCell ⟨u1.heap.size,3,none⟩ (.int .i64 c.fl)).setCell ⟨u1.heap.size,4,none⟩ (.int .i64 c.ld)).setCell ⟨u1.heap.size,5,none⟩ (.slice am2 c.ms.length cm2)):=((((((K11.out.box (i:=0) (v:=(.string c.nm)) l13).box' (i:=1) (v:=(.string c.su)) we13).box' (i:=2) (v:=(.slice ai2 c.ifs.length ci2)) we13).box' (i:=3) (v:=(.int .i64 c.fl)) we13).box' (i:=4) (v:=(.int .i64 c.ld)) we13).box' (i:=5) (v:=(.slice am2 c.ms.length cm2)) we13)
     have OV:=((((((O11.out.1.setCell (a:=⟨u1.heap.size,0,none⟩) l13b (.string c.nm)).setCell (a:=⟨u1.heap.size,1,none⟩) l13b (.string c.su)).setCell (a:=⟨u1.heap.size,2,none⟩) l13b (.slice ai2 c.ifs.length ci2)).setCell (a:=⟨u1.heap.size,3,none⟩) l13b (.int .i64 c.fl)).setCell (a:=⟨u1.heap.size,4,none⟩) l13b (.int .i64 c.ld)).setCell (a:=⟨u1.heap.size,5,none⟩) l13b (.slice am2 c.ms.length cm2))
     obtain ⟨v11,hv11⟩:∃ v,v=((((((w11.setCell ⟨u1.heap.size,0,none⟩ (.string c.nm)).setCell ⟨u1.heap.size,1,none⟩ (.string c.su)).setCell ⟨u1.heap.size,2,none⟩ (.slice ai2 c.ifs.length ci2)).setCell ⟨u1.heap.size,3,none⟩ (.int .i64 c.fl)).setCell ⟨u1.heap.size,4,none⟩ (.int .i64 c.ld)).setCell ⟨u1.heap.size,5,none⟩ (.slice am2 c.ms.length cm2)):=⟨_,rfl⟩
     rw [← hv11] at g5 KV OV ⊢
     clear hv11 g0 g1 g2 g3 g4 K11
     have hg13:v11.heap[u1.heap.size]?=some (.cells #[.string c.nm,.string c.su,.slice ai2 c.ifs.length ci2,.int .i64 c.fl,.int .i64 c.ld,.slice am2 c.ms.length cm2] 33 (0,0)):=g5.trans rfl
     have KVH:Hid (Kd we (u1.heap.size+1) q v11):=KV
     have HG:Hid (v11.heap[u1.heap.size]?=some (.cells #[.string c.nm,.string c.su,.slice ai2 c.ifs.length ci2,.int .i64 c.fl,.int .i64 c.ld,.slice am2 c.ms.length cm2] 33 (0,0))):=hg13
     have OVH:Hid (OwnC v11 w10.heap.size (.slice ai2 c.ifs.length ci2) c.ifs.length (Z0 c.ifs) (.slice am2 c.ms.length cm2) qm3∧qm3.map Prod.fst=c.ms.map hmOf):=⟨OV,O11.out.2⟩
     clear g5 KV OV hg13 O11
     go_upto_region 35 with (first
      | (go_at_call 17;refine (HCh.out _ KVH.out.bel).mono ?_;rintro e w12 ⟨⟨a5,c5,rfl,ho⟩,hb⟩;have B12:Hid (Bw v11 w12):=hb;have R12:Hid (Rds w12 (.slice a5 CH.1.length c5) CH.1.length 1 (CH.1.map numV)):=Zw ho;have Z12:Hid (Bw v11 w12):=hb;clear ho hb HCh)
      | (go_at_call 20;refine (HRh.out _ (Zj KVH.out.bel B12.out)).mono ?_;rintro e w13 ⟨⟨a6,c6,rfl,ho⟩,hb⟩;have B13:Hid (Bw v11 w13):=(Zj B12.out hb);have R13:Hid (Rds w13 (.slice a6 CH.1.length c6) CH.1.length 1 (CH.1.map numV)):=ho;have Z13:Hid (Bw w12 w13):=hb;clear ho hb HRh)
      | (go_at_call 18;refine (HCl.out _ (Zj KVH.out.bel B13.out)).mono ?_;rintro e w14 ⟨⟨a7,c7,rfl,ho⟩,hb⟩;have B14:Hid (Bw v11 w14):=(Zj B13.out hb);have R14:Hid (Rds w14 (.slice a7 CL.1.length c7) CL.1.length 1 (CL.1.map numV)):=Zw ho;have Z14:Hid (Bw w13 w14):=hb;clear ho hb HCl)
      | (go_at_call 21;refine (HRl.out _ (Zj KVH.out.bel B14.out)).mono ?_;rintro e w15 ⟨⟨a8,c8,rfl,ho⟩,hb⟩;have B15:Hid (Bw v11 w15):=(Zj B14.out hb);have R15:Hid (Rds w15 (.slice a8 CL.1.length c8) CL.1.length 1 (CL.1.map numV)):=ho;have Z15:Hid (Bw w14 w15):=hb;clear ho hb HRl))
     have K15:=KVH.out.step B15.out
     have lv13:u1.heap.size<v11.heap.size:=(Array.getElem?_eq_some_iff.1 HG.out).1
     have e13:=(B15.out.block _ lv13).trans HG.out
     have e15:=(K15.kd u2.heap.size (by omega) l15).trans H15.out
     have OA:=OVH.out.1.below B15.out
     have OB:=K15.own (Nat.le_refl _) O2q.out.1
     have HS2:Hid (Calls Tryz.prog 14 #[.agg #[.string c.nm,.string c.su,.slice ai2 c.ifs.length ci2,.int .i64 c.fl,.int .i64 c.ld,.slice am2 c.ms.length cm2],.agg #[.string c.nm,.string c.su,.slice di c.ifs.length ei,.int .i64 c.fl,.int .i64 c.ld,.slice dm c.ms.length em]] w15 fun e w'=>e=.returned (.bool true)∧Bw w15 w'):=Zb5 c _ _ _ _ w15 (Yz (Zw OA.ifs)) (Xf OA OVH.out.2) (Yz (Zw OB.ifs)) (Xf OB O2q.out.2)
     have HN1:Hid (∀ w,Bw w15 w→Calls Tryz.prog 22 #[.slice a5 CH.1.length c5,.slice a6 CH.1.length c6] w fun e w'=>e=.returned (.bool true)∧Bw w w'):=fun w hb=>Jr CH.1 _ _ w (R12.out.keep (Zj (Zj (Zj Z13.out Z14.out) Z15.out) hb)) (R13.out.keep (Zj (Zj Z14.out Z15.out) hb)) (by omega)
     have HN2:Hid (∀ w,Bw w15 w→Calls Tryz.prog 22 #[.slice a7 CL.1.length c7,.slice a8 CL.1.length c8] w fun e w'=>e=.returned (.bool true)∧Bw w w'):=fun w hb=>Jr CL.1 _ _ w (R14.out.keep (Zj Z15.out hb)) (R15.out.keep hb) (by omega)
     have KF:Hid (Kd we (u1.heap.size+1) q w15):=K15
     clear K15 OA OB R12 R13 R14 R15 B12 B13 B14 B15 Z12 Z13 Z14 Z15 HG KVH OVH
     obtain ⟨x0,x1,x2,x3,x4,x5,xf,xL⟩:=rw6 e13
     obtain ⟨y0,y1,y2,y3,y4,y5,yf,yL⟩:=rw6 e15
     clear e13 e15
     go_wp2_with (first
      | (go_at_call 14;refine HS2.out.mono ?_;rintro e w16 ⟨rfl,hb⟩;have B16:Hid (Bw w15 w16):=hb;clear hb HS2)
      | (go_at_call 22;refine (HN1.out _ B16.out).mono ?_;rintro e w17 ⟨rfl,hb⟩;have B17:Hid (Bw w15 w17):=Zj B16.out hb;clear hb HN1 B16)
      | (go_at_call 22;refine (HN2.out _ B17.out).mono ?_;rintro e w18 ⟨rfl,hb⟩;have B18:Hid (Bw w15 w18):=Zj B17.out hb;clear hb HN2 B17))
     go_ret
     exact ⟨rfl,Zj HBW.out (KF.out.step B18.out).bel⟩
end Go.Proofs.YtkoogmegdfpopaaGreat
