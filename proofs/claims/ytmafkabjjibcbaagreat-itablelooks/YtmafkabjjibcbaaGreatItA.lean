import Derived.Test.YtmafkabjjibcbaaGreatOvG
set_option maxHeartbeats 4000000
set_option maxRecDepth 100000
namespace Go.Proofs.YtmafkabjjibcbaaGreat
open Go.RowKit Go.Maps
theorem row2 {w:World} {n:Nat} {t:TypeId} {a0 a1:Value} (h:w.heap[n]?=some (.cells #[a0,a1] t (0,0))):w.cell? ⟨n,0,none⟩=some a0∧w.cell? ⟨n,1,none⟩=some a1∧w.frozen? ⟨n,0,none⟩=false∧w.frozen? ⟨n,1,none⟩=false∧n<w.heap.size :=
 ⟨(cell_of_row w n 0 _ _ _ h).trans rfl,(cell_of_row w n 1 _ _ _ h).trans rfl,froz h 0,froz h 1,(Array.getElem?_eq_some_iff.1 h).1⟩
theorem Zlw {b:Nat} {ps:List Plc} {W:World} (h:WAt b ps W) (hi:WI ps) (r c i:Int) (hm:Zm ps c i=none):Calls Tryz.prog 65 #[.pointer (some ⟨b,0,none⟩),.int .i64 r,.agg #[.int .i64 c,.int .i64 i]] W fun e w'=>e=.returned (idE ((0,0),3))∧Bw W w':=by
 have HR:Hid (∀ w,Bw W w→Calls Tryz.prog 118 #[.pointer (some ⟨b,0,none⟩),.agg #[.int .i64 c,.int .i64 i]] w fun e w'=>e=.returned (.tuple #[.agg #[.string ⟨#[]⟩,.string ⟨#[]⟩,.int .i64 0,.int .i64 0,.int .i64 0,.slice none 0 0,.int .i64 0,.int .i64 0,.pointer none],.int .i64 3])∧Bw w w'):=fun w hb=>by
  have:=Zhv (h.below hb) hi c i
  rw [hm] at this
  exact this
 have HZ2:Hid (((W.alloc (.cells #[.int .i64 c,.int .i64 i] 38)).alloc (.cells #[.int .i64 0,.int .i64 0] 38)).heap[W.heap.size+1]?=some (.cells #[.int .i64 0,.int .i64 0] 38 (0,0))):=Za _ _ (by simp)
 clear h hi hm
 go_enter Tryz.func65,Tryz.ntmps65
 go_wp2_with (go_at_call 118;refine (HR.out _ sqR).mono ?_;rintro e w1 ⟨rfl,hb⟩;have Bw1:Hid (Below (W.heap.size+2) ((W.alloc (.cells #[.int .i64 c,.int .i64 i] 38)).alloc (.cells #[.int .i64 0,.int .i64 0] 38)) w1):=hb.mono (by simp);obtain ⟨z0,z1,f0,f1,zL⟩:=row2 ((Bw1.out.block (W.heap.size+1) (by omega)).trans HZ2.out);clear hb HR)
 exact bodyPost_ret (v:=idE ((0,0),3)) (by simp [results,Tryz.results65,go_sem,idE, *]) rfl ⟨rfl,(by have hbw:Bw W w1:=(((Below.refl _ W).alloc (Nat.le_refl _) _).alloc (by simp) _).trans (Bw1.out.mono (by omega));repeat (first|refine Below.setCell ?_ (by simp;try omega) _|refine Below.alloc ?_ (by have:=hbw.size;simp;try omega) _|exact hbw))⟩
theorem Zlv {b:Nat} {ps:List Plc} {W:World} (h:WAt b ps W) (hi:WI ps) (r c i:Int) (m:HM) (hm:Zm ps c i=some m) (hr:plcI ps r=none):Calls Tryz.prog 65 #[.pointer (some ⟨b,0,none⟩),.int .i64 r,.agg #[.int .i64 c,.int .i64 i]] W fun e w'=>e=.returned (idE ((0,0),3))∧Bw W w':=by
 have HR:Hid (∀ w,Bw W w→Calls Tryz.prog 118 #[.pointer (some ⟨b,0,none⟩),.agg #[.int .i64 c,.int .i64 i]] w fun e w'=>(∃ ma mk mo,e=.returned (.tuple #[.agg #[.string m.nm,.string m.ds,.int .i64 m.fl,.int .i64 m.lo,.int .i64 m.st,.slice ma mk mo,.int .i64 c,.int .i64 i,.pointer (some ⟨b,0,none⟩)],.int .i64 0]))∧Bw w w'):=fun w hb=>by
  have:=Zhv (h.below hb) hi c i
  rw [hm] at this
  exact this
 have HZ2:Hid (((W.alloc (.cells #[.int .i64 c,.int .i64 i] 38)).alloc (.cells #[.int .i64 0,.int .i64 0] 38)).heap[W.heap.size+1]?=some (.cells #[.int .i64 0,.int .i64 0] 38 (0,0))):=Za _ _ (by simp)
 have HD:Hid (∀ w,Bw W w→Calls Tryz.prog 119 #[.pointer (some ⟨b,0,none⟩),.int .i64 r] w fun e w'=>e=.returned (.tuple #[.slice none 0 0,.int .i64 3])∧Bw w w'):=fun w hb=>down_no (h.below hb) r hr
 clear h hi hm hr
 go_enter Tryz.func65,Tryz.ntmps65
 go_wp2_with (first
  | (go_at_call 118;refine (HR.out _ sqR).mono ?_;rintro e w1 ⟨⟨ma,mk,mo,rfl⟩,hb⟩;have Bw1:Hid (Below (W.heap.size+2) ((W.alloc (.cells #[.int .i64 c,.int .i64 i] 38)).alloc (.cells #[.int .i64 0,.int .i64 0] 38)) w1):=hb.mono (by simp);clear hb HR)
  | (go_at_call 119;refine (HD.out _ ((((((Below.refl _ W).alloc (Nat.le_refl _) _).alloc (by simp) _).trans (Bw1.out.mono (by omega)))).alloc (by have:=Bw1.out.size;simp at this;omega) _)).mono ?_;rintro e w2 ⟨rfl,hb⟩;have Bw2:Hid (Below (W.heap.size+2) ((W.alloc (.cells #[.int .i64 c,.int .i64 i] 38)).alloc (.cells #[.int .i64 0,.int .i64 0] 38)) w2):=(Bw1.out.alloc (by have:=Bw1.out.size;simpa using this) _).trans (hb.mono (by have:=Bw1.out.size;simp at this;simp;omega));obtain ⟨z0,z1,f0,f1,zL⟩:=row2 ((Bw2.out.block (W.heap.size+1) (by omega)).trans HZ2.out);clear hb HD))
 exact bodyPost_ret (v:=idE ((0,0),3)) (by simp [results,Tryz.results65,go_sem,idE, *]) rfl ⟨rfl,(by have hbw:Bw W w2:=(((Below.refl _ W).alloc (Nat.le_refl _) _).alloc (by simp) _).trans (Bw2.out.mono (by omega));repeat (first|refine Below.setCell ?_ (by simp;try omega) _|refine Below.alloc ?_ (by have:=hbw.size;simp;try omega) _|exact hbw))⟩
theorem firI_eq {ps:List Plc} {r:Int} {a:Int×Int} {m:HM} {k:Nat} {q:Plc} (hm:Zm ps a.1 a.2=some m) (hk:r=(k:Int)) (hq:ps[k]?=some q):firI ps r a=lstI (chL (ps.map nd) k) (gthL ps a (askL ps m a (chL (ps.map nd) k).reverse)):=by
 subst hk
 rw [firI,hm,Z5,hq]
 rfl
theorem con_cast (l:List Nat) (k:Nat):(l.map (fun k:Nat=>(k:Int))).contains (k:Int)=l.reverse.contains k:=by
 rw [Bool.eq_iff_iff]
 simp only [List.contains_iff_mem,List.mem_map,List.mem_reverse]
 exact ⟨fun ⟨a, h, e⟩ => by have : a = k := by omega
                            subst this;exact h,fun h=>⟨k,h,rfl⟩⟩
theorem Zlu {b:Nat} {ps:List Plc} {W:World} (h:WAt b ps W) (hi:WI ps) (k:Nat) (q:Plc) (hq:ps[k]?=some q) (c i:Int) (m:HM) (hm:Zm ps c i=some m):Calls Tryz.prog 65 #[.pointer (some ⟨b,0,none⟩),.int .i64 (k:Int),.agg #[.int .i64 c,.int .i64 i]] W fun e w'=>e=.returned (idE (firI ps (k:Int) (c,i)))∧Bw W w':=by
 have HR:Hid (∀ w,Bw W w→Calls Tryz.prog 118 #[.pointer (some ⟨b,0,none⟩),.agg #[.int .i64 c,.int .i64 i]] w fun e w'=>(∃ ma mk mo,e=.returned (.tuple #[.agg #[.string m.nm,.string m.ds,.int .i64 m.fl,.int .i64 m.lo,.int .i64 m.st,.slice ma mk mo,.int .i64 c,.int .i64 i,.pointer (some ⟨b,0,none⟩)],.int .i64 0]))∧Bw w w'):=fun w hb=>by
  have:=Zhv (h.below hb) hi c i
  rw [hm] at this
  exact this
 have HZ2:Hid (((W.alloc (.cells #[.int .i64 c,.int .i64 i] 38)).alloc (.cells #[.int .i64 0,.int .i64 0] 38)).heap[W.heap.size+1]?=some (.cells #[.int .i64 0,.int .i64 0] 38 (0,0))):=Za _ _ (by simp)
 have hKb:(chL (ps.map nd) k).length≤300:=by
  have h1:=Zmf hi.wo k (by simpa using (List.getElem?_eq_some_iff.1 hq).1)
  have h2:=hi.hi
  have h3:=(List.getElem?_eq_some_iff.1 hq).1
  omega
 have HD:Hid (∀ w,Bw W w→Calls Tryz.prog 119 #[.pointer (some ⟨b,0,none⟩),.int .i64 (k:Int)] w fun e w'=>∃ g cap,e=.returned (.tuple #[.slice (some ⟨g,0,none⟩) (chL (ps.map nd) k).length cap,.int .i64 0])∧w'.ownsRow w.heap.size 3 1 (.slice (some ⟨g,0,none⟩) (chL (ps.map nd) k).length cap) (chL (ps.map nd) k).length ((chL (ps.map nd) k).reverse.map numV)∧Bw w w'):=fun w hb=>down_c (h.below hb) hi k q hq
 obtain ⟨G,hG⟩:∃ G,gthL ps (c,i) (askL ps m (c,i) (chL (ps.map nd) k).reverse)=G:=⟨_,rfl⟩
 rw [firI_eq (a:=(c,i)) hm rfl hq,hG]
 obtain ⟨R,hR⟩:∃ R,lstI (chL (ps.map nd) k) G=R:=⟨_,rfl⟩
 have HRR:Hid (lstI (chL (ps.map nd) k) G=R):=hR
 rw [hR]
 have hU:Bw W ((W.alloc (.cells #[.int .i64 c,.int .i64 i] 38)).alloc (.cells #[.int .i64 0,.int .i64 0] 38)):=((Below.refl _ W).alloc (Nat.le_refl _) _).alloc (by simp) _
 have HG:Hid (∀ w (x:P9) (v:Value),Below (W.heap.size+2) ((W.alloc (.cells #[.int .i64 c,.int .i64 i] 38)).alloc (.cells #[.int .i64 0,.int .i64 0] 38)) w→OkP ps x→x.id=(c,i)→(x.nm,x.ds,x.c)=(m.nm,m.ds,c)→Rds w v (chL (ps.map nd) k).length 1 ((chL (ps.map nd) k).reverse.map numV)→Calls Tryz.prog 120 #[x.agg b,v] w fun e w'=>∃ (L:List P9) (g cap:Nat),e=.returned (.slice (some ⟨g,0,none⟩) L.length cap)∧(∀ y∈L,OkP ps y)∧L.map P9.id=G∧w'.ownsRow w.heap.size 171 9 (.slice (some ⟨g,0,none⟩) L.length cap) L.length (Zx b L)∧Bw w w'):=fun w x v hb ho hid hnd hv=>by
  have:=gth_c (h.below (hU.trans (hb.mono (by omega)))) hi x ho v (chL (ps.map nd) k).reverse (by rw [List.length_reverse];exact hv) (by rw [List.length_reverse];exact hKb)
  simp only [Prod.mk.injEq] at hnd
  rw [hid,hnd.1,hnd.2.1,hnd.2.2] at this
  rw [askL] at hG
  rw [hG] at this
  exact this
 have HN:Hid (∀ (w:World) (v:Value) (p:Nat),Rds w v (chL (ps.map nd) k).length 1 ((chL (ps.map nd) k).reverse.map numV)→Calls Tryz.prog 121 #[v,.int .i64 (p:Int)] w fun e w'=>e=.returned (.bool ((chL (ps.map nd) k).reverse.contains p))∧Bw w w'):=fun w v p hv=>Jy v (chL (ps.map nd) k).reverse p w (by rw [List.length_reverse];exact hv) (by rw [List.length_reverse];omega)
 have HM:Hid (Zm ps c i=some m):=hm
 have hGb:G.length≤301:=by
  rw [← hG]
  refine Nat.le_trans (gthL_len _ _ _) ?_
  have:=Zbh ps m.nm m.ds (c,i).1 (chL (ps.map nd) k).reverse
  rw [List.length_reverse] at this
  rw [askL,List.length_cons]
  omega
 generalize chL (ps.map nd) k=l at *
 obtain ⟨K,hK⟩:∃ K,l.length=K:=⟨_,rfl⟩
 rw [hK] at HD HG HN hKb
 clear h hi hm hq hG hU hK hR
 simp only [P9.agg] at HG
 go_enter Tryz.func65,Tryz.ntmps65
 go_upto_region 8 with (first
  | (go_at_call 118;refine (HR.out _ sqR).mono ?_;rintro e w1 ⟨⟨ma,mk,mo,rfl⟩,hb⟩;have Bw1:Hid (Below (W.heap.size+2) ((W.alloc (.cells #[.int .i64 c,.int .i64 i] 38)).alloc (.cells #[.int .i64 0,.int .i64 0] 38)) w1):=hb.mono (by simp);clear hb HR)
  | (go_at_call 119;refine (HD.out _ ((((((Below.refl _ W).alloc (Nat.le_refl _) _).alloc (by simp) _).trans (Bw1.out.mono (by omega)))).alloc (by have:=Bw1.out.size;simp at this;omega) _)).mono ?_;rintro e w2 ⟨dg,dc,rfl,ho,hb⟩;have Bw2:Hid (Below (W.heap.size+2) ((W.alloc (.cells #[.int .i64 c,.int .i64 i] 38)).alloc (.cells #[.int .i64 0,.int .i64 0] 38)) w2):=(Bw1.out.alloc (by have:=Bw1.out.size;simpa using this) _).trans (hb.mono (by have:=Bw1.out.size;simp at this;simp;omega));have D2:Hid (Rds w2 (.slice (some ⟨dg,0,none⟩) K dc) K 1 (l.reverse.map numV)):=Ya ho;obtain ⟨p0,p1,p2,p3,p4,p5,p6,p7,p8,pL⟩:=row9 ((hb.block w1.heap.size (by simp)).trans (Zo w1 (.cells #[.string m.nm,.string m.ds,.int .i64 m.fl,.int .i64 m.lo,.int .i64 m.st,.slice ma mk mo,.int .i64 c,.int .i64 i,.pointer (some ⟨b,0,none⟩)] 171)));clear hb ho HD)
  | (go_at_call 120;refine (HG.out w2 ⟨m.nm,m.ds,m.fl,m.lo,m.st,ma,mk,mo,c,i⟩ (.slice (some ⟨dg,0,none⟩) K dc) Bw2.out ⟨m,HM.out,rfl,rfl,rfl⟩ rfl rfl D2.out).mono ?_;rintro e w3 ⟨L,g,cap,rfl,hok,hid,ho,hb⟩;have OK3:Hid (∀ y∈L,OkP ps y):=hok;have ID3:Hid (L.map P9.id=G):=hid;have O3:Hid (w3.ownsRow w2.heap.size 171 9 (.slice (some ⟨g,0,none⟩) L.length cap) L.length (Zx b L)):=ho;have Bw3:Hid (Below (W.heap.size+2) ((W.alloc (.cells #[.int .i64 c,.int .i64 i] 38)).alloc (.cells #[.int .i64 0,.int .i64 0] 38)) w3):=Bw2.out.trans (hb.mono (Nat.le_trans (by simp) Bw2.out.size));have D3:Hid (Rds w3 (.slice (some ⟨dg,0,none⟩) K dc) K 1 (l.reverse.map numV)):=D2.out.keep hb;obtain ⟨z0,z1,f0,f1,zL⟩:=row2 ((Bw3.out.block (W.heap.size+1) (by omega)).trans HZ2.out);clear hb ho hok hid HG))
 rcases List.eq_nil_or_concat L with hL|⟨L0,y,hL⟩
 ·subst hL
  have hG0:G=[]:=ID3.out.symm
  subst hG0
  have eR:R=((0,0),6):=HRR.out.symm
  subst eR
  clear HRR OK3 ID3 O3
  go_wp2
  exact bodyPost_ret (v:=idE ((0,0),6)) (by simp [results,Tryz.results65,go_sem,idE, *]) rfl ⟨rfl,(by have hbw:Bw W w3:=(((Below.refl _ W).alloc (Nat.le_refl _) _).alloc (by simp) _).trans (Bw3.out.mono (by omega));repeat (first|refine Below.setCell ?_ (by simp;try omega) _|refine Below.alloc ?_ (by have:=hbw.size;simp;try omega) _|exact hbw))⟩
 ·subst hL
  have hlast:(L0.concat y)[L0.length]?=some y:=by simp
  have hyo:=OK3.out y (by simp)
  obtain ⟨e0,e1,e2,e3,e4,e5,e6,e7,e8,gL⟩:=Zak O3.out hlast
  have hGl:G.getLast?=some y.id:=by rw [← ID3.out,List.concat_eq_append,List.map_append];simp
  have HGl:Hid (G.getLast?=some y.id):=hGl
  have hlen:(L0.concat y).length=L0.length+1:=by simp
  obtain ⟨p,hp⟩:∃ p:Nat,y.c=(p:Int):=by
   obtain ⟨m2,hm2,_⟩:=hyo
   rcases Zl ps y.c with ⟨h1,_⟩|⟨p,_,e,_⟩
   ·rw [Zm,h1] at hm2;cases hm2
   ·exact ⟨p,e⟩
  have HN2:Hid (∀ w,Bw w3 w→Calls Tryz.prog 121 #[.slice (some ⟨dg,0,none⟩) K dc,.int .i64 (p:Int)] w fun e w'=>e=.returned (.bool (l.reverse.contains p))∧Bw w w'):=fun w hb=>HN.out w _ p (D3.out.keep hb)
  obtain ⟨yn,yd,yf,yl,ys,ya,yk,yo,yc,yi⟩:=y
  simp only at hp
  subst hp
  have HCC:Hid ((l.map (fun k:Nat=>(k:Int))).contains (p:Int)=l.reverse.contains p):=con_cast l p
  have HRC:Hid (R=if l.reverse.contains p then (((p:Int),yi),0) else ((0,0),6)):=by rw [Hid,← HRR.out,Zb4 HGl.out,P9.id,HCC.out]
  clear HCC HRR
  generalize l.reverse.contains p=B at *
  rw [hlen] at O3 ⊢
  obtain ⟨n,hn⟩:∃ n,L0.length=n:=⟨_,rfl⟩
  have hnb:n≤1000000:=by
   have e:=congrArg List.length ID3.out
   simp at e
   omega
  rw [hn] at O3 e0 e1 e2 e3 e4 e5 e6 e7 e8 ⊢
  clear hlen hlast hyo hGl HGl hn OK3 ID3 HN
  cases B
  all_goals
   have eR:=HRC.out
   simp only [Bool.false_eq_true,if_false,if_true] at eR
   subst eR
   clear HRC
   go_wp2_with (go_at_call 121;refine (HN2.out _ ((Below.refl _ _).alloc (Nat.le_refl _) _)).mono ?_;rintro e w4 ⟨rfl,hb⟩;clear z0 z1 f0 f1 zL;have Bw4:Hid (Below (W.heap.size+2) ((W.alloc (.cells #[.int .i64 c,.int .i64 i] 38)).alloc (.cells #[.int .i64 0,.int .i64 0] 38)) w4):=(Bw3.out.alloc (by have:=Bw3.out.size;simpa using this) _).trans (hb.mono (by have:=Bw3.out.size;simp at this;simp;omega));obtain ⟨z0,z1,f0,f1,zL⟩:=row2 ((Bw4.out.block (W.heap.size+1) (by omega)).trans HZ2.out);obtain ⟨u0,u1,_,_,uL⟩:=row2 ((hb.block w3.heap.size (by simp)).trans (Zo w3 (.cells #[.int .i64 (p:Int),.int .i64 yi] 38)));clear hb HN2)
  ·exact bodyPost_ret (v:=idE ((0,0),6)) (by simp [results,Tryz.results65,go_sem,idE, *]) rfl ⟨rfl,(by have hbw:Bw W w4:=(((Below.refl _ W).alloc (Nat.le_refl _) _).alloc (by simp) _).trans (Bw4.out.mono (by omega));repeat (first|refine Below.setCell ?_ (by simp;try omega) _|refine Below.alloc ?_ (by have:=hbw.size;simp;try omega) _|exact hbw))⟩
  ·exact bodyPost_ret (v:=idE (((p:Int),yi),0)) (by simp [results,Tryz.results65,go_sem,idE, *]) rfl ⟨rfl,(by have hbw:Bw W w4:=(((Below.refl _ W).alloc (Nat.le_refl _) _).alloc (by simp) _).trans (Bw4.out.mono (by omega));repeat (first|refine Below.setCell ?_ (by simp;try omega) _|refine Below.alloc ?_ (by have:=hbw.size;simp;try omega) _|exact hbw))⟩
theorem first_c {b:Nat} {ps:List Plc} {W:World} (h:WAt b ps W) (hi:WI ps) (r c i:Int):Calls Tryz.prog 65 #[.pointer (some ⟨b,0,none⟩),.int .i64 r,.agg #[.int .i64 c,.int .i64 i]] W fun e w'=>e=.returned (idE (firI ps r (c,i)))∧Bw W w':=by
 cases hm:Zm ps c i with
 | none =>
   have e:firI ps r (c,i)=((0,0),3):=by simp only [firI,hm]
   rw [e];exact Zlw h hi r c i hm
 | some m =>
   rcases Zl ps r with ⟨h1,_⟩|⟨k,q,rfl,h2,h1⟩
   ·have e:firI ps r (c,i)=((0,0),3):=by simp only [firI,hm,h1]
    rw [e];exact Zlv h hi r c i m hm h1
   ·exact Zlu h hi k q h2 c i m hm
def onI (ps:List Plc) (c:Int) (nm ds:ByteArray):(Int×Int)×Int:=match plcI ps c with
 | some q=>oneV ps (Zu ps nm ds q.cl)
 | none=>((0,0),3)
theorem one_c {b:Nat} {ps:List Plc} {W:World} (h:WAt b ps W) (hi:WI ps) (c:Int) (nm ds:ByteArray):Calls Tryz.prog 66 #[.pointer (some ⟨b,0,none⟩),.int .i64 c,.string nm,.string ds] W fun e w'=>e=.returned (idE (onI ps c nm ds))∧Bw W w':=by
 rcases Zl ps c with ⟨h1,_⟩|⟨k,q,rfl,h2,h1⟩
 ·have e:onI ps c nm ds=((0,0),3):=by rw [onI,h1]
  rw [e];exact one_no h c h1 nm ds
 ·have e:onI ps (k:Int) nm ds=oneV ps (Zu ps nm ds q.cl):=by rw [onI,h1]
  rw [e];exact one_yes h hi k q h2 nm ds
theorem Zkf {ps:List Plc} {r:Int} {m:Int×Int} {x:Int} (h:rfrI ps r m=.error x):x=2∨x=3:=by
 rw [rfrI] at h
 split at h
 ·split at h
  ·cases h;exact .inl rfl
  ·cases h
 ·rename_i e he
  cases h
  rw [crdI] at he
  split at he
  ·cases he
  ·cases he;exact .inr rfl
def virI (ps:List Plc) (r:Int) (m:Int×Int):(Int×Int)×Int:=match rfrI ps r m with
 | .error e=>((0,0),e)
 | .ok x=>if stB x.fl then ((0,0),23) else if (firI ps r m).2=0 then unaI ps (firI ps r m).1 else onI ps r x.nm x.ds
def itfI (ps:List Plc) (r:Int) (m:Int×Int):(Int×Int)×Int:=match rfrI ps r m with
 | .error e=>((0,0),e)
 | .ok x=>if hasI x.fl 10 then ((0,0),23) else if (uchI ps x.nm x.ds r).2 then (if hasS ps (uchI ps x.nm x.ds r).1.1 (uchI ps x.nm x.ds r).1.2 1 then unaI ps (uchI ps x.nm x.ds r).1 else ((0,0),22)) else onI ps r x.nm x.ds
theorem vir_c {b:Nat} {ps:List Plc} {W:World} (h:WAt b ps W) (hi:WI ps) (r c i:Int):Calls Tryz.prog 25 #[.pointer (some ⟨b,0,none⟩),.int .i64 r,.agg #[.int .i64 c,.int .i64 i]] W fun e w'=>e=.returned (idE (virI ps r (c,i)))∧Bw W w':=by
 have HI:∀ w,Bw W w→WAt b ps w:=fun w hb=>h.below hb
 have HR:Hid (∀ w,Bw W w→Calls Tryz.prog 64 #[.pointer (some ⟨b,0,none⟩),.int .i64 r,.agg #[.int .i64 c,.int .i64 i]] w fun e w'=>mthE (rfrI ps r (c,i)) e∧Bw w w'):=fun w hb=>rfr_c (HI w hb) hi.pb r c i
 have HO:Hid (∀ nm ds w,Bw W w→Calls Tryz.prog 66 #[.pointer (some ⟨b,0,none⟩),.int .i64 r,.string nm,.string ds] w fun e w'=>e=.returned (.tuple #[.agg #[.int .i64 (onI ps r nm ds).1.1,.int .i64 (onI ps r nm ds).1.2],.int .i64 (onI ps r nm ds).2])∧Bw w w'):=fun nm ds w hb=>one_c (HI w hb) hi r nm ds
 have HU:Hid (∀ c i w,Bw W w→Calls Tryz.prog 67 #[.pointer (some ⟨b,0,none⟩),.agg #[.int .i64 c,.int .i64 i]] w fun e w'=>e=.returned (.tuple #[.agg #[.int .i64 (unaI ps (c,i)).1.1,.int .i64 (unaI ps (c,i)).1.2],.int .i64 (unaI ps (c,i)).2])∧Bw w w'):=fun c i w hb=>una_c (HI w hb) hi.pb c i
 have HF:Hid (∀ w,Bw W w→Calls Tryz.prog 65 #[.pointer (some ⟨b,0,none⟩),.int .i64 r,.agg #[.int .i64 c,.int .i64 i]] w fun e w'=>e=.returned (idE (firI ps r (c,i)))∧Bw w w'):=fun w hb=>first_c (HI w hb) hi r c i
 unfold virI
 cases hD:rfrI ps r (c,i) with
 | error x =>
   have hx:x≠0:=by rcases Zkf hD with rfl|rfl <;> decide
   rw [hD] at HR
   simp only [mthE] at HR
   clear h hi HI hD HO HU HF
   go_enter Tryz.func25,Tryz.ntmps25
   go_wp2_with (first
    | (go_at_call 64;refine (HR.out _ sqR).mono ?_;rintro e w1 ⟨rfl,hb⟩;have ad:w1.heap[W.heap.size]?=some (.cells #[.int .i64 c,.int .i64 i] 38 (0,0)):=(hb.block (W.heap.size) (by first|omega|(simp;try omega))).trans (Zg (Zo _ _));(try clear aB a0 a1 af aL aN);have aB:Hid _:=ad;obtain ⟨a0,a1,af,aL⟩:=rw2 ad;have aN:¬ W.heap.size=w1.heap.size:=(by omega);clear ad;have zd:w1.heap[W.heap.size+1]?=some (.cells #[.int .i64 0,.int .i64 0] 38 (0,0)):=(hb.block (W.heap.size+1) (by first|omega|(simp;try omega))).trans (Za _ _ (by simp));(try clear zB z0 z1 zf zL zN);have zB:Hid _:=zd;obtain ⟨z0,z1,zf,zL⟩:=rw2 zd;have zN:¬ W.heap.size+1=w1.heap.size:=(by omega);clear zd;have Bw1:Hid (Bw W w1):=Zb sqR hb;clear hb HR))
   exact bodyPost_ret (v:=idE ((0,0),x)) (by simp [results,Tryz.results25,go_sem,idE, *]) rfl ⟨rfl,(sqE Bw1)⟩
 | ok x =>
   rw [hD] at HR
   simp only [mthE] at HR
   simp only
   generalize firI ps r (c,i)=G at *
   obtain ⟨⟨g1,g2⟩,g3⟩:=G
   simp only [idE] at HF
   have HO2:Hid _:=HO.out x.nm x.ds
   have HU2:Hid _:=HU.out g1 g2
   generalize onI ps r x.nm x.ds=O at *
   simp only
   generalize unaI ps (g1,g2)=U at *
   obtain ⟨⟨o1,o2⟩,o3⟩:=O
   obtain ⟨⟨u1,u2⟩,u3⟩:=U
   simp only at HO2 HU2
   clear h hi HI hD HO HU
   cases hS:stB x.fl
   case true =>
    rw [stB] at hS
    clear HF HO2 HU2
    go_enter Tryz.func25,Tryz.ntmps25
    go_wp2_with (first
     | (go_at_call 64;refine (HR.out _ sqR).mono ?_;rintro e w1 ⟨⟨sa,sk,so,rfl⟩,hb⟩;have ad:w1.heap[W.heap.size]?=some (.cells #[.int .i64 c,.int .i64 i] 38 (0,0)):=(hb.block (W.heap.size) (by first|omega|(simp;try omega))).trans (Zg (Zo _ _));(try clear aB a0 a1 af aL aN);have aB:Hid _:=ad;obtain ⟨a0,a1,af,aL⟩:=rw2 ad;have aN:¬ W.heap.size=w1.heap.size:=(by omega);clear ad;have zd:w1.heap[W.heap.size+1]?=some (.cells #[.int .i64 0,.int .i64 0] 38 (0,0)):=(hb.block (W.heap.size+1) (by first|omega|(simp;try omega))).trans (Za _ _ (by simp));(try clear zB z0 z1 zf zL zN);have zB:Hid _:=zd;obtain ⟨z0,z1,zf,zL⟩:=rw2 zd;have zN:¬ W.heap.size+1=w1.heap.size:=(by omega);clear zd;have Bw1:Hid (Bw W w1):=Zb sqR hb;clear hb HR))
    exact bodyPost_ret (v:=idE ((0,0),23)) (by simp [results,Tryz.results25,go_sem,idE, *]) rfl ⟨rfl,(sqE Bw1)⟩
   case false =>
    rw [stB] at hS
    by_cases hg:g3=0
    ·subst hg
     clear HO2
     go_enter Tryz.func25,Tryz.ntmps25
     go_wp2_with (first
      | (go_at_call 64;refine (HR.out _ sqR).mono ?_;rintro e w1 ⟨⟨sa,sk,so,rfl⟩,hb⟩;have ad:w1.heap[W.heap.size]?=some (.cells #[.int .i64 c,.int .i64 i] 38 (0,0)):=(hb.block (W.heap.size) (by first|omega|(simp;try omega))).trans (Zg (Zo _ _));(try clear aB a0 a1 af aL aN);have aB:Hid _:=ad;obtain ⟨a0,a1,af,aL⟩:=rw2 ad;have aN:¬ W.heap.size=w1.heap.size:=(by omega);clear ad;have zd:w1.heap[W.heap.size+1]?=some (.cells #[.int .i64 0,.int .i64 0] 38 (0,0)):=(hb.block (W.heap.size+1) (by first|omega|(simp;try omega))).trans (Za _ _ (by simp));(try clear zB z0 z1 zf zL zN);have zB:Hid _:=zd;obtain ⟨z0,z1,zf,zL⟩:=rw2 zd;have zN:¬ W.heap.size+1=w1.heap.size:=(by omega);clear zd;have Bw1:Hid (Bw W w1):=Zb sqR hb;clear hb HR)
      | (go_at_call 65;refine (HF.out _ (sqE Bw1)).mono ?_;rintro e w2 ⟨rfl,hb⟩;have ad:w2.heap[W.heap.size]?=some (.cells #[.int .i64 c,.int .i64 i] 38 (0,0)):=(hb.block (W.heap.size) (by first|omega|(simp;try omega))).trans (Zg aB.out);(try clear aB a0 a1 af aL aN);have aB:Hid _:=ad;obtain ⟨a0,a1,af,aL⟩:=rw2 ad;have aN:¬ W.heap.size=w2.heap.size:=(by omega);clear ad;have zd:w2.heap[W.heap.size+1]?=some (.cells #[.int .i64 0,.int .i64 0] 38 (0,0)):=(hb.block (W.heap.size+1) (by first|omega|(simp;try omega))).trans (Zg zB.out);(try clear zB z0 z1 zf zL zN);have zB:Hid _:=zd;obtain ⟨z0,z1,zf,zL⟩:=rw2 zd;have zN:¬ W.heap.size+1=w2.heap.size:=(by omega);clear zd;have vd:w2.heap[w1.heap.size]?=some (.cells #[.string x.nm,.string x.ds,.int .i64 x.fl,.int .i64 x.lo,.int .i64 x.st,.slice sa sk so] 87 (0,0)):=(hb.block (w1.heap.size) (by first|omega|(simp;try omega))).trans (Zo _ _);(try clear vB v0 v1 v2 v3 v4 v5 vf vL vN);have vB:Hid _:=vd;obtain ⟨v0,v1,v2,v3,v4,v5,vf,vL⟩:=rw6 vd;have vN:¬ w1.heap.size=w2.heap.size:=(by omega);clear vd;have Bw2:Hid (Bw W w2):=Zb (sqE Bw1) hb;clear hb HF)
      | (go_at_call 67;refine (HU2.out _ (sqE Bw2)).mono ?_;rintro e w3 ⟨rfl,hb⟩;have zd:w3.heap[W.heap.size+1]?=some (.cells #[.int .i64 0,.int .i64 0] 38 (0,0)):=(hb.block (W.heap.size+1) (by first|omega|(simp;try omega))).trans (Zg zB.out);(try clear zB z0 z1 zf zL zN);have zB:Hid _:=zd;obtain ⟨z0,z1,zf,zL⟩:=rw2 zd;have zN:¬ W.heap.size+1=w3.heap.size:=(by omega);clear zd;have Bw3:Hid (Bw W w3):=Zb (sqE Bw2) hb;clear hb HU2))
     exact bodyPost_ret (v:=idE ((u1,u2),u3)) (by simp [results,Tryz.results25,go_sem,idE, *]) rfl ⟨rfl,(sqE Bw3)⟩
    ·rw [if_neg hg]
     clear HU2
     go_enter Tryz.func25,Tryz.ntmps25
     go_wp2_with (first
      | (go_at_call 64;refine (HR.out _ sqR).mono ?_;rintro e w1 ⟨⟨sa,sk,so,rfl⟩,hb⟩;have ad:w1.heap[W.heap.size]?=some (.cells #[.int .i64 c,.int .i64 i] 38 (0,0)):=(hb.block (W.heap.size) (by first|omega|(simp;try omega))).trans (Zg (Zo _ _));(try clear aB a0 a1 af aL aN);have aB:Hid _:=ad;obtain ⟨a0,a1,af,aL⟩:=rw2 ad;have aN:¬ W.heap.size=w1.heap.size:=(by omega);clear ad;have zd:w1.heap[W.heap.size+1]?=some (.cells #[.int .i64 0,.int .i64 0] 38 (0,0)):=(hb.block (W.heap.size+1) (by first|omega|(simp;try omega))).trans (Za _ _ (by simp));(try clear zB z0 z1 zf zL zN);have zB:Hid _:=zd;obtain ⟨z0,z1,zf,zL⟩:=rw2 zd;have zN:¬ W.heap.size+1=w1.heap.size:=(by omega);clear zd;have Bw1:Hid (Bw W w1):=Zb sqR hb;clear hb HR)
      | (go_at_call 65;refine (HF.out _ (sqE Bw1)).mono ?_;rintro e w2 ⟨rfl,hb⟩;have ad:w2.heap[W.heap.size]?=some (.cells #[.int .i64 c,.int .i64 i] 38 (0,0)):=(hb.block (W.heap.size) (by first|omega|(simp;try omega))).trans (Zg aB.out);(try clear aB a0 a1 af aL aN);have aB:Hid _:=ad;obtain ⟨a0,a1,af,aL⟩:=rw2 ad;have aN:¬ W.heap.size=w2.heap.size:=(by omega);clear ad;have zd:w2.heap[W.heap.size+1]?=some (.cells #[.int .i64 0,.int .i64 0] 38 (0,0)):=(hb.block (W.heap.size+1) (by first|omega|(simp;try omega))).trans (Zg zB.out);(try clear zB z0 z1 zf zL zN);have zB:Hid _:=zd;obtain ⟨z0,z1,zf,zL⟩:=rw2 zd;have zN:¬ W.heap.size+1=w2.heap.size:=(by omega);clear zd;have vd:w2.heap[w1.heap.size]?=some (.cells #[.string x.nm,.string x.ds,.int .i64 x.fl,.int .i64 x.lo,.int .i64 x.st,.slice sa sk so] 87 (0,0)):=(hb.block (w1.heap.size) (by first|omega|(simp;try omega))).trans (Zo _ _);(try clear vB v0 v1 v2 v3 v4 v5 vf vL vN);have vB:Hid _:=vd;obtain ⟨v0,v1,v2,v3,v4,v5,vf,vL⟩:=rw6 vd;have vN:¬ w1.heap.size=w2.heap.size:=(by omega);clear vd;have Bw2:Hid (Bw W w2):=Zb (sqE Bw1) hb;clear hb HF)
      | (go_at_call 66;refine (HO2.out _ (sqE Bw2)).mono ?_;rintro e w3 ⟨rfl,hb⟩;have zd:w3.heap[W.heap.size+1]?=some (.cells #[.int .i64 0,.int .i64 0] 38 (0,0)):=(hb.block (W.heap.size+1) (by first|omega|(simp;try omega))).trans (Zg zB.out);(try clear zB z0 z1 zf zL zN);have zB:Hid _:=zd;obtain ⟨z0,z1,zf,zL⟩:=rw2 zd;have zN:¬ W.heap.size+1=w3.heap.size:=(by omega);clear zd;have Bw3:Hid (Bw W w3):=Zb (sqE Bw2) hb;clear hb HO2))
     exact bodyPost_ret (v:=idE ((o1,o2),o3)) (by simp [results,Tryz.results25,go_sem,idE, *]) rfl ⟨rfl,(sqE Bw3)⟩
theorem itf_c {b:Nat} {ps:List Plc} {W:World} (h:WAt b ps W) (hi:WI ps) (r c i:Int):Calls Tryz.prog 28 #[.pointer (some ⟨b,0,none⟩),.int .i64 r,.agg #[.int .i64 c,.int .i64 i]] W fun e w'=>e=.returned (idE (itfI ps r (c,i)))∧Bw W w':=by
 have HI:∀ w,Bw W w→WAt b ps w:=fun w hb=>h.below hb
 have HR:Hid (∀ w,Bw W w→Calls Tryz.prog 64 #[.pointer (some ⟨b,0,none⟩),.int .i64 r,.agg #[.int .i64 c,.int .i64 i]] w fun e w'=>mthE (rfrI ps r (c,i)) e∧Bw w w'):=fun w hb=>rfr_c (HI w hb) hi.pb r c i
 have HO:Hid (∀ nm ds w,Bw W w→Calls Tryz.prog 66 #[.pointer (some ⟨b,0,none⟩),.int .i64 r,.string nm,.string ds] w fun e w'=>e=.returned (.tuple #[.agg #[.int .i64 (onI ps r nm ds).1.1,.int .i64 (onI ps r nm ds).1.2],.int .i64 (onI ps r nm ds).2])∧Bw w w'):=fun nm ds w hb=>one_c (HI w hb) hi r nm ds
 have HU:Hid (∀ c i w,Bw W w→Calls Tryz.prog 67 #[.pointer (some ⟨b,0,none⟩),.agg #[.int .i64 c,.int .i64 i]] w fun e w'=>e=.returned (.tuple #[.agg #[.int .i64 (unaI ps (c,i)).1.1,.int .i64 (unaI ps (c,i)).1.2],.int .i64 (unaI ps (c,i)).2])∧Bw w w'):=fun c i w hb=>una_c (HI w hb) hi.pb c i
 have HF:Hid (∀ nm ds fl lo st sa sk so w,Bw W w→Calls Tryz.prog 73 #[.pointer (some ⟨b,0,none⟩),.int .i64 r,.agg #[.string nm,.string ds,.int .i64 fl,.int .i64 lo,.int .i64 st,.slice sa sk so]] w fun e w'=>e=.returned (idB (uchI ps nm ds r))∧Bw w w'):=fun nm ds fl lo st sa sk so w hb=>uch_c (HI w hb) hi r nm ds fl lo st sa sk so
 have HS:Hid (∀ c i w,Bw W w→Calls Tryz.prog 74 #[.pointer (some ⟨b,0,none⟩),.agg #[.int .i64 c,.int .i64 i],.int .i64 1] w fun e w'=>e=.returned (.bool (hasS ps c i 1))∧Bw w w'):=fun c i w hb=>chS_c (HI w hb) hi.pb c i 1
 unfold itfI
 cases hD:rfrI ps r (c,i) with
 | error x =>
   have hx:x≠0:=by rcases Zkf hD with rfl|rfl <;> decide
   rw [hD] at HR
   simp only [mthE] at HR
   clear h hi HI hD HO HU HF HS
   go_enter Tryz.func28,Tryz.ntmps28
   go_wp2_with (first
    | (go_at_call 64;refine (HR.out _ sqR).mono ?_;rintro e w1 ⟨rfl,hb⟩;have ad:w1.heap[W.heap.size]?=some (.cells #[.int .i64 c,.int .i64 i] 38 (0,0)):=(hb.block (W.heap.size) (by first|omega|(simp;try omega))).trans (Zg (Zo _ _));(try clear aB a0 a1 af aL aN);have aB:Hid _:=ad;obtain ⟨a0,a1,af,aL⟩:=rw2 ad;have aN:¬ W.heap.size=w1.heap.size:=(by omega);clear ad;have zd:w1.heap[W.heap.size+1]?=some (.cells #[.int .i64 0,.int .i64 0] 38 (0,0)):=(hb.block (W.heap.size+1) (by first|omega|(simp;try omega))).trans (Za _ _ (by simp));(try clear zB z0 z1 zf zL zN);have zB:Hid _:=zd;obtain ⟨z0,z1,zf,zL⟩:=rw2 zd;have zN:¬ W.heap.size+1=w1.heap.size:=(by omega);clear zd;have Bw1:Hid (Bw W w1):=Zb sqR hb;clear hb HR))
   exact bodyPost_ret (v:=idE ((0,0),x)) (by simp [results,Tryz.results28,go_sem,idE, *]) rfl ⟨rfl,(sqE Bw1)⟩
 | ok x =>
   rw [hD] at HR
   simp only [mthE] at HR
   simp only
   have HF2:Hid (∀ fl lo st sa sk so w,Bw W w→Calls Tryz.prog 73 #[.pointer (some ⟨b,0,none⟩),.int .i64 r,.agg #[.string x.nm,.string x.ds,.int .i64 fl,.int .i64 lo,.int .i64 st,.slice sa sk so]] w fun e w'=>e=.returned (idB (uchI ps x.nm x.ds r))∧Bw w w'):=HF.out x.nm x.ds
   clear HF
   generalize uchI ps x.nm x.ds r=G at *
   obtain ⟨⟨g1,g2⟩,g3⟩:=G
   simp only [idB] at HF2
   have HO2:Hid _:=HO.out x.nm x.ds
   have HU2:Hid _:=HU.out g1 g2
   have HS2:Hid _:=HS.out g1 g2
   generalize onI ps r x.nm x.ds=O at *
   simp only
   generalize unaI ps (g1,g2)=U at *
   generalize hasS ps g1 g2 1=S at *
   obtain ⟨⟨o1,o2⟩,o3⟩:=O
   obtain ⟨⟨u1,u2⟩,u3⟩:=U
   simp only at HO2 HU2 HS2
   clear h hi HI hD HO HU HS
   cases hS:hasI x.fl 10
   case true =>
    rw [hasI] at hS
    clear HF2 HO2 HU2 HS2
    go_enter Tryz.func28,Tryz.ntmps28
    go_wp2_with (first
     | (go_at_call 64;refine (HR.out _ sqR).mono ?_;rintro e w1 ⟨⟨sa,sk,so,rfl⟩,hb⟩;have ad:w1.heap[W.heap.size]?=some (.cells #[.int .i64 c,.int .i64 i] 38 (0,0)):=(hb.block (W.heap.size) (by first|omega|(simp;try omega))).trans (Zg (Zo _ _));(try clear aB a0 a1 af aL aN);have aB:Hid _:=ad;obtain ⟨a0,a1,af,aL⟩:=rw2 ad;have aN:¬ W.heap.size=w1.heap.size:=(by omega);clear ad;have zd:w1.heap[W.heap.size+1]?=some (.cells #[.int .i64 0,.int .i64 0] 38 (0,0)):=(hb.block (W.heap.size+1) (by first|omega|(simp;try omega))).trans (Za _ _ (by simp));(try clear zB z0 z1 zf zL zN);have zB:Hid _:=zd;obtain ⟨z0,z1,zf,zL⟩:=rw2 zd;have zN:¬ W.heap.size+1=w1.heap.size:=(by omega);clear zd;have Bw1:Hid (Bw W w1):=Zb sqR hb;clear hb HR))
    exact bodyPost_ret (v:=idE ((0,0),23)) (by simp [results,Tryz.results28,go_sem,idE, *]) rfl ⟨rfl,(sqE Bw1)⟩
   case false =>
    rw [hasI] at hS
    cases g3
    case false =>
     clear HU2 HS2
     go_enter Tryz.func28,Tryz.ntmps28
     go_wp2_with (first
      | (go_at_call 64;refine (HR.out _ sqR).mono ?_;rintro e w1 ⟨⟨sa,sk,so,rfl⟩,hb⟩;have ad:w1.heap[W.heap.size]?=some (.cells #[.int .i64 c,.int .i64 i] 38 (0,0)):=(hb.block (W.heap.size) (by first|omega|(simp;try omega))).trans (Zg (Zo _ _));(try clear aB a0 a1 af aL aN);have aB:Hid _:=ad;obtain ⟨a0,a1,af,aL⟩:=rw2 ad;have aN:¬ W.heap.size=w1.heap.size:=(by omega);clear ad;have zd:w1.heap[W.heap.size+1]?=some (.cells #[.int .i64 0,.int .i64 0] 38 (0,0)):=(hb.block (W.heap.size+1) (by first|omega|(simp;try omega))).trans (Za _ _ (by simp));(try clear zB z0 z1 zf zL zN);have zB:Hid _:=zd;obtain ⟨z0,z1,zf,zL⟩:=rw2 zd;have zN:¬ W.heap.size+1=w1.heap.size:=(by omega);clear zd;have Bw1:Hid (Bw W w1):=Zb sqR hb;clear hb HR)
      | (go_at_call 73;refine (HF2.out _ _ _ _ _ _ _ (sqE Bw1)).mono ?_;rintro e w2 ⟨rfl,hb⟩;have ad:w2.heap[W.heap.size]?=some (.cells #[.int .i64 c,.int .i64 i] 38 (0,0)):=(hb.block (W.heap.size) (by first|omega|(simp;try omega))).trans (Zg aB.out);(try clear aB a0 a1 af aL aN);have aB:Hid _:=ad;obtain ⟨a0,a1,af,aL⟩:=rw2 ad;have aN:¬ W.heap.size=w2.heap.size:=(by omega);clear ad;have zd:w2.heap[W.heap.size+1]?=some (.cells #[.int .i64 0,.int .i64 0] 38 (0,0)):=(hb.block (W.heap.size+1) (by first|omega|(simp;try omega))).trans (Zg zB.out);(try clear zB z0 z1 zf zL zN);have zB:Hid _:=zd;obtain ⟨z0,z1,zf,zL⟩:=rw2 zd;have zN:¬ W.heap.size+1=w2.heap.size:=(by omega);clear zd;have vd:w2.heap[w1.heap.size]?=some (.cells #[.string x.nm,.string x.ds,.int .i64 x.fl,.int .i64 x.lo,.int .i64 x.st,.slice sa sk so] 87 (0,0)):=(hb.block (w1.heap.size) (by first|omega|(simp;try omega))).trans (Zo _ _);(try clear vB v0 v1 v2 v3 v4 v5 vf vL vN);have vB:Hid _:=vd;obtain ⟨v0,v1,v2,v3,v4,v5,vf,vL⟩:=rw6 vd;have vN:¬ w1.heap.size=w2.heap.size:=(by omega);clear vd;have Bw2:Hid (Bw W w2):=Zb (sqE Bw1) hb;clear hb HF2)
      | (go_at_call 66;refine (HO2.out _ (sqE Bw2)).mono ?_;rintro e w3 ⟨rfl,hb⟩;have zd:w3.heap[W.heap.size+1]?=some (.cells #[.int .i64 0,.int .i64 0] 38 (0,0)):=(hb.block (W.heap.size+1) (by first|omega|(simp;try omega))).trans (Zg zB.out);(try clear zB z0 z1 zf zL zN);have zB:Hid _:=zd;obtain ⟨z0,z1,zf,zL⟩:=rw2 zd;have zN:¬ W.heap.size+1=w3.heap.size:=(by omega);clear zd;have Bw3:Hid (Bw W w3):=Zb (sqE Bw2) hb;clear hb HO2))
     exact bodyPost_ret (v:=idE ((o1,o2),o3)) (by simp [results,Tryz.results28,go_sem,idE, *]) rfl ⟨rfl,(sqE Bw3)⟩
    case true =>
     clear HO2
     cases S
     case false =>
      clear HU2
      go_enter Tryz.func28,Tryz.ntmps28
      go_wp2_with (first
       | (go_at_call 64;refine (HR.out _ sqR).mono ?_;rintro e w1 ⟨⟨sa,sk,so,rfl⟩,hb⟩;have ad:w1.heap[W.heap.size]?=some (.cells #[.int .i64 c,.int .i64 i] 38 (0,0)):=(hb.block (W.heap.size) (by first|omega|(simp;try omega))).trans (Zg (Zo _ _));(try clear aB a0 a1 af aL aN);have aB:Hid _:=ad;obtain ⟨a0,a1,af,aL⟩:=rw2 ad;have aN:¬ W.heap.size=w1.heap.size:=(by omega);clear ad;have zd:w1.heap[W.heap.size+1]?=some (.cells #[.int .i64 0,.int .i64 0] 38 (0,0)):=(hb.block (W.heap.size+1) (by first|omega|(simp;try omega))).trans (Za _ _ (by simp));(try clear zB z0 z1 zf zL zN);have zB:Hid _:=zd;obtain ⟨z0,z1,zf,zL⟩:=rw2 zd;have zN:¬ W.heap.size+1=w1.heap.size:=(by omega);clear zd;have Bw1:Hid (Bw W w1):=Zb sqR hb;clear hb HR)
       | (go_at_call 73;refine (HF2.out _ _ _ _ _ _ _ (sqE Bw1)).mono ?_;rintro e w2 ⟨rfl,hb⟩;have ad:w2.heap[W.heap.size]?=some (.cells #[.int .i64 c,.int .i64 i] 38 (0,0)):=(hb.block (W.heap.size) (by first|omega|(simp;try omega))).trans (Zg aB.out);(try clear aB a0 a1 af aL aN);have aB:Hid _:=ad;obtain ⟨a0,a1,af,aL⟩:=rw2 ad;have aN:¬ W.heap.size=w2.heap.size:=(by omega);clear ad;have zd:w2.heap[W.heap.size+1]?=some (.cells #[.int .i64 0,.int .i64 0] 38 (0,0)):=(hb.block (W.heap.size+1) (by first|omega|(simp;try omega))).trans (Zg zB.out);(try clear zB z0 z1 zf zL zN);have zB:Hid _:=zd;obtain ⟨z0,z1,zf,zL⟩:=rw2 zd;have zN:¬ W.heap.size+1=w2.heap.size:=(by omega);clear zd;have vd:w2.heap[w1.heap.size]?=some (.cells #[.string x.nm,.string x.ds,.int .i64 x.fl,.int .i64 x.lo,.int .i64 x.st,.slice sa sk so] 87 (0,0)):=(hb.block (w1.heap.size) (by first|omega|(simp;try omega))).trans (Zo _ _);(try clear vB v0 v1 v2 v3 v4 v5 vf vL vN);have vB:Hid _:=vd;obtain ⟨v0,v1,v2,v3,v4,v5,vf,vL⟩:=rw6 vd;have vN:¬ w1.heap.size=w2.heap.size:=(by omega);clear vd;have Bw2:Hid (Bw W w2):=Zb (sqE Bw1) hb;clear hb HF2)
       | (go_at_call 74;refine (HS2.out _ (sqE Bw2)).mono ?_;rintro e w3 ⟨rfl,hb⟩;have zd:w3.heap[W.heap.size+1]?=some (.cells #[.int .i64 0,.int .i64 0] 38 (0,0)):=(hb.block (W.heap.size+1) (by first|omega|(simp;try omega))).trans (Zg zB.out);(try clear zB z0 z1 zf zL zN);have zB:Hid _:=zd;obtain ⟨z0,z1,zf,zL⟩:=rw2 zd;have zN:¬ W.heap.size+1=w3.heap.size:=(by omega);clear zd;have Bw3:Hid (Bw W w3):=Zb (sqE Bw2) hb;clear hb HS2))
      exact bodyPost_ret (v:=idE ((0,0),22)) (by simp [results,Tryz.results28,go_sem,idE, *]) rfl ⟨rfl,(sqE Bw3)⟩
     case true =>
      go_enter Tryz.func28,Tryz.ntmps28
      go_wp2_with (first
       | (go_at_call 64;refine (HR.out _ sqR).mono ?_;rintro e w1 ⟨⟨sa,sk,so,rfl⟩,hb⟩;have ad:w1.heap[W.heap.size]?=some (.cells #[.int .i64 c,.int .i64 i] 38 (0,0)):=(hb.block (W.heap.size) (by first|omega|(simp;try omega))).trans (Zg (Zo _ _));(try clear aB a0 a1 af aL aN);have aB:Hid _:=ad;obtain ⟨a0,a1,af,aL⟩:=rw2 ad;have aN:¬ W.heap.size=w1.heap.size:=(by omega);clear ad;have zd:w1.heap[W.heap.size+1]?=some (.cells #[.int .i64 0,.int .i64 0] 38 (0,0)):=(hb.block (W.heap.size+1) (by first|omega|(simp;try omega))).trans (Za _ _ (by simp));(try clear zB z0 z1 zf zL zN);have zB:Hid _:=zd;obtain ⟨z0,z1,zf,zL⟩:=rw2 zd;have zN:¬ W.heap.size+1=w1.heap.size:=(by omega);clear zd;have Bw1:Hid (Bw W w1):=Zb sqR hb;clear hb HR)
       | (go_at_call 73;refine (HF2.out _ _ _ _ _ _ _ (sqE Bw1)).mono ?_;rintro e w2 ⟨rfl,hb⟩;have ad:w2.heap[W.heap.size]?=some (.cells #[.int .i64 c,.int .i64 i] 38 (0,0)):=(hb.block (W.heap.size) (by first|omega|(simp;try omega))).trans (Zg aB.out);(try clear aB a0 a1 af aL aN);have aB:Hid _:=ad;obtain ⟨a0,a1,af,aL⟩:=rw2 ad;have aN:¬ W.heap.size=w2.heap.size:=(by omega);clear ad;have zd:w2.heap[W.heap.size+1]?=some (.cells #[.int .i64 0,.int .i64 0] 38 (0,0)):=(hb.block (W.heap.size+1) (by first|omega|(simp;try omega))).trans (Zg zB.out);(try clear zB z0 z1 zf zL zN);have zB:Hid _:=zd;obtain ⟨z0,z1,zf,zL⟩:=rw2 zd;have zN:¬ W.heap.size+1=w2.heap.size:=(by omega);clear zd;have vd:w2.heap[w1.heap.size]?=some (.cells #[.string x.nm,.string x.ds,.int .i64 x.fl,.int .i64 x.lo,.int .i64 x.st,.slice sa sk so] 87 (0,0)):=(hb.block (w1.heap.size) (by first|omega|(simp;try omega))).trans (Zo _ _);(try clear vB v0 v1 v2 v3 v4 v5 vf vL vN);have vB:Hid _:=vd;obtain ⟨v0,v1,v2,v3,v4,v5,vf,vL⟩:=rw6 vd;have vN:¬ w1.heap.size=w2.heap.size:=(by omega);clear vd;have Bw2:Hid (Bw W w2):=Zb (sqE Bw1) hb;clear hb HF2)
       | (go_at_call 74;refine (HS2.out _ (sqE Bw2)).mono ?_;rintro e w3 ⟨rfl,hb⟩;have zd:w3.heap[W.heap.size+1]?=some (.cells #[.int .i64 0,.int .i64 0] 38 (0,0)):=(hb.block (W.heap.size+1) (by first|omega|(simp;try omega))).trans (Zg zB.out);(try clear zB z0 z1 zf zL zN);have zB:Hid _:=zd;obtain ⟨z0,z1,zf,zL⟩:=rw2 zd;have zN:¬ W.heap.size+1=w3.heap.size:=(by omega);clear zd;have yd:w3.heap[w2.heap.size]?=some (.cells #[.int .i64 g1,.int .i64 g2] 38 (0,0)):=(hb.block (w2.heap.size) (by first|omega|(simp;try omega))).trans (Zo _ _);(try clear yB y0 y1 yf yL yN);have yB:Hid _:=yd;obtain ⟨y0,y1,yf,yL⟩:=rw2 yd;have yN:¬ w2.heap.size=w3.heap.size:=(by omega);clear yd;have Bw3:Hid (Bw W w3):=Zb (sqE Bw2) hb;clear hb HS2)
       | (go_at_call 67;refine (HU2.out _ Bw3.out).mono ?_;rintro e w4 ⟨rfl,hb⟩;have zd:w4.heap[W.heap.size+1]?=some (.cells #[.int .i64 0,.int .i64 0] 38 (0,0)):=(hb.block (W.heap.size+1) (by first|omega|(simp;try omega))).trans (zB.out);(try clear zB z0 z1 zf zL zN);have zB:Hid _:=zd;obtain ⟨z0,z1,zf,zL⟩:=rw2 zd;have zN:¬ W.heap.size+1=w4.heap.size:=(by omega);clear zd;have Bw4:Hid (Bw W w4):=Zb Bw3.out hb;clear hb HU2))
      exact bodyPost_ret (v:=idE ((u1,u2),u3)) (by simp [results,Tryz.results28,go_sem,idE, *]) rfl ⟨rfl,(sqE Bw4)⟩
def NmW (ps:List Plc):Prop:=∀ k q,ps[k]?=some q→Yd ps (Je q)=some k∧Zp (Je q)=true
theorem cls_name {c:Cls} (h:clsB c=true):Zp c.nm.data.toList=true:=by
 unfold clsB at h
 simp only [Bool.and_eq_true] at h
 exact h.1.1.1.1.1.1.1.1.1
theorem nmW (l:List Cls) (hl:∀ c∈l,ClsW c):NmW (wld l):=by
 refine Zae (P:=NmW) (fun k q hk=>?_) (fun ps c h hc=>?_) l hl
 ·match k,hk with
  | 0,hk=>simp [P3] at hk;subst hk;exact ⟨by decide,by decide⟩
  | 1,hk=>simp [P3] at hk;subst hk;exact ⟨by decide,by decide⟩
  | 2,hk=>simp [P3] at hk;subst hk;exact ⟨by decide,by decide⟩
  | (k+3),hk=>simp [P3] at hk
 ·cases hd:defN ps c with
  | error e=>exact h
  | ok p =>
    obtain ⟨h1,_,hn,s,l,_,_,rfl⟩:=Zcd hd
    intro k q hk
    have hk2:(ps++[(⟨hcOf c,s,Yf (ps.map Plc.cl) s l⟩:Plc)])[k]?=some q:=hk
    show Yd (ps++[_]) (Je q)=some k∧_
    by_cases hlt:k<ps.length
    ·rw [List.getElem?_append_left hlt] at hk2
     obtain ⟨h2,h3⟩:=h k q hk2
     exact ⟨Ql h2 hn,h3⟩
    ·rw [List.getElem?_append_right (by omega)] at hk2
     have he:k - ps.length=0:=by
      have:=(List.getElem?_eq_some_iff.1 hk2).1
      simp at this;omega
     rw [he] at hk2
     simp at hk2
     subst hk2
     refine ⟨?_,cls_name h1⟩
     rw [Yd,Zao,if_pos rfl]
     congr 1;omega
section
variable {ps:List Plc} {p:Plc}
end
variable {ps:List Plc} {p:Plc}
def topB (m:HM):Bool:=((bits .and .i64 m.fl 1 != 0)&&(bits .and .i64 m.fl 8 == 0))&&!(m.nm.toList == [60,105,110,105,116,62])
def iroB (m:HM):Bool:=bits .and .i64 m.fl 10 == 0
def rtK (p:HM→Bool) (k:Int):List HM→Nat→List (Int×Int)
 | [],_=>[]
 | m::r,i=>(if p m then [(k,(i:Int))] else [])++rtK p k r (i+1)
theorem Zbd (p:HM→Bool) (k:Int):∀ (l:List HM) (m:HM) (i:Nat),rtK p k (l++[m]) i=rtK p k l i++(if p m then [(k,((i+l.length:Nat):Int))] else [])
 | [],m,i=>by simp [rtK]
 | x::r,m,i=>by
   rw [List.cons_append,rtK,rtK,Zbd p k r m (i+1),List.append_assoc,List.length_cons,show i+1+r.length=i+(r.length+1) by omega]
theorem Xg (p:HM→Bool) (k:Int):∀ (l:List HM) (i:Nat),(rtK p k l i).length≤l.length
 | [],i=>Nat.le_refl _
 | x::r,i=>by
   have:=Xg p k r (i+1)
   rw [rtK,List.length_append,List.length_cons]
   split <;> simp <;> omega
def mtK (ps:List Plc) (k:Nat):List HM:=match ps[k]? with
 | some q=>q.c.ms
 | none=>[]
def rtsP (ps:List Plc) (q:Plc):List (Int×Int):=rtK topB 0 (mtK ps 0) 0++q.cl.flatMap fun k:Nat=>rtK iroB (k:Int) (mtK ps k) 0
def itE (ps:List Plc) (x:Int):Int:=match plcI ps x with
 | none=>3
 | some _=>if ifcI ps x then 23 else 0
def rtsR (ps:List Plc) (x:Int):List (Int×Int):=match plcI ps x with
 | none=>[]
 | some q=>if ifcI ps x then [] else rtsP ps q
theorem Zec (ps:List Plc) (x:Int):(itE ps x=0∧∃ (k:Nat) (q:Plc),x=(k:Int)∧ps[k]?=some q∧ifcI ps x=false∧rtsR ps x=rtsP ps q)∨(rtsR ps x=[]∧(itE ps x=3∨itE ps x=23)):=by
 rcases Zl ps x with ⟨h1,_⟩|⟨k,q,rfl,h2,h1⟩
 ·exact .inr ⟨by rw [rtsR,h1],.inl (by rw [itE,h1])⟩
 ·cases hf:ifcI ps (k:Int) with
  | true=>exact .inr ⟨by rw [rtsR,h1];simp [hf],.inr (by rw [itE,h1];simp [hf])⟩
  | false=>exact .inl ⟨by rw [itE,h1];simp [hf],k,q,rfl,h2,rfl,by rw [rtsR,h1];simp [hf]⟩
theorem Zka {ps:List Plc} (hW:WI ps) {k:Nat} {q:Plc} (hq:ps[k]?=some q):(rtsP ps q).length≤301000000:=by
 have hm:∀ j,(mtK ps j).length≤1000000:=fun j=>by
  rw [mtK]
  split
  ·rename_i p hp;exact (hW.pb p (List.mem_of_getElem? hp)).ms
  ·exact Nat.zero_le _
 have hcl:q.cl.length≤300:=by
  have h1:clO (ps.map nd) k=q.cl:=by rw [clO,List.getElem?_map,hq];rfl
  have h2:=hW.wo.cl k (nd q) (by rw [List.getElem?_map,hq];rfl)
  have h3:q.cl.length≤ps.length:=by
   have:=List.Nodup.length_le_of_subset h2.1 (l₂:=List.range ps.length) (fun i hi=>List.mem_range.2 (by
    have h5:=(h2.2 i hi).1
    have h6:=(List.getElem?_eq_some_iff.1 hq).1
    omega))
   rw [List.length_range] at this
   exact this
  have:=hW.hi
  omega
 have hf:∀ l:List Nat,(l.flatMap fun k:Nat=>rtK iroB (k:Int) (mtK ps k) 0).length≤l.length * 1000000:=by
  intro l
  induction l with
  | nil=>exact Nat.zero_le _
  | cons x r ih =>
    rw [List.flatMap_cons,List.length_append,List.length_cons]
    have h1:=Xg iroB (x:Int) (mtK ps x) 0
    have h2:=hm x
    omega
 rw [rtsP,List.length_append]
 have h1:=Xg topB 0 (mtK ps 0) 0
 have h2:=hm 0
 have h3:=hf q.cl
 omega
structure Ent where
 r:Int×Int
 m:Int×Int
 e:Int
 v:Int×Int
 f:Int
def entP (ps:List Plc) (id:Int) (x:Int×Int):Ent:=⟨x,(itfI ps id x).1,(itfI ps id x).2,(virI ps id x).1,(virI ps id x).2⟩
def Ent.cells (x:Ent):List Value:=[.int .i64 x.r.1,.int .i64 x.r.2,.int .i64 x.m.1,.int .i64 x.m.2,.int .i64 x.e,.int .i64 x.v.1,.int .i64 x.v.2,.int .i64 x.f]
def Ent.agg (x:Ent):Value:=.agg #[.int .i64 x.r.1,.int .i64 x.r.2,.int .i64 x.m.1,.int .i64 x.m.2,.int .i64 x.e,.int .i64 x.v.1,.int .i64 x.v.2,.int .i64 x.f]
def Xk (l:List Ent):List Value:=l.flatMap Ent.cells
theorem Zls (l r:List Ent):Xk (l++r)=Xk l++Xk r:=List.flatMap_append
theorem Xb:∀ (l:List Ent) (i:Nat) (x:Ent) (j:Nat),l[i]?=some x→j<8→(Xk l)[i * 8+j]?=x.cells[j]?
 | [],_,_,_,h,_=>by simp at h
 | y::r,0,x,j,h,hj=>by
   simp only [List.getElem?_cons_zero,Option.some.injEq] at h
   subst h
   rw [Xk,List.flatMap_cons,Nat.zero_mul,Nat.zero_add,List.getElem?_append_left (by simp [Ent.cells];omega)]
 | y::r,i+1,x,j,h,hj=>by
   rw [List.getElem?_cons_succ] at h
   rw [Xk,List.flatMap_cons,List.getElem?_append_right (by simp [Ent.cells];omega),show (i+1) * 8+j - (y.cells).length=i * 8+j by simp [Ent.cells];omega]
   exact Xb r i x j h hj
def itT (ps:List Plc) (x:Int):List Ent:=(rtsR ps x).map (entP ps x)
end Go.Proofs.YtmafkabjjibcbaaGreat
