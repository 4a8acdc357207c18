import Derived.Test.YthfifobokpfpkaaGreatOvG
import Derived.Test.YthfifobokpfpkaaGreatGrA
import Derived.Test.YthfifobokpfpkaaGreatOvD
import Derived.Test.YthfifobokpfpkaaGreatLwA
import Derived.Test.YthfifobokpfpkaaGreatTypesParse
import Derived.Test.YthfifobokpfpkaaGreatCurB
import Derived.Test.YthfifobokpfpkaaGreatSoD
import Derived.Test.YthfifobokpfpkaaGreatOwnRefs
import Derived.Test.YthfifobokpfpkaaGreatOwnL
import Derived.Test.YthfifobokpfpkaaGreatHrR
import Derived.Test.YthfifobokpfpkaaGreatHrP
import Derived.Test.YthfifobokpfpkaaGreatHrQ
import Derived.Test.YthfifobokpfpkaaGreatOwnX
import Derived.Test.YthfifobokpfpkaaGreatTypesPure
import Derived.Test.YthfifobokpfpkaaGreatRfX
import Derived.Test.YthfifobokpfpkaaGreatHrT
import Derived.Test.YthfifobokpfpkaaGreatHrY
import Derived.Test.YthfifobokpfpkaaGreatHrZ
import Derived.Test.YthfifobokpfpkaaGreatMxC
import Derived.Lib.SmallJoins
import Derived.Laws.IdiomStrings
import Derived.Deep.LoopGhost
import Derived.Deep.RegionHeld3
import Derived.Lib.Join
import GoSem.Op.String
import Derived.Deep.QuietTactic
import Derived.BigQuiet
import Derived.Deep.DeepCutAuto
import Derived.IntWalk
import Derived.Maps.AppendAt
set_option maxRecDepth 100000
namespace Go.Proofs.YthfifobokpfpkaaGreat
open Go.RowKit Go.Maps
theorem row2 {w:World} {n:Nat} {t:TypeId} {a0 a1:Value} (h:w.heap[n]?=some (.cells #[a0,a1] t (0,0))):w.cell? ⟨n,0,none⟩=some a0∧w.cell? ⟨n,1,none⟩=some a1∧w.frozen? ⟨n,0,none⟩=false∧w.frozen? ⟨n,1,none⟩=false∧n<w.heap.size :=
  ⟨(cell_of_row w n 0 _ _ _ h).trans rfl,(cell_of_row w n 1 _ _ _ h).trans rfl,froz h 0,froz h 1,(Array.getElem?_eq_some_iff.1 h).1⟩
set_option maxHeartbeats 1000000 in
theorem first_no1 {b:Nat} {ps:List Plc} {W:World} (h:WAt b ps W) (hi:WI ps) (r c i:Int) (hm:methI ps c i=none):Calls Tryz.prog 22 #[.pointer (some ⟨b,0,none⟩),.int .i64 r,.agg #[.int .i64 c,.int .i64 i]] W fun e w'=>e=.returned (idE ((0,0),3))∧Below W.heap.size W w':=by
  have HR:Hid (∀ w,Below W.heap.size W w→Calls Tryz.prog 83 #[.pointer (some ⟨b,0,none⟩),.agg #[.int .i64 c,.int .i64 i]] w fun e w'=>e=.returned (.tuple #[.agg #[.string ⟨#[]⟩,.string ⟨#[]⟩,.int .i64 0,.int .i64 0,.int .i64 0,.slice none 0 0,.int .i64 0,.int .i64 0,.pointer none],.int .i64 3])∧Below w.heap.size w w'):=fun w hb=>by
    have:=read_c (h.below hb) hi c i
    rw [hm] at this
    exact this
  have HZ2:Hid (((W.alloc (.cells #[.int .i64 c,.int .i64 i] 24)).alloc (.cells #[.int .i64 0,.int .i64 0] 24)).heap[W.heap.size+1]?=some (.cells #[.int .i64 0,.int .i64 0] 24 (0,0))):=halloc2 _ _ (by simp)
  clear h hi hm
  go_enter Tryz.func22,Tryz.ntmps22
  go_wp2_with (go_at_call 83;refine (HR.out _ (by repeat (first|exact Below.refl _ _|refine Below.setCell ?_ (by simp;try omega) _|refine Below.alloc ?_ (by simp;try omega) _|refine Below.drew ?_))).mono ?_;rintro e w1 ⟨rfl,hb⟩;have Bw1:Hid (Below (W.heap.size+2) ((W.alloc (.cells #[.int .i64 c,.int .i64 i] 24)).alloc (.cells #[.int .i64 0,.int .i64 0] 24)) w1):=hb.mono (by simp);obtain ⟨z0,z1,f0,f1,zL⟩:=row2 ((Bw1.out.block (W.heap.size+1) (by omega)).trans HZ2.out);clear hb HR)
  exact bodyPost_ret (v:=idE ((0,0),3)) (by simp [results,Tryz.results22,go_sem,idE, *]) rfl ⟨rfl,(by have hbw:Below W.heap.size W w1:=(((Below.refl _ W).alloc (Nat.le_refl _) _).alloc (by simp) _).trans (Bw1.out.mono (by omega));repeat (first|refine Below.setCell ?_ (by simp;try omega) _|refine Below.alloc ?_ (by have:=hbw.size;simp;try omega) _|exact hbw))⟩
set_option maxHeartbeats 1000000 in
theorem first_no2 {b:Nat} {ps:List Plc} {W:World} (h:WAt b ps W) (hi:WI ps) (r c i:Int) (m:HM) (hm:methI ps c i=some m) (hr:plcI ps r=none):Calls Tryz.prog 22 #[.pointer (some ⟨b,0,none⟩),.int .i64 r,.agg #[.int .i64 c,.int .i64 i]] W fun e w'=>e=.returned (idE ((0,0),3))∧Below W.heap.size W w':=by
  have HR:Hid (∀ w,Below W.heap.size W w→Calls Tryz.prog 83 #[.pointer (some ⟨b,0,none⟩),.agg #[.int .i64 c,.int .i64 i]] w fun e w'=>(∃ ma mk mo,e=.returned (.tuple #[.agg #[.string m.nm,.string m.ds,.int .i64 m.fl,.int .i64 m.lo,.int .i64 m.st,.slice ma mk mo,.int .i64 c,.int .i64 i,.pointer (some ⟨b,0,none⟩)],.int .i64 0]))∧Below w.heap.size w w'):=fun w hb=>by
    have:=read_c (h.below hb) hi c i
    rw [hm] at this
    exact this
  have HZ2:Hid (((W.alloc (.cells #[.int .i64 c,.int .i64 i] 24)).alloc (.cells #[.int .i64 0,.int .i64 0] 24)).heap[W.heap.size+1]?=some (.cells #[.int .i64 0,.int .i64 0] 24 (0,0))):=halloc2 _ _ (by simp)
  have HD:Hid (∀ w,Below W.heap.size W w→Calls Tryz.prog 86 #[.pointer (some ⟨b,0,none⟩),.int .i64 r] w fun e w'=>e=.returned (.tuple #[.slice none 0 0,.int .i64 3])∧Below w.heap.size w w'):=fun w hb=>down_no (h.below hb) r hr
  clear h hi hm hr
  go_enter Tryz.func22,Tryz.ntmps22
  go_wp2_with (first
    | (go_at_call 83;refine (HR.out _ (by repeat (first|exact Below.refl _ _|refine Below.setCell ?_ (by simp;try omega) _|refine Below.alloc ?_ (by simp;try omega) _|refine Below.drew ?_))).mono ?_;rintro e w1 ⟨⟨ma,mk,mo,rfl⟩,hb⟩;have Bw1:Hid (Below (W.heap.size+2) ((W.alloc (.cells #[.int .i64 c,.int .i64 i] 24)).alloc (.cells #[.int .i64 0,.int .i64 0] 24)) w1):=hb.mono (by simp);clear hb HR)
    | (go_at_call 86;refine (HD.out _ ((((((Below.refl _ W).alloc (Nat.le_refl _) _).alloc (by simp) _).trans (Bw1.out.mono (by omega)))).alloc (by have:=Bw1.out.size;simp at this;omega) _)).mono ?_;rintro e w2 ⟨rfl,hb⟩;have Bw2:Hid (Below (W.heap.size+2) ((W.alloc (.cells #[.int .i64 c,.int .i64 i] 24)).alloc (.cells #[.int .i64 0,.int .i64 0] 24)) w2):=(Bw1.out.alloc (by have:=Bw1.out.size;simpa using this) _).trans (hb.mono (by have:=Bw1.out.size;simp at this;simp;omega));obtain ⟨z0,z1,f0,f1,zL⟩:=row2 ((Bw2.out.block (W.heap.size+1) (by omega)).trans HZ2.out);clear hb HD))
  exact bodyPost_ret (v:=idE ((0,0),3)) (by simp [results,Tryz.results22,go_sem,idE, *]) rfl ⟨rfl,(by have hbw:Below W.heap.size W w2:=(((Below.refl _ W).alloc (Nat.le_refl _) _).alloc (by simp) _).trans (Bw2.out.mono (by omega));repeat (first|refine Below.setCell ?_ (by simp;try omega) _|refine Below.alloc ?_ (by have:=hbw.size;simp;try omega) _|exact hbw))⟩
theorem firI_eq {ps:List Plc} {r:Int} {a:Int×Int} {m:HM} {k:Nat} {q:Plc} (hm:methI ps a.1 a.2=some m) (hk:r=(k:Int)) (hq:ps[k]?=some q):firI ps r a=lstI (chL (ps.map nd) k) (gthL ps a (askL ps m a (chL (ps.map nd) k).reverse)):=by
  subst hk
  rw [firI,hm,plcI_nat,hq]
  rfl
theorem con_cast (l:List Nat) (k:Nat):(l.map (fun k:Nat=>(k:Int))).contains (k:Int)=l.reverse.contains k:=by
  rw [Bool.eq_iff_iff]
  simp only [List.contains_iff_mem,List.mem_map,List.mem_reverse]
  exact ⟨fun ⟨a, h, e⟩ => by have : a = k := by omega
                             subst this;exact h,fun h=>⟨k,h,rfl⟩⟩
set_option maxHeartbeats 4000000 in
theorem first_yes {b:Nat} {ps:List Plc} {W:World} (h:WAt b ps W) (hi:WI ps) (k:Nat) (q:Plc) (hq:ps[k]?=some q) (c i:Int) (m:HM) (hm:methI ps c i=some m):Calls Tryz.prog 22 #[.pointer (some ⟨b,0,none⟩),.int .i64 (k:Int),.agg #[.int .i64 c,.int .i64 i]] W fun e w'=>e=.returned (idE (firI ps (k:Int) (c,i)))∧Below W.heap.size W w':=by
  have HR:Hid (∀ w,Below W.heap.size W w→Calls Tryz.prog 83 #[.pointer (some ⟨b,0,none⟩),.agg #[.int .i64 c,.int .i64 i]] w fun e w'=>(∃ ma mk mo,e=.returned (.tuple #[.agg #[.string m.nm,.string m.ds,.int .i64 m.fl,.int .i64 m.lo,.int .i64 m.st,.slice ma mk mo,.int .i64 c,.int .i64 i,.pointer (some ⟨b,0,none⟩)],.int .i64 0]))∧Below w.heap.size w w'):=fun w hb=>by
    have:=read_c (h.below hb) hi c i
    rw [hm] at this
    exact this
  have HZ2:Hid (((W.alloc (.cells #[.int .i64 c,.int .i64 i] 24)).alloc (.cells #[.int .i64 0,.int .i64 0] 24)).heap[W.heap.size+1]?=some (.cells #[.int .i64 0,.int .i64 0] 24 (0,0))):=halloc2 _ _ (by simp)
  have hKb:(chL (ps.map nd) k).length≤300:=by
    have h1:=ch_len hi.wo k (by simpa using (List.getElem?_eq_some_iff.1 hq).1)
    have h2:=hi.hi
    have h3:=(List.getElem?_eq_some_iff.1 hq).1
    omega
  have HD:Hid (∀ w,Below W.heap.size W w→Calls Tryz.prog 86 #[.pointer (some ⟨b,0,none⟩),.int .i64 (k:Int)] w fun e w'=>∃ g cap,e=.returned (.tuple #[.slice (some ⟨g,0,none⟩) (chL (ps.map nd) k).length cap,.int .i64 0])∧w'.ownsRow w.heap.size 3 1 (.slice (some ⟨g,0,none⟩) (chL (ps.map nd) k).length cap) (chL (ps.map nd) k).length ((chL (ps.map nd) k).reverse.map numV)∧Below w.heap.size w w'):=fun w hb=>down_c (h.below hb) hi k q hq
  obtain ⟨G,hG⟩:∃ G,gthL ps (c,i) (askL ps m (c,i) (chL (ps.map nd) k).reverse)=G:=⟨_,rfl⟩
  rw [firI_eq (a:=(c,i)) hm rfl hq,hG]
  obtain ⟨R,hR⟩:∃ R,lstI (chL (ps.map nd) k) G=R:=⟨_,rfl⟩
  have HRR:Hid (lstI (chL (ps.map nd) k) G=R):=hR
  rw [hR]
  have hU:Below W.heap.size W ((W.alloc (.cells #[.int .i64 c,.int .i64 i] 24)).alloc (.cells #[.int .i64 0,.int .i64 0] 24)):=((Below.refl _ W).alloc (Nat.le_refl _) _).alloc (by simp) _
  have HG:Hid (∀ w (x:P9) (v:Value),Below (W.heap.size+2) ((W.alloc (.cells #[.int .i64 c,.int .i64 i] 24)).alloc (.cells #[.int .i64 0,.int .i64 0] 24)) w→OkP ps x→x.id=(c,i)→(x.nm,x.ds,x.c)=(m.nm,m.ds,c)→Rds w v (chL (ps.map nd) k).length 1 ((chL (ps.map nd) k).reverse.map numV)→Calls Tryz.prog 84 #[x.agg b,v] w fun e w'=>∃ (L:List P9) (g cap:Nat),e=.returned (.slice (some ⟨g,0,none⟩) L.length cap)∧(∀ y∈L,OkP ps y)∧L.map P9.id=G∧w'.ownsRow w.heap.size 119 9 (.slice (some ⟨g,0,none⟩) L.length cap) L.length (flat9 b L)∧Below w.heap.size w w'):=fun w x v hb ho hid hnd hv=>by
    have:=gth_c (h.below (hU.trans (hb.mono (by omega)))) hi x ho v (chL (ps.map nd) k).reverse (by rw [List.length_reverse];exact hv) (by rw [List.length_reverse];exact hKb)
    simp only [Prod.mk.injEq] at hnd
    rw [hid,hnd.1,hnd.2.1,hnd.2.2] at this
    rw [askL] at hG
    rw [hG] at this
    exact this
  have HN:Hid (∀ (w:World) (v:Value) (p:Nat),Rds w v (chL (ps.map nd) k).length 1 ((chL (ps.map nd) k).reverse.map numV)→Calls Tryz.prog 91 #[v,.int .i64 (p:Int)] w fun e w'=>e=.returned (.bool ((chL (ps.map nd) k).reverse.contains p))∧Below w.heap.size w w'):=fun w v p hv=>nContains_any v (chL (ps.map nd) k).reverse p w (by rw [List.length_reverse];exact hv) (by rw [List.length_reverse];omega)
  have HM:Hid (methI ps c i=some m):=hm
  have hGb:G.length≤301:=by
    rw [← hG]
    refine Nat.le_trans (gthL_len _ _ _) ?_
    have:=nskL_len ps m.nm m.ds (c,i).1 (chL (ps.map nd) k).reverse
    rw [List.length_reverse] at this
    rw [askL,List.length_cons]
    omega
  generalize chL (ps.map nd) k=l at *
  obtain ⟨K,hK⟩:∃ K,l.length=K:=⟨_,rfl⟩
  rw [hK] at HD HG HN hKb
  clear h hi hm hq hG hU hK hR
  simp only [P9.agg] at HG
  go_enter Tryz.func22,Tryz.ntmps22
  go_upto_region 8 with (first
    | (go_at_call 83;refine (HR.out _ (by repeat (first|exact Below.refl _ _|refine Below.setCell ?_ (by simp;try omega) _|refine Below.alloc ?_ (by simp;try omega) _|refine Below.drew ?_))).mono ?_;rintro e w1 ⟨⟨ma,mk,mo,rfl⟩,hb⟩;have Bw1:Hid (Below (W.heap.size+2) ((W.alloc (.cells #[.int .i64 c,.int .i64 i] 24)).alloc (.cells #[.int .i64 0,.int .i64 0] 24)) w1):=hb.mono (by simp);clear hb HR)
    | (go_at_call 86;refine (HD.out _ ((((((Below.refl _ W).alloc (Nat.le_refl _) _).alloc (by simp) _).trans (Bw1.out.mono (by omega)))).alloc (by have:=Bw1.out.size;simp at this;omega) _)).mono ?_;rintro e w2 ⟨dg,dc,rfl,ho,hb⟩;have Bw2:Hid (Below (W.heap.size+2) ((W.alloc (.cells #[.int .i64 c,.int .i64 i] 24)).alloc (.cells #[.int .i64 0,.int .i64 0] 24)) w2):=(Bw1.out.alloc (by have:=Bw1.out.size;simpa using this) _).trans (hb.mono (by have:=Bw1.out.size;simp at this;simp;omega));have D2:Hid (Rds w2 (.slice (some ⟨dg,0,none⟩) K dc) K 1 (l.reverse.map numV)):=own_rds ho;obtain ⟨p0,p1,p2,p3,p4,p5,p6,p7,p8,pL⟩:=row9 ((hb.block w1.heap.size (by simp)).trans (halloc1 w1 (.cells #[.string m.nm,.string m.ds,.int .i64 m.fl,.int .i64 m.lo,.int .i64 m.st,.slice ma mk mo,.int .i64 c,.int .i64 i,.pointer (some ⟨b,0,none⟩)] 119)));clear hb ho HD)
    | (go_at_call 84;refine (HG.out w2 ⟨m.nm,m.ds,m.fl,m.lo,m.st,ma,mk,mo,c,i⟩ (.slice (some ⟨dg,0,none⟩) K dc) Bw2.out ⟨m,HM.out,rfl,rfl,rfl⟩ rfl rfl D2.out).mono ?_;rintro e w3 ⟨L,g,cap,rfl,hok,hid,ho,hb⟩;have OK3:Hid (∀ y∈L,OkP ps y):=hok;have ID3:Hid (L.map P9.id=G):=hid;have O3:Hid (w3.ownsRow w2.heap.size 119 9 (.slice (some ⟨g,0,none⟩) L.length cap) L.length (flat9 b L)):=ho;have Bw3:Hid (Below (W.heap.size+2) ((W.alloc (.cells #[.int .i64 c,.int .i64 i] 24)).alloc (.cells #[.int .i64 0,.int .i64 0] 24)) w3):=Bw2.out.trans (hb.mono (Nat.le_trans (by simp) Bw2.out.size));have D3:Hid (Rds w3 (.slice (some ⟨dg,0,none⟩) K dc) K 1 (l.reverse.map numV)):=D2.out.keep hb;obtain ⟨z0,z1,f0,f1,zL⟩:=row2 ((Bw3.out.block (W.heap.size+1) (by omega)).trans HZ2.out);clear hb ho hok hid HG))
  rcases List.eq_nil_or_concat L with hL|⟨L0,y,hL⟩
  · subst hL
    have hG0:G=[]:=ID3.out.symm
    subst hG0
    have eR:R=((0,0),6):=HRR.out.symm
    subst eR
    clear HRR OK3 ID3 O3
    go_wp2
    exact bodyPost_ret (v:=idE ((0,0),6)) (by simp [results,Tryz.results22,go_sem,idE, *]) rfl ⟨rfl,(by have hbw:Below W.heap.size W w3:=(((Below.refl _ W).alloc (Nat.le_refl _) _).alloc (by simp) _).trans (Bw3.out.mono (by omega));repeat (first|refine Below.setCell ?_ (by simp;try omega) _|refine Below.alloc ?_ (by have:=hbw.size;simp;try omega) _|exact hbw))⟩
  · subst hL
    have hlast:(L0.concat y)[L0.length]?=some y:=by simp
    have hyo:=OK3.out y (by simp)
    obtain ⟨e0,e1,e2,e3,e4,e5,e6,e7,e8,gL⟩:=row9_cells O3.out hlast
    have hGl:G.getLast?=some y.id:=by rw [← ID3.out,List.concat_eq_append,List.map_append];simp
    have HGl:Hid (G.getLast?=some y.id):=hGl
    have hlen:(L0.concat y).length=L0.length+1:=by simp
    obtain ⟨p,hp⟩:∃ p:Nat,y.c=(p:Int):=by
      obtain ⟨m2,hm2,_⟩:=hyo
      rcases plcI_cases ps y.c with ⟨h1,_⟩|⟨p,_,e,_⟩
      · rw [methI,h1] at hm2;cases hm2
      · exact ⟨p,e⟩
    have HN2:Hid (∀ w,Below w3.heap.size w3 w→Calls Tryz.prog 91 #[.slice (some ⟨dg,0,none⟩) K dc,.int .i64 (p:Int)] w fun e w'=>e=.returned (.bool (l.reverse.contains p))∧Below w.heap.size w w'):=fun w hb=>HN.out w _ p (D3.out.keep hb)
    obtain ⟨yn,yd,yf,yl,ys,ya,yk,yo,yc,yi⟩:=y
    simp only at hp
    subst hp
    have HCC:Hid ((l.map (fun k:Nat=>(k:Int))).contains (p:Int)=l.reverse.contains p):=con_cast l p
    have HRC:Hid (R=if l.reverse.contains p then (((p:Int),yi),0) else ((0,0),6)):=by rw [Hid,← HRR.out,lstI_last HGl.out,P9.id,HCC.out]
    clear HCC HRR
    generalize l.reverse.contains p=B at *
    rw [hlen] at O3 ⊢
    obtain ⟨n,hn⟩:∃ n,L0.length=n:=⟨_,rfl⟩
    have hnb:n≤1000000:=by
      have e:=congrArg List.length ID3.out
      simp at e
      omega
    rw [hn] at O3 e0 e1 e2 e3 e4 e5 e6 e7 e8 ⊢
    clear hlen hlast hyo hGl HGl hn OK3 ID3 HN
    cases B
    all_goals
      have eR:=HRC.out
      simp only [Bool.false_eq_true,if_false,if_true] at eR
      subst eR
      clear HRC
      go_wp2_with (go_at_call 91;refine (HN2.out _ ((Below.refl _ _).alloc (Nat.le_refl _) _)).mono ?_;rintro e w4 ⟨rfl,hb⟩;clear z0 z1 f0 f1 zL;have Bw4:Hid (Below (W.heap.size+2) ((W.alloc (.cells #[.int .i64 c,.int .i64 i] 24)).alloc (.cells #[.int .i64 0,.int .i64 0] 24)) w4):=(Bw3.out.alloc (by have:=Bw3.out.size;simpa using this) _).trans (hb.mono (by have:=Bw3.out.size;simp at this;simp;omega));obtain ⟨z0,z1,f0,f1,zL⟩:=row2 ((Bw4.out.block (W.heap.size+1) (by omega)).trans HZ2.out);obtain ⟨u0,u1,_,_,uL⟩:=row2 ((hb.block w3.heap.size (by simp)).trans (halloc1 w3 (.cells #[.int .i64 (p:Int),.int .i64 yi] 24)));clear hb HN2)
    · exact bodyPost_ret (v:=idE ((0,0),6)) (by simp [results,Tryz.results22,go_sem,idE, *]) rfl ⟨rfl,(by have hbw:Below W.heap.size W w4:=(((Below.refl _ W).alloc (Nat.le_refl _) _).alloc (by simp) _).trans (Bw4.out.mono (by omega));repeat (first|refine Below.setCell ?_ (by simp;try omega) _|refine Below.alloc ?_ (by have:=hbw.size;simp;try omega) _|exact hbw))⟩
    · exact bodyPost_ret (v:=idE (((p:Int),yi),0)) (by simp [results,Tryz.results22,go_sem,idE, *]) rfl ⟨rfl,(by have hbw:Below W.heap.size W w4:=(((Below.refl _ W).alloc (Nat.le_refl _) _).alloc (by simp) _).trans (Bw4.out.mono (by omega));repeat (first|refine Below.setCell ?_ (by simp;try omega) _|refine Below.alloc ?_ (by have:=hbw.size;simp;try omega) _|exact hbw))⟩
theorem first_c {b:Nat} {ps:List Plc} {W:World} (h:WAt b ps W) (hi:WI ps) (r c i:Int):Calls Tryz.prog 22 #[.pointer (some ⟨b,0,none⟩),.int .i64 r,.agg #[.int .i64 c,.int .i64 i]] W fun e w'=>e=.returned (idE (firI ps r (c,i)))∧Below W.heap.size W w':=by
  cases hm:methI ps c i with
  | none =>
    have e:firI ps r (c,i)=((0,0),3):=by simp only [firI,hm]
    rw [e];exact first_no1 h hi r c i hm
  | some m =>
    rcases plcI_cases ps r with ⟨h1,_⟩|⟨k,q,rfl,h2,h1⟩
    · have e:firI ps r (c,i)=((0,0),3):=by simp only [firI,hm,h1]
      rw [e];exact first_no2 h hi r c i m hm h1
    · exact first_yes h hi k q h2 c i m hm
variable {ps:List Plc} {p:Plc}
theorem has10c (f:Int):hasI f 10=(hasI f 2||hasI f 8):=by
  have e10:bits .and .i64 f 10=IntKind.wrap .i64 (((BitVec.ofInt 64 f).toNat &&& 10:Nat):Int):=rfl
  have e2:bits .and .i64 f 2=IntKind.wrap .i64 (((BitVec.ofInt 64 f).toNat &&& 2:Nat):Int):=rfl
  have e8:bits .and .i64 f 8=IntKind.wrap .i64 (((BitVec.ofInt 64 f).toNat &&& 8:Nat):Int):=rfl
  have h:(BitVec.ofInt 64 f).toNat &&& 10=((BitVec.ofInt 64 f).toNat &&& 2) ||| ((BitVec.ofInt 64 f).toNat &&& 8):=by
    rw [← Nat.and_or_distrib_left];rfl
  unfold hasI
  rw [e10,e2,e8,h]
  have h2:(BitVec.ofInt 64 f).toNat &&& 2≤2:=Nat.and_le_right
  have h2':((BitVec.ofInt 64 f).toNat &&& 2) &&& 2=(BitVec.ofInt 64 f).toNat &&& 2:=by rw [Nat.and_assoc,Nat.and_self]
  have h8:(BitVec.ofInt 64 f).toNat &&& 8≤8:=Nat.and_le_right
  have h8':((BitVec.ofInt 64 f).toNat &&& 8) &&& 8=(BitVec.ofInt 64 f).toNat &&& 8:=by rw [Nat.and_assoc,Nat.and_self]
  generalize (BitVec.ofInt 64 f).toNat &&& 2=a at *
  generalize (BitVec.ofInt 64 f).toNat &&& 8=b at *
  have ha:a=0∨a=2:=by
    have:a=0∨a=1∨a=2:=by omega
    rcases this with rfl|rfl|rfl
    · exact .inl rfl
    · exact absurd h2' (by decide)
    · exact .inr rfl
  have hb:b=0∨b=8:=by
    have:b=0∨b=1∨b=2∨b=3∨b=4∨b=5∨b=6∨b=7∨b=8:=by omega
    rcases this with rfl|rfl|rfl|rfl|rfl|rfl|rfl|rfl|rfl
    · exact .inl rfl
    all_goals first|exact .inr rfl|exact absurd h8' (by decide)
  rcases ha with rfl|rfl <;> rcases hb with rfl|rfl <;> decide
def SndM (ps:List Plc):Prop:=∀ q∈ps,∀ m∈q.c.ms,∃ i n,chkM m.fl i n=0
theorem mths_eachp {iface:Bool} {all:List Mth}:∀ {l:List Mth} {k:Nat},mthsB iface all l k=true→∀ m∈l,mthB m iface=true
  | [],_,_,m,hm=>by cases hm
  | x::r,k,h,m,hm=>by
    rw [mthsB,Bool.and_eq_true,Bool.and_eq_true] at h
    rcases List.mem_cons.1 hm with rfl|hm
    · exact h.1.1
    · exact mths_eachp h.2 m hm
theorem sndM3:SndM P3:=by
  intro q hq m hm
  simp only [P3,List.mem_cons,List.not_mem_nil,or_false] at hq
  rcases hq with rfl|rfl|rfl
  · simp only [objH,objMs,List.mem_cons,List.not_mem_nil,or_false] at hm
    rcases hm with rfl|rfl|rfl <;> exact ⟨false,false,by decide⟩
  · simp only [cloH,List.not_mem_nil] at hm
  · simp only [serH,List.not_mem_nil] at hm
theorem sndM_wld (l:List Cls) (hl:∀ c∈l,ClsW c):SndM (wld l):=by
  refine wld_ind sndM3 (fun ps c h _=>?_) l hl
  cases hd:defN ps c with
  | error e=>exact h
  | ok p =>
    obtain ⟨hB,_,_,s,l,_,_,rfl⟩:=def_ok hd
    intro q hq m hm
    rcases List.mem_append.1 (show q∈ps++[_] from hq) with hq|hq
    · exact h q hq m hm
    · rw [List.mem_singleton] at hq
      subst hq
      obtain ⟨m0,hm0,rfl⟩:=List.mem_map.1 (show m∈c.ms.map hmOf from hm)
      rw [clsB,Bool.and_eq_true] at hB
      have hmb:=mths_eachp hB.2 m0 hm0
      simp only [mthB,Bool.and_eq_true,beq_iff_eq] at hmb
      exact ⟨_,_,hmb.1.1.1.2⟩
theorem SndM.meth {ps:List Plc} (h:SndM ps) {c i:Int} {m:HM} (hm:methI ps c i=some m):∃ a n,chkM m.fl a n=0:=by
  obtain ⟨k,q,_,h2,_,h4⟩:=meth_plc hm
  refine h q (List.mem_of_getElem? h2) m ?_
  rw [methP] at h4
  split at h4
  · exact List.mem_of_getElem? h4
  · cases h4
theorem priv_open {f:Int} {i n:Bool} (h:chkM f i n=0) (h2:hasI f 2=true):openI f=2∧hasI f 1024=false:=by
  have hv:¬ 1<visN f:=by
    intro hv
    rw [chkM] at h
    simp [hv] at h
  have ha:hasI f 1024=false:=by
    cases e:hasI f 1024 with
    | false=>rfl
    | true =>
      rw [chkM] at h
      simp [e,h2] at h
  refine ⟨?_,ha⟩
  unfold visN at hv
  unfold openI
  cases e1:hasI f 1 <;> cases e4:hasI f 4 <;> simp [e1,e4,h2] at hv ⊢
theorem nsk_ne (ps:List Plc) (nm ds:ByteArray) (a:Int):∀ l:List Nat,∀ m∈nskL ps nm ds a l,m.1≠a
  | [],m,hm=>by cases hm
  | c::r,m,hm=>by
    rw [nskL] at hm
    split at hm
    · rename_i hh
      rcases List.mem_cons.1 hm with rfl|hm
      · exact hh.2
      · exact nsk_ne ps nm ds a r m hm
    · exact nsk_ne ps nm ds a r m hm
theorem gth_priv {ps:List Plc} {a:Int×Int} {x:HM} (hx:methI ps a.1 a.2=some x) (hs:stB x.fl=false) (ho:openI x.fl=2):∀ l:List (Int×Int),(∀ m∈l,m.1≠a.1)→l.foldl (gth1 ps a) [a]=[a]
  | [],_=>rfl
  | c::r,h=>by
    have hc:gth1 ps a [a] c=[a]:=by
      have e1:eqI c a=false:=by
        cases e:eqI c a with
        | false=>rfl
        | true=>exact absurd (congrArg Prod.fst (eqI_iff.1 e)) (h c List.mem_cons_self)
      have e2:plI ps c a=false:=by
        rw [plI,hx]
        cases methI ps c.1 c.2 with
        | none=>rfl
        | some y=>simp only [plnB,reaB,ho,if_true,Bool.and_false]
      rw [gth1,e1,List.any_cons,e2]
      rfl
    rw [List.foldl_cons,hc]
    exact gth_priv hx hs ho r (fun m hm=>h m (List.mem_cons_of_mem _ hm))
def UnqM (ps:List Plc):Prop:=∀ q∈ps,∀ (i:Nat) (m:HM),q.c.ms[i]?=some m→findH m.nm m.ds q.c.ms 0=(i:Int)
theorem find_map (nm ds:ByteArray):∀ (l:List Mth) (k:Nat),findH nm ds (l.map hmOf) k=findM nm ds l k
  | [],_=>rfl
  | m::r,k=>by
    rw [List.map_cons,findH,findM,find_map nm ds r (k+1)]
    rfl
theorem mths_find {iface:Bool} {all:List Mth}:∀ {l:List Mth} {k:Nat},mthsB iface all l k=true→∀ (i:Nat) (m:Mth),l[i]?=some m→findM m.nm m.ds all 0=((k+i:Nat):Int)
  | [],_,_,_,_,hm=>by simp at hm
  | x::r,k,h,i,m,hm=>by
    rw [mthsB,Bool.and_eq_true,Bool.and_eq_true,beq_iff_eq] at h
    cases i with
    | zero =>
      simp only [List.getElem?_cons_zero,Option.some.injEq] at hm
      subst hm
      exact h.1.2
    | succ i =>
      rw [List.getElem?_cons_succ] at hm
      have:=mths_find h.2 i m hm
      rw [this];congr 1;omega
theorem unqObj:(objMs.zipIdx.all fun p=>findH p.1.nm p.1.ds objMs 0 == (p.2:Int))=true:=by kernel_rfl
theorem unqM3:UnqM P3:=by
  intro q hq i m hm
  simp only [P3,List.mem_cons,List.not_mem_nil,or_false] at hq
  rcases hq with rfl|rfl|rfl
  · have:=List.all_eq_true.1 unqObj (m,i) (List.mem_zipIdx_iff_getElem?.2 hm)
    exact beq_iff_eq.1 this
  · simp [cloH] at hm
  · simp [serH] at hm
theorem unqM_wld (l:List Cls) (hl:∀ c∈l,ClsW c):UnqM (wld l):=by
  refine wld_ind unqM3 (fun ps c h _=>?_) l hl
  cases hd:defN ps c with
  | error e=>exact h
  | ok p =>
    obtain ⟨hB,_,_,s,l,_,_,rfl⟩:=def_ok hd
    intro q hq i m hm
    rcases List.mem_append.1 (show q∈ps++[_] from hq) with hq|hq
    · exact h q hq i m hm
    · rw [List.mem_singleton] at hq
      subst hq
      have hm2:(c.ms.map hmOf)[i]?=some m:=hm
      rw [List.getElem?_map] at hm2
      obtain ⟨m0,hm0,rfl⟩:=Option.map_eq_some_iff.1 hm2
      rw [clsB,Bool.and_eq_true] at hB
      have:=mths_find hB.2 i m0 hm0
      show findH m0.nm m0.ds (c.ms.map hmOf) 0=(i:Int)
      rw [find_map,this,Nat.zero_add]
theorem find_congr {nm ds nm2 ds2:ByteArray} (h1:nm.toList=nm2.toList) (h2:ds.toList=ds2.toList):∀ (l:List HM) (k:Nat),findH nm ds l k=findH nm2 ds2 l k
  | [],_=>rfl
  | m::r,k=>by rw [findH,findH,h1,h2,find_congr h1 h2 r (k+1)]
theorem UnqM.fnd {ps:List Plc} (h:UnqM ps) {c i:Int} {m:HM} (hm:methI ps c i=some m) {nm ds:ByteArray} (h1:m.nm.toList=nm.toList) (h2:m.ds.toList=ds.toList):fndI ps c nm ds=(i,0):=by
  obtain ⟨k,q,rfl,hq,hp,hm2⟩:=meth_plc hm
  rw [methP] at hm2
  split at hm2
  · rename_i hi
    have:=h q (List.mem_of_getElem? hq) i.toNat m hm2
    have e:findH nm ds q.c.ms 0=i:=by rw [← find_congr h1 h2,this];omega
    rw [fndI,hp]
    simp only [e]
    rw [if_neg (by omega)]
  · cases hm2
theorem extI_split {ps:List Plc} {a b:Int} (h:extI ps a b=true):∃ i j:Nat,a=(i:Int)∧b=(j:Int)∧i<ps.length∧j<ps.length∧extB (ps.map nd) i j=true:=by
  rw [extI,Bool.and_eq_true,Bool.and_eq_true] at h
  obtain ⟨⟨h1,h2⟩,h3⟩:=h
  rcases plcI_cases ps a with ⟨e,_⟩|⟨i,q,rfl,hq,_⟩
  · rw [e] at h1;cases h1
  · rcases plcI_cases ps b with ⟨e,_⟩|⟨j,r,rfl,hr,_⟩
    · rw [e] at h2;cases h2
    · exact ⟨i,j,rfl,rfl,(List.getElem?_eq_some_iff.1 hq).1,(List.getElem?_eq_some_iff.1 hr).1,h3⟩
theorem extI_tr {ps:List Plc} (hW:WI ps) {a b c:Int} (h1:extI ps a b=true) (h2:extI ps b c=true):extI ps a c=true:=by
  obtain ⟨i,j,rfl,rfl,hi,hj,e1⟩:=extI_split h1
  obtain ⟨j2,k,hjj,rfl,_,hk,e2⟩:=extI_split h2
  obtain rfl:j=j2:=by omega
  rw [extI_nat hi hk]
  exact ext_trans hW.wo (by simpa using hi) e1 e2
theorem extI_le {ps:List Plc} (hW:WI ps) {a b:Int} (h1:extI ps a b=true):b≤a:=by
  obtain ⟨i,j,rfl,rfl,hi,hj,e1⟩:=extI_split h1
  have:=ext_le hW.wo (by simpa using hi) e1
  omega
theorem extI_refl {ps:List Plc} {c i:Int} {m:HM} (h:methI ps c i=some m):extI ps c c=true:=by
  obtain ⟨k,q,rfl,hq,_,_⟩:=meth_plc h
  have:=(List.getElem?_eq_some_iff.1 hq).1
  rw [extI_nat this this]
  exact ext_self _ _
theorem pl_facts {ps:List Plc} {x y:Int×Int} (h:plI ps x y=true):∃ mx my,methI ps x.1 x.2=some mx∧methI ps y.1 y.2=some my∧mx.nm.toList=my.nm.toList∧mx.ds.toList=my.ds.toList∧stB mx.fl=false∧stB my.fl=false∧x.1≠y.1∧ifcI ps x.1=false∧extI ps x.1 y.1=true:=by
  rw [plI] at h
  cases hx:methI ps x.1 x.2 with
  | none=>rw [hx] at h;cases h
  | some mx =>
    cases hy:methI ps y.1 y.2 with
    | none=>rw [hx,hy] at h;cases h
    | some my =>
      rw [hx,hy] at h
      simp only [plnB,freB,bloB,Bool.and_eq_true,Bool.not_eq_true',beq_iff_eq,beq_eq_false_iff_ne] at h
      obtain ⟨⟨⟨⟨⟨⟨h1,h2⟩,h3⟩,h4⟩,h5⟩,_⟩,_⟩:=h
      exact ⟨mx,my,rfl,rfl,h3,h4,h1.1,h2.1,h5.1.1,h5.1.2,h5.2⟩
def OvN (ps:List Plc) (a:Int×Int):Nat→Int×Int→Prop
  | 0,x=>x=a∧stI ps a=false
  | n+1,x=>∃ y,OvN ps a n y∧plI ps x y=true
def Ov (ps:List Plc) (a x:Int×Int):Prop:=∃ n,OvN ps a n x
theorem Ov.step {ps:List Plc} {a x y:Int×Int} (h:Ov ps a y) (hp:plI ps x y=true):Ov ps a x:=by
  obtain ⟨n,hn⟩:=h
  exact ⟨n+1,y,hn,hp⟩
theorem ovN_facts {ps:List Plc} (hW:WI ps) {a:Int×Int} {ma:HM} (ha:methI ps a.1 a.2=some ma):∀ (n:Nat) (x:Int×Int),OvN ps a n x→∃ mx,methI ps x.1 x.2=some mx∧mx.nm.toList=ma.nm.toList∧mx.ds.toList=ma.ds.toList∧stB mx.fl=false∧extI ps x.1 a.1=true∧(x=a∨(ifcI ps x.1=false∧a.1<x.1))
  | 0,x,h=>by
    obtain ⟨rfl,hs⟩:=h
    refine ⟨ma,ha,rfl,rfl,?_,extI_refl ha,.inl rfl⟩
    rw [stI,ha] at hs
    exact hs
  | n+1,x,h=>by
    obtain ⟨y,hy,hp⟩:=h
    obtain ⟨my,hmy,e1,e2,_,e4,e5⟩:=ovN_facts hW ha n y hy
    obtain ⟨mx,my2,hmx,hmy2,f1,f2,f3,_,f5,f6,f7⟩:=pl_facts hp
    rw [hmy] at hmy2
    cases hmy2
    have hle:=extI_le hW f7
    have hle2:=extI_le hW e4
    exact ⟨mx,hmx,f1.trans e1,f2.trans e2,f3,extI_tr hW f7 e4,.inr ⟨f6,by omega⟩⟩
theorem gth_ov {ps:List Plc} {a:Int×Int}:∀ (l k:List (Int×Int)),(∀ y∈k,Ov ps a y)→∀ x∈l.foldl (gth1 ps a) k,Ov ps a x
  | [],_,hk,x,hx=>hk x hx
  | c::r,k,hk,x,hx=>by
    rw [List.foldl_cons] at hx
    refine gth_ov r _ (fun y hy=>?_) x hx
    rw [gth1] at hy
    split at hy
    · rename_i hc
      rcases List.mem_append.1 hy with hy|hy
      · exact hk y hy
      · rw [List.mem_singleton] at hy
        subst hy
        rw [Bool.or_eq_true] at hc
        rcases hc with hc|hc
        · rw [Bool.and_eq_true,eqI_iff] at hc
          obtain ⟨rfl,hs⟩:=hc
          exact ⟨0,rfl,by simpa using hs⟩
        · obtain ⟨z,hz,hp⟩:=List.any_eq_true.1 hc
          exact (hk z hz).step hp
    · exact hk y hy
theorem ch_desc {ns:List Nd} (h:WO ns) (a:Nat) (ha:a<ns.length):(chL ns a).Pairwise (· > ·):=by
  refine ch_ind h (P:=fun k=>(chL ns k).Pairwise (· > ·)) ?_ (fun k hk h0 hlt ih=>?_) a ha
  · rw [chL_zero];exact List.pairwise_singleton _ _
  · rw [chL_cons h hk h0]
    refine List.pairwise_cons.2 ⟨fun b hb=>?_,ih⟩
    have:=ch_le h _ (by omega) b hb
    omega
theorem nsk_mem {ps:List Plc} {nm ds:ByteArray} {a:Int}:∀ {l:List Nat} {c:Nat},c∈l→(fndI ps (c:Int) nm ds).2=0→(c:Int)≠a→((c:Int),(fndI ps (c:Int) nm ds).1)∈nskL ps nm ds a l
  | [],_,h,_,_=>by cases h
  | d::r,c,h,h1,h2=>by
    rw [nskL]
    rcases List.mem_cons.1 h with rfl|h
    · rw [if_pos ⟨h1,h2⟩];exact List.mem_cons_self
    · split
      · exact List.mem_cons_of_mem _ (nsk_mem h h1 h2)
      · exact nsk_mem h h1 h2
theorem take_lt {l:List Nat} (hl:l.Pairwise (· < ·)) {n d x:Nat} (hd:l[n]?=some d) (hx:x∈l) (hlt:x<d):x∈l.take n:=by
  obtain ⟨i,hi,rfl⟩:=List.getElem_of_mem hx
  obtain ⟨hn,rfl⟩:=List.getElem?_eq_some_iff.1 hd
  have hin:i<n:=by
    rcases Nat.lt_trichotomy i n with h|h|h
    · exact h
    · subst h;omega
    · have:=List.pairwise_iff_getElem.1 hl n i hn hi h;omega
  exact List.mem_take_iff_getElem.2 ⟨i,by omega,rfl⟩
theorem gth_all {ps:List Plc} (hW:WI ps) (hU:UnqM ps) {a:Int×Int} {ma:HM} (ha:methI ps a.1 a.2=some ma) {ck:Nat} (hck:ck<ps.length):∀ n:Nat,∀ x∈askL ps ma a ((chL (ps.map nd) ck).reverse.take n),Ov ps a x→x∈gthL ps a (askL ps ma a ((chL (ps.map nd) ck).reverse.take n)):=by
  have hckl:ck<(ps.map nd).length:=by simpa using hck
  have hasc:(chL (ps.map nd) ck).reverse.Pairwise (· < ·):=by
    rw [List.pairwise_reverse]
    exact ch_desc hW.wo ck hckl
  intro n
  induction n with
  | zero =>
    intro x hx ho
    rw [List.take_zero,askL,nskL,List.mem_singleton] at hx
    subst hx
    obtain ⟨n,hn⟩:=ho
    obtain ⟨mx,hmx,_,_,hs,_⟩:=ovN_facts hW ha n _ hn
    have hst:stI ps x=false:=by rw [stI,hmx];exact hs
    rw [List.take_zero,askL,nskL,gthL,List.foldl_cons,List.foldl_nil,gth1,hst,eqI_iff.2 rfl]
    exact List.mem_singleton.2 rfl
  | succ n ih =>
    intro x hx ho
    by_cases hn:n<(chL (ps.map nd) ck).reverse.length
    · obtain ⟨d,hd⟩:∃ d,(chL (ps.map nd) ck).reverse[n]?=some d:=⟨_,List.getElem?_eq_getElem hn⟩
      have hst:=nskL_take (ps:=ps) (nm:=ma.nm) (ds:=ma.ds) (a:=a.1) hd
      have hask:askL ps ma a ((chL (ps.map nd) ck).reverse.take (n+1))=askL ps ma a ((chL (ps.map nd) ck).reverse.take n)++(if (fndI ps (d:Int) ma.nm ma.ds).2=0∧(d:Int)≠a.1 then [((d:Int),(fndI ps (d:Int) ma.nm ma.ds).1)] else []):=by rw [askL,hst,askL,List.cons_append]
      rw [hask] at hx ⊢
      by_cases hc:(fndI ps (d:Int) ma.nm ma.ds).2=0∧(d:Int)≠a.1
      · rw [if_pos hc] at hx ⊢
        rw [gthL_snoc,gth1]
        rcases List.mem_append.1 hx with hx|hx
        · have:=ih x hx ho
          split
          · exact List.mem_append_left _ this
          · exact this
        · rw [List.mem_singleton] at hx
          subst hx
          obtain ⟨k,hk⟩:=ho
          cases k with
          | zero=>exact absurd (congrArg Prod.fst hk.1) hc.2
          | succ k =>
            obtain ⟨y,hy,hp⟩:=hk
            have hyk:y∈gthL ps a (askL ps ma a ((chL (ps.map nd) ck).reverse.take n)):=by
              refine ih y ?_ ⟨k,hy⟩
              obtain ⟨my,hmy,e1,e2,_,_,e5⟩:=ovN_facts hW ha k y hy
              rcases e5 with rfl|⟨hif,hlt⟩
              · rw [askL];exact List.mem_cons_self
              · obtain ⟨_,_,_,_,_,_,_,_,hne,_,hex⟩:=pl_facts hp
                obtain ⟨i,j,hi,hj,hil,hjl,he⟩:=extI_split hex
                obtain rfl:d=i:=by simp only at hi;omega
                have hdc:d∈chL (ps.map nd) ck:=List.mem_reverse.1 (List.mem_of_getElem? hd)
                have hjd:j∈chL (ps.map nd) d:=by
                  rcases (ext_iff _ _ _).1 he with h|h
                  · exact h
                  · exfalso
                    obtain ⟨_,_,p,hp1,hp2,_⟩:=cl_facts hW.wo h
                    rw [hj,ifcI,plcI_nat] at hif
                    rw [List.getElem?_map] at hp1
                    obtain ⟨q,hq,rfl⟩:=Option.map_eq_some_iff.1 hp1
                    rw [hq] at hif
                    have:(nd q).i=false:=hif
                    rw [this] at hp2
                    cases hp2
                have hjc:j∈chL (ps.map nd) ck:=ch_trans hW.wo ck hckl d hdc j hjd
                have hjlt:j<d:=by
                  have h1:=ch_le hW.wo d (by have:=ch_le hW.wo ck hckl d hdc;omega) j hjd
                  have h2:j≠d:=fun e=>hne (by rw [hj,e])
                  omega
                have hf:=hU.fnd hmy e1 e2
                have hyy:y=((j:Int),(fndI ps (j:Int) ma.nm ma.ds).1):=by
                  rw [hj] at hf
                  rw [hf]
                  exact Prod.ext hj rfl
                rw [askL,hyy]
                refine List.mem_cons_of_mem _ (nsk_mem (take_lt hasc hd (List.mem_reverse.2 hjc) hjlt) ?_ (by omega))
                rw [hj] at hf
                rw [hf]
            rw [if_pos (by rw [Bool.or_eq_true];exact .inr (List.any_eq_true.2 ⟨y,hyk,hp⟩))]
            exact List.mem_append_right _ (List.mem_singleton.2 rfl)
      · rw [if_neg hc,List.append_nil] at hx ⊢
        exact ih x hx ho
    · have e1:(chL (ps.map nd) ck).reverse.take (n+1)=(chL (ps.map nd) ck).reverse.take n:=by rw [List.take_of_length_le (by omega),List.take_of_length_le (by omega)]
      rw [e1] at hx ⊢
      exact ih x hx ho
theorem ovr_iff {ps:List Plc} (hW:WI ps) (hU:UnqM ps) {a c:Int×Int} {ma mc:HM} (ha:methI ps a.1 a.2=some ma) (hc:methI ps c.1 c.2=some mc):(ovrI ps c a).2=0∧((ovrI ps c a).1=true↔Ov ps a c):=by
  obtain ⟨ck,q,hck,hq,_,_⟩:=meth_plc hc
  have hlt:=(List.getElem?_eq_some_iff.1 hq).1
  have e:ovrI ps c a=((gthL ps a (askL ps ma a (chL (ps.map nd) ck).reverse)).any (eqI c),0):=by
    rw [ovrI,hc,ha]
    simp only [hck,Int.toNat_natCast]
  rw [e]
  refine ⟨rfl,?_⟩
  constructor
  · intro h
    obtain ⟨x,hx,he⟩:=List.any_eq_true.1 h
    rw [eqI_iff] at he
    subst he
    exact gth_ov _ [] (fun y hy=>by cases hy) c hx
  · intro h
    refine List.any_eq_true.2 ⟨c,?_,eqI_iff.2 rfl⟩
    have hall:=gth_all hW hU ha hlt (chL (ps.map nd) ck).reverse.length c
    rw [List.take_length] at hall
    refine hall ?_ h
    obtain ⟨n,hn⟩:=h
    obtain ⟨mx,hmx,e1,e2,_,_,e5⟩:=ovN_facts hW ha n c hn
    rcases e5 with rfl|⟨_,hlt2⟩
    · rw [askL];exact List.mem_cons_self
    · have hf:=hU.fnd hmx e1 e2
      rw [hck] at hf
      have hcc:c=((ck:Int),(fndI ps (ck:Int) ma.nm ma.ds).1):=by rw [hf];exact Prod.ext hck rfl
      rw [askL,hcc]
      refine List.mem_cons_of_mem _ (nsk_mem (List.mem_reverse.2 (chL_self _ _)) (by rw [hf]) (by omega))
def gK (ps:List Plc) (nm ds:ByteArray) (k:Nat):Int×Int:=((k:Int),(fndI ps (k:Int) nm ds).1)
theorem gK_self {ps:List Plc} (hU:UnqM ps) {a:Int×Int} {ma:HM} (ha:methI ps a.1 a.2=some ma) {nm ds:ByteArray} (h1:ma.nm.toList=nm.toList) (h2:ma.ds.toList=ds.toList):∃ k,k<ps.length∧gK ps nm ds k=a∧(fndI ps (k:Int) nm ds).2=0:=by
  obtain ⟨k,q,hk,hq,_,_⟩:=meth_plc ha
  have hf:=hU.fnd ha h1 h2
  rw [hk] at hf
  exact ⟨k,(List.getElem?_eq_some_iff.1 hq).1,by rw [gK,hf];exact Prod.ext hk.symm rfl,by rw [hf]⟩
def ovC (ps:List Plc) (nm ds:ByteArray) (a:Int×Int) (k:Nat):Bool:=decide ((fndI ps (k:Int) nm ds).2=0)&&(ovrI ps (gK ps nm ds k) a).1
theorem ov_st {ps:List Plc} {a x:Int×Int} (h:Ov ps a x):stI ps a=false:=by
  obtain ⟨n,hn⟩:=h
  induction n generalizing x with
  | zero=>exact hn.2
  | succ n ih=>obtain ⟨y,hy,_⟩:=hn;exact ih hy
theorem ovC_iff {ps:List Plc} (hW:WI ps) (hU:UnqM ps) {a:Int×Int} {ma:HM} (ha:methI ps a.1 a.2=some ma) {k:Nat}:ovC ps ma.nm ma.ds a k=true↔Ov ps a (gK ps ma.nm ma.ds k):=by
  constructor
  · intro h
    rw [ovC,Bool.and_eq_true] at h
    cases hx:methI ps (gK ps ma.nm ma.ds k).1 (gK ps ma.nm ma.ds k).2 with
    | none=>have:=h.2;simp [ovrI,hx] at this
    | some mx=>exact (ovr_iff hW hU ha hx).2.1 h.2
  · intro h
    obtain ⟨n,hn⟩:=h
    obtain ⟨mx,hmx,e1,e2,_⟩:=ovN_facts hW ha n _ hn
    have hf:=hU.fnd hmx e1 e2
    rw [ovC,Bool.and_eq_true,decide_eq_true_iff]
    refine ⟨?_,(ovr_iff hW hU ha hmx).2.2 ⟨n,hn⟩⟩
    have:(gK ps ma.nm ma.ds k).1=(k:Int):=rfl
    rw [this] at hf
    rw [hf]
theorem ov_gK {ps:List Plc} (hW:WI ps) (hU:UnqM ps) {a:Int×Int} {ma:HM} (ha:methI ps a.1 a.2=some ma) {x:Int×Int} (h:Ov ps a x):∃ k,k<ps.length∧x=gK ps ma.nm ma.ds k∧ovC ps ma.nm ma.ds a k=true∧a.1≤(k:Int):=by
  obtain ⟨n,hn⟩:=h
  obtain ⟨mx,hmx,e1,e2,_,e4,_⟩:=ovN_facts hW ha n _ hn
  obtain ⟨k,hk,e,_⟩:=gK_self hU hmx e1 e2
  refine ⟨k,hk,e.symm,(ovC_iff hW hU ha).2 (e ▸ ⟨n,hn⟩),?_⟩
  have h1:=extI_le hW e4
  have h2:(k:Int)=x.1:=by rw [← e];rfl
  omega
theorem ovC_le {ps:List Plc} (hW:WI ps) (hU:UnqM ps) {a:Int×Int} {ma:HM} (ha:methI ps a.1 a.2=some ma) {k:Nat} (h:ovC ps ma.nm ma.ds a k=true):a.1≤(k:Int)∧k<ps.length:=by
  obtain ⟨j,hj,e,_,h4⟩:=ov_gK hW hU ha ((ovC_iff hW hU ha).1 h)
  have:(k:Int)=(j:Int):=congrArg Prod.fst e
  omega
theorem gth_canon {ps:List Plc} (hW:WI ps) (hU:UnqM ps) {a:Int×Int} {ma:HM} (ha:methI ps a.1 a.2=some ma) {l:List Nat} (hasc:l.Pairwise (· < ·)) (hcl:∀ d∈l,∀ j:Nat,extI ps (d:Int) (j:Int)=true→ifcI ps (j:Int)=false→a.1<(j:Int)→j∈l):∀ n,gthL ps a (askL ps ma a (l.take n))=(if stI ps a then [] else [a])++((l.take n).filter fun k=>ovC ps ma.nm ma.ds a k&&((k:Int) != a.1)).map (gK ps ma.nm ma.ds):=by
  intro n
  induction n with
  | zero =>
    rw [List.take_zero,askL,nskL,gthL,List.foldl_cons,List.foldl_nil,gth1,eqI_iff.2 rfl]
    cases stI ps a <;> simp
  | succ n ih =>
    by_cases hn:n<l.length
    · obtain ⟨d,hd⟩:∃ d,l[n]?=some d:=⟨_,List.getElem?_eq_getElem hn⟩
      have hst:=nskL_take (ps:=ps) (nm:=ma.nm) (ds:=ma.ds) (a:=a.1) hd
      have hask:askL ps ma a (l.take (n+1))=askL ps ma a (l.take n)++(if (fndI ps (d:Int) ma.nm ma.ds).2=0∧(d:Int)≠a.1 then [gK ps ma.nm ma.ds d] else []):=by rw [askL,hst,askL,List.cons_append];rfl
      rw [hask,List.take_add_one,hd,Option.toList_some,List.filter_append,List.map_append]
      by_cases hc:(fndI ps (d:Int) ma.nm ma.ds).2=0∧(d:Int)≠a.1
      · rw [if_pos hc,gthL_snoc,gth1]
        have he:eqI (gK ps ma.nm ma.ds d) a=false:=by
          cases e:eqI (gK ps ma.nm ma.ds d) a with
          | false=>rfl
          | true=>rw [eqI_iff] at e;exact absurd (congrArg Prod.fst e) hc.2
        have hk:(gthL ps a (askL ps ma a (l.take n))).any (plI ps (gK ps ma.nm ma.ds d))=ovC ps ma.nm ma.ds a d:=by
          rw [Bool.eq_iff_iff,ovC_iff hW hU ha]
          constructor
          · intro h
            obtain ⟨y,hy,hp⟩:=List.any_eq_true.1 h
            exact (gth_ov _ [] (fun y hy=>by cases hy) y hy:Ov ps a y).step hp
          · intro h
            have hs:=ov_st h
            obtain ⟨m,hm⟩:=h
            cases m with
            | zero=>exact absurd (congrArg Prod.fst hm.1) hc.2
            | succ m =>
              obtain ⟨y,hy,hp⟩:=hm
              refine List.any_eq_true.2 ⟨y,?_,hp⟩
              obtain ⟨my,hmy,e1,e2,_,_,e5⟩:=ovN_facts hW ha m y hy
              rw [ih,hs]
              rcases e5 with rfl|⟨hif,hlt⟩
              · exact List.mem_append_left _ (List.mem_singleton.2 rfl)
              · obtain ⟨j,hj,ej,hoj,_⟩:=ov_gK hW hU ha ⟨m,hy⟩
                obtain ⟨_,_,_,_,_,_,_,_,hne,_,hex⟩:=pl_facts hp
                have hy1:y.1=(j:Int):=by rw [ej];rfl
                have hd1:(gK ps ma.nm ma.ds d).1=(d:Int):=rfl
                rw [hy1] at hif hlt hne hex
                rw [hd1] at hne hex
                have hle:=extI_le hW hex
                have hjl:=hcl d (List.mem_of_getElem? hd) j hex hif hlt
                refine List.mem_append_right _ (List.mem_map.2 ⟨j,List.mem_filter.2 ⟨take_lt hasc hd hjl (by omega),?_⟩,ej.symm⟩)
                rw [hoj,Bool.true_and,bne_iff_ne]
                omega
        rw [he,hk,Bool.false_and,Bool.false_or,ih]
        have hb:((d:Int) != a.1)=true:=by rw [bne_iff_ne];exact hc.2
        cases ho:ovC ps ma.nm ma.ds a d with
        | true=>simp [ho,hb,List.append_assoc]
        | false=>simp [ho]
      · rw [if_neg hc,List.append_nil,ih]
        have:(ovC ps ma.nm ma.ds a d&&((d:Int) != a.1))=false:=by
          rw [ovC]
          by_cases h1:(fndI ps (d:Int) ma.nm ma.ds).2=0
          · have h2:(d:Int)=a.1:=Decidable.not_not.1 fun h=>hc ⟨h1,h⟩
            rw [h2];simp
          · simp [h1]
        simp [this]
    · rw [List.take_of_length_le (by omega)] at ih ⊢
      exact ih
theorem last_max {F:List Nat} (h:F.Pairwise (· < ·)) {j:Nat} (hj:F.getLast?=some j):j∈F∧∀ x∈F,x≤j:=by
  rcases List.eq_nil_or_concat F with rfl|⟨F0,y,rfl⟩
  · cases hj
  · rw [List.concat_eq_append] at h hj ⊢
    rw [List.getLast?_append] at hj
    simp at hj
    subst hj
    refine ⟨by simp,fun x hx=>?_⟩
    rcases List.mem_append.1 hx with hx|hx
    · exact Nat.le_of_lt ((List.pairwise_append.1 h).2.2 x hx y (by simp))
    · rw [List.mem_singleton] at hx;omega
theorem find_desc {p:Nat→Bool}:∀ {l:List Nat},l.Pairwise (· > ·)→∀ {j:Nat},j∈l→p j=true→(∀ x∈l,p x=true→x≤j)→l.find? p=some j
  | [],_,_,h,_,_=>by cases h
  | y::r,hp,j,hj,hpj,hm=>by
    rw [List.find?_cons]
    rw [List.pairwise_cons] at hp
    cases hy:p y with
    | true =>
      rcases List.mem_cons.1 hj with rfl|hj
      · rfl
      · have h1:=hm y (by simp) hy
        have h2:=hp.1 j hj
        omega
    | false =>
      rcases List.mem_cons.1 hj with rfl|hj
      · rw [hy] at hpj;cases hpj
      · exact find_desc hp.2 hj hpj fun x hx h=>hm x (List.mem_cons_of_mem _ hx) h
def firD (ps:List Plc) (nm ds:ByteArray) (a:Int×Int) (l:List Nat):(Int×Int)×Int:=match l.find? (ovC ps nm ds a) with
  | some j=>(gK ps nm ds j,0)
  | none=>((0,0),6)
theorem firD_some {ps:List Plc} {nm ds:ByteArray} {a:Int×Int} {l:List Nat} {j:Nat} (h:l.find? (ovC ps nm ds a)=some j):firD ps nm ds a l=(gK ps nm ds j,0):=by rw [firD,h]
theorem firD_none {ps:List Plc} {nm ds:ByteArray} {a:Int×Int} {l:List Nat} (h:∀ x∈l,ovC ps nm ds a x=false):firD ps nm ds a l=((0,0),6):=by
  have:l.find? (ovC ps nm ds a)=none:=by rw [List.find?_eq_none];intro x hx;rw [h x hx];simp
  rw [firD,this]
theorem ch_closed {ps:List Plc} (hW:WI ps) {k:Nat} (hk:k<ps.length) {d:Nat} (hd:d∈chL (ps.map nd) k) {j:Nat} (hex:extI ps (d:Int) (j:Int)=true) (hif:ifcI ps (j:Int)=false):j∈chL (ps.map nd) k:=by
  have hkl:k<(ps.map nd).length:=by simpa using hk
  obtain ⟨i,j2,hi,hj,hil,hjl,he⟩:=extI_split hex
  obtain rfl:d=i:=by omega
  obtain rfl:j=j2:=by omega
  refine ch_trans hW.wo k hkl d hd j ?_
  rcases (ext_iff _ _ _).1 he with h|h
  · exact h
  · exfalso
    obtain ⟨_,_,p,hp1,hp2,_⟩:=cl_facts hW.wo h
    rw [ifcI,plcI_nat] at hif
    rw [List.getElem?_map] at hp1
    obtain ⟨q,hq,rfl⟩:=Option.map_eq_some_iff.1 hp1
    rw [hq] at hif
    have:(nd q).i=false:=hif
    rw [this] at hp2
    cases hp2
theorem fir_canon {ps:List Plc} (hW:WI ps) (hU:UnqM ps) {a:Int×Int} {ma:HM} (ha:methI ps a.1 a.2=some ma) {k:Nat} {q:Plc} (hq:ps[k]?=some q):firI ps (k:Int) a=firD ps ma.nm ma.ds a (chL (ps.map nd) k):=by
  have hk:=(List.getElem?_eq_some_iff.1 hq).1
  have hkl:k<(ps.map nd).length:=by simpa using hk
  have hdesc:=ch_desc hW.wo k hkl
  have hasc:(chL (ps.map nd) k).reverse.Pairwise (· < ·):=by rw [List.pairwise_reverse];exact hdesc
  have hg:=gth_canon hW hU ha hasc (fun d hd j h1 h2 _=>List.mem_reverse.2 (ch_closed hW hk (List.mem_reverse.1 hd) h1 h2)) (chL (ps.map nd) k).reverse.length
  rw [List.take_length] at hg
  have e0:firI ps (k:Int) a=lstI (chL (ps.map nd) k) (gthL ps a (askL ps ma a (chL (ps.map nd) k).reverse)):=by
    rw [firI,ha,plcI_nat,hq];rfl
  rw [e0,hg]
  obtain ⟨F,hF⟩:∃ F,((chL (ps.map nd) k).reverse.filter fun k=>ovC ps ma.nm ma.ds a k&&((k:Int) != a.1))=F:=⟨_,rfl⟩
  rw [hF]
  have hFasc:F.Pairwise (· < ·):=by rw [← hF];exact hasc.filter _
  have hFm:∀ x,x∈F↔x∈chL (ps.map nd) k∧ovC ps ma.nm ma.ds a x=true∧(x:Int)≠a.1:=fun x=>by
    rw [← hF,List.mem_filter,List.mem_reverse,Bool.and_eq_true,bne_iff_ne]
  cases hl:F.getLast? with
  | some j =>
    obtain ⟨hj1,hj2⟩:=last_max hFasc hl
    obtain ⟨h1,h2,h3⟩:=(hFm j).1 hj1
    have hle:=(ovC_le hW hU ha h2).1
    rw [firD_some (find_desc hdesc h1 h2 fun x hx hp=>?_)]
    · have hlast:((if stI ps a then [] else [a])++F.map (gK ps ma.nm ma.ds)).getLast?=some (gK ps ma.nm ma.ds j):=by
        rw [List.getLast?_append,List.getLast?_map,hl];rfl
      rw [lstI_last hlast,if_pos]
      exact List.contains_iff_mem.2 (List.mem_map.2 ⟨j,h1,rfl⟩)
    · by_cases hxa:(x:Int)=a.1
      · omega
      · exact hj2 x ((hFm x).2 ⟨hx,hp,hxa⟩)
  | none =>
    have hF0:F=[]:=List.getLast?_eq_none_iff.1 hl
    rw [hF0,List.map_nil,List.append_nil]
    cases hs:stI ps a with
    | true =>
      rw [firD_none fun x hx=>?_]
      · rfl
      · cases ho:ovC ps ma.nm ma.ds a x with
        | false=>rfl
        | true=>rw [ov_st ((ovC_iff hW hU ha).1 ho)] at hs;cases hs
    | false =>
      simp only [Bool.false_eq_true,if_false]
      rw [lstI_last (x:=a) rfl]
      by_cases hin:((chL (ps.map nd) k).map (fun k:Nat=>(k:Int))).contains a.1=true
      · rw [if_pos hin]
        obtain ⟨j,hj,ej⟩:=List.mem_map.1 (List.contains_iff_mem.1 hin)
        obtain ⟨j2,hj2,e2,hoj,_⟩:=ov_gK hW hU ha ⟨0,rfl,hs⟩
        have:(j2:Int)=a.1:=by rw [e2];rfl
        obtain rfl:j=j2:=by omega
        rw [firD_some (find_desc hdesc hj hoj fun x hx hp=>?_),← e2]
        by_cases hxa:(x:Int)=a.1
        · omega
        · have:=(hFm x).2 ⟨hx,hp,hxa⟩
          rw [hF0] at this;cases this
      · rw [if_neg hin,firD_none fun x hx=>?_]
        cases ho:ovC ps ma.nm ma.ds a x with
        | false=>rfl
        | true =>
          by_cases hxa:(x:Int)=a.1
          · exact absurd (List.contains_iff_mem.2 (List.mem_map.2 ⟨x,hx,hxa⟩)) hin
          · have:=(hFm x).2 ⟨hx,ho,hxa⟩
            rw [hF0] at this;cases this
def allK (ps:List Plc) (nm ds:ByteArray) (a:Int×Int):List Nat:=(List.range ps.length).filter (ovC ps nm ds a)
theorem all_canon {ps:List Plc} (hW:WI ps) (hU:UnqM ps) {a:Int×Int} {ma:HM} (ha:methI ps a.1 a.2=some ma) {k:Nat} (hk:a.1=(k:Int)):gthL ps a (askL ps ma a (List.range' (k+1) (ps.length - (k+1))))=(allK ps ma.nm ma.ds a).map (gK ps ma.nm ma.ds):=by
  have hkl:k<ps.length:=by
    obtain ⟨j,q,hj,hq,_,_⟩:=meth_plc ha
    have:=(List.getElem?_eq_some_iff.1 hq).1
    omega
  have hasc:(List.range' (k+1) (ps.length - (k+1))).Pairwise (· < ·):=List.pairwise_lt_range'
  have hg:=gth_canon hW hU ha hasc (fun d hd j h1 h2 h3=>by
    have hle:=extI_le hW h1
    have hd2:=List.mem_range'_1.1 hd
    exact List.mem_range'_1.2 (by omega)) (List.range' (k+1) (ps.length - (k+1))).length
  rw [List.take_length] at hg
  rw [hg,allK]
  have hsplit:List.range ps.length=List.range k++([k]++List.range' (k+1) (ps.length - (k+1))):=by
    have e1:ps.length=k+(ps.length - (k+1)+1):=by omega
    have e2:=List.range'_append_1 (s:=0) (m:=k) (n:=ps.length - (k+1)+1)
    rw [Nat.zero_add,← e1] at e2
    rw [List.singleton_append,← List.range'_succ,List.range_eq_range',List.range_eq_range',e2]
  rw [hsplit,List.filter_append,List.filter_append,List.map_append,List.map_append]
  have h0:(List.range k).filter (ovC ps ma.nm ma.ds a)=[]:=by
    rw [List.filter_eq_nil_iff]
    intro x hx ho
    have:=(ovC_le hW hU ha ho).1
    have:=List.mem_range.1 hx
    omega
  have h1:(List.range' (k+1) (ps.length - (k+1))).filter (fun k=>ovC ps ma.nm ma.ds a k&&((k:Int) != a.1))=(List.range' (k+1) (ps.length - (k+1))).filter (ovC ps ma.nm ma.ds a):=by
    refine List.filter_congr fun x hx=>?_
    have:=(List.mem_range'_1.1 hx).1
    have:((x:Int) != a.1)=true:=by rw [bne_iff_ne];omega
    rw [this,Bool.and_true]
  rw [h0,h1,List.map_nil,List.nil_append]
  congr 1
  cases hs:stI ps a with
  | true =>
    have:ovC ps ma.nm ma.ds a k=false:=by
      cases ho:ovC ps ma.nm ma.ds a k with
      | false=>rfl
      | true=>rw [ov_st ((ovC_iff hW hU ha).1 ho)] at hs;cases hs
    simp [this]
  | false =>
    obtain ⟨j,hj,e2,hoj,_⟩:=ov_gK hW hU ha ⟨0,rfl,hs⟩
    have:(j:Int)=a.1:=by rw [e2];rfl
    obtain rfl:k=j:=by omega
    simp [hoj,← e2]
def alvE (ps:List Plc) (a:Int×Int):List (Int×Int)×Int:=match methI ps a.1 a.2 with
  | some m=>((allK ps m.nm m.ds a).map (gK ps m.nm m.ds),0)
  | none=>([],3)
theorem alvE_len {ps:List Plc} (hW:WI ps) (a:Int×Int):(alvE ps a).1.length≤300:=by
  rw [alvE]
  split
  · simp only [List.length_map,allK]
    refine Nat.le_trans (List.length_filter_le _ _) ?_
    rw [List.length_range];exact hW.hi
  · simp
end Go.Proofs.YthfifobokpfpkaaGreat
