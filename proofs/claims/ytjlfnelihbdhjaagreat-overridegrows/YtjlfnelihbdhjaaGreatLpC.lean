import Derived.Test.YtjlfnelihbdhjaaGreatOvI
import Derived.Test.YtjlfnelihbdhjaaGreatRsC
import Derived.Test.YtjlfnelihbdhjaaGreatChA
import Derived.Test.YtjlfnelihbdhjaaGreatOvR
import Derived.Test.YtjlfnelihbdhjaaGreatGrB
import Derived.Deep.RegionHeld3
set_option maxRecDepth 100000
namespace Go.Proofs.YtjlfnelihbdhjaaGreat
open Go.RowKit Go.Maps
theorem both_no {b:Nat} {ps:List Plc} {W:World} (h:WAt b ps W) (hi:WI ps) (c i a j:Int) (hm:methI ps c i=none∨methI ps a j=none) (w:World) (hb:Below W.heap.size W w):Calls Tryz.prog 64 #[.pointer (some ⟨b,0,none⟩),.agg #[.int .i64 c,.int .i64 i],.agg #[.int .i64 a,.int .i64 j]] w fun e w'=>e=.returned (.tuple #[.agg #[.string ⟨#[]⟩,.string ⟨#[]⟩,.int .i64 0,.int .i64 0,.int .i64 0,.slice none 0 0,.int .i64 0,.int .i64 0,.pointer none],.agg #[.string ⟨#[]⟩,.string ⟨#[]⟩,.int .i64 0,.int .i64 0,.int .i64 0,.slice none 0 0,.int .i64 0,.int .i64 0,.pointer none],.int .i64 3])∧Below w.heap.size w w':=by
  cases hc:methI ps c i with
  | none=>exact both_no1 (h.below hb) hi c i a j hc
  | some m =>
    rcases hm with hm|hm
    · rw [hm] at hc;cases hc
    · exact both_no2 (h.below hb) hi c i a j m hc hm
set_option maxHeartbeats 4000000 in
theorem ovr_no {b:Nat} {ps:List Plc} {W:World} (h:WAt b ps W) (hi:WI ps) (c i a j:Int) (hm:methI ps c i=none∨methI ps a j=none):Calls Tryz.prog 20 #[.pointer (some ⟨b,0,none⟩),.agg #[.int .i64 c,.int .i64 i],.agg #[.int .i64 a,.int .i64 j]] W fun e w'=>e=.returned (.tuple #[.bool false,.int .i64 3])∧Below W.heap.size W w':=by
  have HR:Hid (∀ w,Below W.heap.size W w→Calls Tryz.prog 64 #[.pointer (some ⟨b,0,none⟩),.agg #[.int .i64 c,.int .i64 i],.agg #[.int .i64 a,.int .i64 j]] w fun e w'=>e=.returned (.tuple #[.agg #[.string ⟨#[]⟩,.string ⟨#[]⟩,.int .i64 0,.int .i64 0,.int .i64 0,.slice none 0 0,.int .i64 0,.int .i64 0,.pointer none],.agg #[.string ⟨#[]⟩,.string ⟨#[]⟩,.int .i64 0,.int .i64 0,.int .i64 0,.slice none 0 0,.int .i64 0,.int .i64 0,.pointer none],.int .i64 3])∧Below w.heap.size w w'):=both_no h hi c i a j hm
  clear h hi hm
  go_enter Tryz.func20,Tryz.ntmps20
  go_upto_region 2 with (go_at_call 64;refine (HR.out _ (by repeat (first|exact Below.refl _ _|refine Below.setCell ?_ (by simp;try omega) _|refine Below.alloc ?_ (by simp;try omega) _|refine Below.drew ?_))).mono ?_;rintro e w1 ⟨rfl,hb⟩;have B1:Hid (Below (W.heap.size+2) ((W.alloc (.cells #[.int .i64 c,.int .i64 i] 24)).alloc (.cells #[.int .i64 a,.int .i64 j] 24)) w1):=hb.mono (by simp);have hs1:W.heap.size+2≤w1.heap.size:=(by have:=hb.size;simpa using this);clear hb HR)
  obtain ⟨V,hV⟩:∃ V,V=(w1.alloc (.cells #[.string ⟨#[]⟩,.string ⟨#[]⟩,.int .i64 0,.int .i64 0,.int .i64 0,.slice none 0 0,.int .i64 0,.int .i64 0,.pointer none] 93)).alloc (.cells #[.string ⟨#[]⟩,.string ⟨#[]⟩,.int .i64 0,.int .i64 0,.int .i64 0,.slice none 0 0,.int .i64 0,.int .i64 0,.pointer none] 93):=⟨_,rfl⟩
  have fd:V.heap[w1.heap.size]?=some (.cells #[.string ⟨#[]⟩,.string ⟨#[]⟩,.int .i64 0,.int .i64 0,.int .i64 0,.slice none 0 0,.int .i64 0,.int .i64 0,.pointer none] 93 (0,0)):=by rw [hV];exact hkeep (halloc1 _ _)
  have hd2:V.heap[w1.heap.size+1]?=some (.cells #[.string ⟨#[]⟩,.string ⟨#[]⟩,.int .i64 0,.int .i64 0,.int .i64 0,.slice none 0 0,.int .i64 0,.int .i64 0,.pointer none] 93 (0,0)):=by rw [hV];exact halloc2 _ _ (by simp)
  have BV:Hid (Below (W.heap.size+2) ((W.alloc (.cells #[.int .i64 c,.int .i64 i] 24)).alloc (.cells #[.int .i64 a,.int .i64 j] 24)) V):=by rw [hV];exact (B1.out.alloc hs1 _).alloc (by simp;omega) _
  rw [← hV]
  obtain ⟨x0,x1,x2,x3,x4,x5,x6,x7,x8,xL⟩:=row9 fd
  obtain ⟨y0,y1,y2,y3,y4,y5,y6,y7,y8,yL⟩:=row9 hd2
  have HF9:Hid (V.heap[w1.heap.size]?=some (.cells #[.string ⟨#[]⟩,.string ⟨#[]⟩,.int .i64 0,.int .i64 0,.int .i64 0,.slice none 0 0,.int .i64 0,.int .i64 0,.pointer none] 93 (0,0))):=fd
  have HG9:Hid (V.heap[w1.heap.size+1]?=some (.cells #[.string ⟨#[]⟩,.string ⟨#[]⟩,.int .i64 0,.int .i64 0,.int .i64 0,.slice none 0 0,.int .i64 0,.int .i64 0,.pointer none] 93 (0,0))):=hd2
  clear hV hd2 fd
  go_wp2
  exact bodyPost_ret (v:=.tuple #[.bool false,.int .i64 3]) (by simp [results,Tryz.results20,go_sem, *]) rfl ⟨rfl,(by have hbw:Below W.heap.size W V:=(((Below.refl _ W).alloc (Nat.le_refl _) _).alloc (by simp) _).trans (BV.out.mono (by omega));exact hbw)⟩
theorem callIs (vs:Array Value) (w:World):(callFunc 71 vs).run Tryz.prog w=.ok (.enter 71 vs) w:=by simp [go_sem]
theorem any_is {c:Int×Int}:∀ {l:List P9},l.any (fun y=>(c.1 == y.c)&&(c.2 == y.i))=(l.map P9.id).any (eqI c)
  | []=>rfl
  | y::r=>by rw [List.any_cons,List.map_cons,List.any_cons,any_is];rfl
set_option maxHeartbeats 8000000 in
theorem ovr_yes {b:Nat} {ps:List Plc} {W:World} (h:WAt b ps W) (hi:WI ps) (ck:Nat) (q:Plc) (hq:ps[ck]?=some q) (i a j:Int) (m k:HM) (hm:methI ps (ck:Int) i=some m) (hk:methI ps a j=some k):Calls Tryz.prog 20 #[.pointer (some ⟨b,0,none⟩),.agg #[.int .i64 (ck:Int),.int .i64 i],.agg #[.int .i64 a,.int .i64 j]] W fun e w'=>e=.returned (.tuple #[.bool ((gthL ps (a,j) (askL ps k (a,j) (chL (ps.map nd) ck).reverse)).any (eqI ((ck:Int),i))),.int .i64 0])∧Below W.heap.size W w':=by
  have HR:Hid (∀ w,Below W.heap.size W w→Calls Tryz.prog 64 #[.pointer (some ⟨b,0,none⟩),.agg #[.int .i64 (ck:Int),.int .i64 i],.agg #[.int .i64 a,.int .i64 j]] w fun e w'=>(∃ xa xk xo ya yk yo,e=.returned (.tuple #[.agg #[.string m.nm,.string m.ds,.int .i64 m.fl,.int .i64 m.lo,.int .i64 m.st,.slice xa xk xo,.int .i64 (ck:Int),.int .i64 i,.pointer (some ⟨b,0,none⟩)],.agg #[.string k.nm,.string k.ds,.int .i64 k.fl,.int .i64 k.lo,.int .i64 k.st,.slice ya yk yo,.int .i64 a,.int .i64 j,.pointer (some ⟨b,0,none⟩)],.int .i64 0]))∧Below w.heap.size w w'):=fun w hb=>both_yes (h.below hb) hi (ck:Int) i a j m k hm hk
  have hKb:(chL (ps.map nd) ck).length≤300:=by
    have h1:=ch_len hi.wo ck (by simpa using (List.getElem?_eq_some_iff.1 hq).1)
    have h2:=hi.hi
    have h3:=(List.getElem?_eq_some_iff.1 hq).1
    omega
  have HD:Hid (∀ w,Below W.heap.size W w→Calls Tryz.prog 68 #[.pointer (some ⟨b,0,none⟩),.int .i64 (ck:Int)] w fun e w'=>∃ g cap,e=.returned (.tuple #[.slice (some ⟨g,0,none⟩) (chL (ps.map nd) ck).length cap,.int .i64 0])∧w'.ownsRow w.heap.size 3 1 (.slice (some ⟨g,0,none⟩) (chL (ps.map nd) ck).length cap) (chL (ps.map nd) ck).length ((chL (ps.map nd) ck).reverse.map numV)∧Below w.heap.size w w'):=fun w hb=>down_c (h.below hb) hi ck q hq
  obtain ⟨G,hG⟩:∃ G,gthL ps (a,j) (askL ps k (a,j) (chL (ps.map nd) ck).reverse)=G:=⟨_,rfl⟩
  rw [hG]
  have hGb:G.length≤301:=by
    rw [← hG]
    refine Nat.le_trans (gthL_len _ _ _) ?_
    have:=nskL_len ps k.nm k.ds (a,j).1 (chL (ps.map nd) ck).reverse
    rw [List.length_reverse] at this
    rw [askL,List.length_cons]
    omega
  have HG:Hid (∀ w (x:P9) (v:Value),Below W.heap.size W w→OkP ps x→x.id=(a,j)→(x.nm,x.ds,x.c)=(k.nm,k.ds,a)→Rds w v (chL (ps.map nd) ck).length 1 ((chL (ps.map nd) ck).reverse.map numV)→Calls Tryz.prog 70 #[x.agg b,v] w fun e w'=>∃ (L:List P9) (g cap:Nat),e=.returned (.slice (some ⟨g,0,none⟩) L.length cap)∧(∀ y∈L,OkP ps y)∧L.map P9.id=G∧w'.ownsRow w.heap.size 93 9 (.slice (some ⟨g,0,none⟩) L.length cap) L.length (flat9 b L)∧Below w.heap.size w w'):=fun w x v hb ho hid hnd hv=>by
    have:=gth_c (h.below hb) hi x ho v (chL (ps.map nd) ck).reverse (by rw [List.length_reverse];exact hv) (by rw [List.length_reverse];exact hKb)
    simp only [Prod.mk.injEq] at hnd
    rw [hid,hnd.1,hnd.2.1,hnd.2.2] at this
    rw [askL] at hG
    rw [hG] at this
    exact this
  have HN:Hid (∀ (w:World) (L:List P9) (v:Value) (N0:Nat) (x:P9),w.ownsRow N0 93 9 v L.length (flat9 b L)→L.map P9.id=G→x.id=((ck:Int),i)→Calls Tryz.prog 69 #[v,.func (.func 71) #[x.agg b] #[]] w fun e w'=>e=.returned (.bool (G.any (eqI ((ck:Int),i))))∧Below w.heap.size w w'):=fun w L v N0 x ho hid hx=>by
    have hl:L.length≤1000000:=by
      have:=congrArg List.length hid
      rw [List.length_map] at this
      omega
    have:=con9_any 71 callIs (x.agg b) (fun y=>(x.c == y.c)&&(x.i == y.i)) N0 b L v w ho hl (fun y _ w2 _=>is_c b x.nm x.ds x.fl x.lo x.st x.sa x.sk x.so x.c x.i y.nm y.ds y.fl y.lo y.st y.sa y.sk y.so y.c y.i w2)
    have e:L.any (fun y=>(x.c == y.c)&&(x.i == y.i))=G.any (eqI ((ck:Int),i)):=by
      rw [← hid,← hx]
      exact any_is (c:=x.id)
    rw [e] at this
    exact this
  have HM:Hid (methI ps a j=some k):=hk
  generalize G.any (eqI ((ck:Int),i))=R at *
  generalize chL (ps.map nd) ck=l at *
  obtain ⟨K,hK⟩:∃ K,l.length=K:=⟨_,rfl⟩
  rw [hK] at HD HG hKb
  clear h hi hm hk hq hG hK hGb
  simp only [P9.agg] at HG HN
  go_enter Tryz.func20,Tryz.ntmps20
  go_upto_region 2 with (go_at_call 64;refine (HR.out _ (by repeat (first|exact Below.refl _ _|refine Below.setCell ?_ (by simp;try omega) _|refine Below.alloc ?_ (by simp;try omega) _|refine Below.drew ?_))).mono ?_;rintro e w1 ⟨⟨xa,xk,xo,ya,yk,yo,rfl⟩,hb⟩;have B1:Hid (Below (W.heap.size+2) ((W.alloc (.cells #[.int .i64 (ck:Int),.int .i64 i] 24)).alloc (.cells #[.int .i64 a,.int .i64 j] 24)) w1):=hb.mono (by simp);have hs1:W.heap.size+2≤w1.heap.size:=(by have:=hb.size;simpa using this);clear hb HR)
  obtain ⟨V,hV⟩:∃ V,V=(w1.alloc (.cells #[.string m.nm,.string m.ds,.int .i64 m.fl,.int .i64 m.lo,.int .i64 m.st,.slice xa xk xo,.int .i64 (ck:Int),.int .i64 i,.pointer (some ⟨b,0,none⟩)] 93)).alloc (.cells #[.string k.nm,.string k.ds,.int .i64 k.fl,.int .i64 k.lo,.int .i64 k.st,.slice ya yk yo,.int .i64 a,.int .i64 j,.pointer (some ⟨b,0,none⟩)] 93):=⟨_,rfl⟩
  have fd:V.heap[w1.heap.size]?=some (.cells #[.string m.nm,.string m.ds,.int .i64 m.fl,.int .i64 m.lo,.int .i64 m.st,.slice xa xk xo,.int .i64 (ck:Int),.int .i64 i,.pointer (some ⟨b,0,none⟩)] 93 (0,0)):=by rw [hV];exact hkeep (halloc1 _ _)
  have hd2:V.heap[w1.heap.size+1]?=some (.cells #[.string k.nm,.string k.ds,.int .i64 k.fl,.int .i64 k.lo,.int .i64 k.st,.slice ya yk yo,.int .i64 a,.int .i64 j,.pointer (some ⟨b,0,none⟩)] 93 (0,0)):=by rw [hV];exact halloc2 _ _ (by simp)
  have BV:Hid (Below (W.heap.size+2) ((W.alloc (.cells #[.int .i64 (ck:Int),.int .i64 i] 24)).alloc (.cells #[.int .i64 a,.int .i64 j] 24)) V):=by rw [hV];exact (B1.out.alloc hs1 _).alloc (by simp;omega) _
  rw [← hV]
  obtain ⟨x0,x1,x2,x3,x4,x5,x6,x7,x8,xL⟩:=row9 fd
  obtain ⟨y0,y1,y2,y3,y4,y5,y6,y7,y8,yL⟩:=row9 hd2
  have HF9:Hid (V.heap[w1.heap.size]?=some (.cells #[.string m.nm,.string m.ds,.int .i64 m.fl,.int .i64 m.lo,.int .i64 m.st,.slice xa xk xo,.int .i64 (ck:Int),.int .i64 i,.pointer (some ⟨b,0,none⟩)] 93 (0,0))):=fd
  have HG9:Hid (V.heap[w1.heap.size+1]?=some (.cells #[.string k.nm,.string k.ds,.int .i64 k.fl,.int .i64 k.lo,.int .i64 k.st,.slice ya yk yo,.int .i64 a,.int .i64 j,.pointer (some ⟨b,0,none⟩)] 93 (0,0))):=hd2
  clear hV hd2 fd
  obtain ⟨ccB,cc0,cc1,ccf,ccL,ccN⟩:=kp2 (n:=W.heap.size) BV.out (by omega) (hkeep (halloc1 _ _))
  have BW:Hid (Below W.heap.size W V):=(((Below.refl _ W).alloc (Nat.le_refl _) _).alloc (by simp) _).trans (BV.out.mono (by omega))
  clear B1
  go_wp2_with (go_at_call 68;refine (HD.out _ BW.out).mono ?_;rintro e w2 ⟨dg,dc,rfl,ho,hb⟩;have D2:Hid (Rds w2 (.slice (some ⟨dg,0,none⟩) K dc) K 1 (l.reverse.map numV)):=own_rds ho;have HF9b:Hid (w2.heap[w1.heap.size]?=some (.cells #[.string m.nm,.string m.ds,.int .i64 m.fl,.int .i64 m.lo,.int .i64 m.st,.slice xa xk xo,.int .i64 (ck:Int),.int .i64 i,.pointer (some ⟨b,0,none⟩)] 93 (0,0))):=(hb.block w1.heap.size (by first|omega|(simp;omega))).trans HF9.out;have HG9b:Hid (w2.heap[w1.heap.size+1]?=some (.cells #[.string k.nm,.string k.ds,.int .i64 k.fl,.int .i64 k.lo,.int .i64 k.st,.slice ya yk yo,.int .i64 a,.int .i64 j,.pointer (some ⟨b,0,none⟩)] 93 (0,0))):=(hb.block (w1.heap.size+1) (by first|omega|(simp;omega))).trans HG9.out;clear x0 x1 x2 x3 x4 x5 x6 x7 x8 xL y0 y1 y2 y3 y4 y5 y6 y7 y8 yL;clear HF9 HG9;have HF9:=HF9b;have HG9:=HG9b;clear HF9b HG9b;obtain ⟨x0,x1,x2,x3,x4,x5,x6,x7,x8,xL⟩:=row9 HF9.out;obtain ⟨y0,y1,y2,y3,y4,y5,y6,y7,y8,yL⟩:=row9 HG9.out;have B2:Hid (Below W.heap.size W w2):=bstep BW.out hb;clear hb ho HD BW)
  go_region_held3 (fun w'=>w'.cell? ⟨w1.heap.size,0,none⟩=some (.string m.nm)∧w'.cell? ⟨w1.heap.size,1,none⟩=some (.string m.ds)∧w'.cell? ⟨w1.heap.size,2,none⟩=some (.int .i64 m.fl)∧w'.cell? ⟨w1.heap.size,3,none⟩=some (.int .i64 m.lo)∧w'.cell? ⟨w1.heap.size,4,none⟩=some (.int .i64 m.st)∧w'.cell? ⟨w1.heap.size,5,none⟩=some (.slice xa xk xo)∧w'.cell? ⟨w1.heap.size,6,none⟩=some (.int .i64 (ck:Int))∧w'.cell? ⟨w1.heap.size,7,none⟩=some (.int .i64 i)∧w'.cell? ⟨w1.heap.size,8,none⟩=some (.pointer (some ⟨b,0,none⟩))∧w'.cell? ⟨w1.heap.size+1,0,none⟩=some (.string k.nm)∧w'.cell? ⟨w1.heap.size+1,1,none⟩=some (.string k.ds)∧w'.cell? ⟨w1.heap.size+1,2,none⟩=some (.int .i64 k.fl)∧w'.cell? ⟨w1.heap.size+1,3,none⟩=some (.int .i64 k.lo)∧w'.cell? ⟨w1.heap.size+1,4,none⟩=some (.int .i64 k.st)∧w'.cell? ⟨w1.heap.size+1,5,none⟩=some (.slice ya yk yo)∧w'.cell? ⟨w1.heap.size+1,6,none⟩=some (.int .i64 a)∧w'.cell? ⟨w1.heap.size+1,7,none⟩=some (.int .i64 j)∧w'.cell? ⟨w1.heap.size+1,8,none⟩=some (.pointer (some ⟨b,0,none⟩))) (go_keep) (first
    | (go_at_call 70;refine (HG.out _ ⟨k.nm,k.ds,k.fl,k.lo,k.st,ya,yk,yo,a,j⟩ (.slice (some ⟨dg,0,none⟩) K dc) B2.out.drew ⟨k,HM.out,rfl,rfl,rfl⟩ rfl rfl (D2.out.keep ((Below.refl _ w2).drew))).mono ?_;rintro e w3 ⟨L,g,cap,rfl,hok,hid,ho,hb⟩;have O3:Hid (w3.ownsRow w2.heap.size 93 9 (.slice (some ⟨g,0,none⟩) L.length cap) L.length (flat9 b L)):=ho;have ID3:Hid (L.map P9.id=G):=hid;have HF9b:Hid (w3.heap[w1.heap.size]?=some (.cells #[.string m.nm,.string m.ds,.int .i64 m.fl,.int .i64 m.lo,.int .i64 m.st,.slice xa xk xo,.int .i64 (ck:Int),.int .i64 i,.pointer (some ⟨b,0,none⟩)] 93 (0,0))):=(hb.block w1.heap.size (by first|omega|(simp;omega))).trans HF9.out;have HG9b:Hid (w3.heap[w1.heap.size+1]?=some (.cells #[.string k.nm,.string k.ds,.int .i64 k.fl,.int .i64 k.lo,.int .i64 k.st,.slice ya yk yo,.int .i64 a,.int .i64 j,.pointer (some ⟨b,0,none⟩)] 93 (0,0))):=(hb.block (w1.heap.size+1) (by first|omega|(simp;omega))).trans HG9.out;clear x0 x1 x2 x3 x4 x5 x6 x7 x8 xL y0 y1 y2 y3 y4 y5 y6 y7 y8 yL;clear HF9 HG9;have HF9:=HF9b;have HG9:=HG9b;clear HF9b HG9b;obtain ⟨x0,x1,x2,x3,x4,x5,x6,x7,x8,xL⟩:=row9 HF9.out;obtain ⟨y0,y1,y2,y3,y4,y5,y6,y7,y8,yL⟩:=row9 HG9.out;have B3:Hid (Below W.heap.size W w3):=bstep B2.out.drew hb;clear hb ho hok hid HG)
    | (go_at_call 69;refine (HN.out _ L (.slice (some ⟨g,0,none⟩) L.length cap) _ ⟨m.nm,m.ds,m.fl,m.lo,m.st,xa,xk,xo,(ck:Int),i⟩ O3.out ID3.out rfl).mono ?_;rintro e w4 ⟨rfl,hb⟩;have HF9b:Hid (w4.heap[w1.heap.size]?=some (.cells #[.string m.nm,.string m.ds,.int .i64 m.fl,.int .i64 m.lo,.int .i64 m.st,.slice xa xk xo,.int .i64 (ck:Int),.int .i64 i,.pointer (some ⟨b,0,none⟩)] 93 (0,0))):=(hb.block w1.heap.size (by first|omega|(simp;omega))).trans HF9.out;have HG9b:Hid (w4.heap[w1.heap.size+1]?=some (.cells #[.string k.nm,.string k.ds,.int .i64 k.fl,.int .i64 k.lo,.int .i64 k.st,.slice ya yk yo,.int .i64 a,.int .i64 j,.pointer (some ⟨b,0,none⟩)] 93 (0,0))):=(hb.block (w1.heap.size+1) (by first|omega|(simp;omega))).trans HG9.out;clear x0 x1 x2 x3 x4 x5 x6 x7 x8 xL y0 y1 y2 y3 y4 y5 y6 y7 y8 yL;clear HF9 HG9;have HF9:=HF9b;have HG9:=HG9b;clear HF9b HG9b;obtain ⟨x0,x1,x2,x3,x4,x5,x6,x7,x8,xL⟩:=row9 HF9.out;obtain ⟨y0,y1,y2,y3,y4,y5,y6,y7,y8,yL⟩:=row9 HG9.out;have B4:Hid (Below W.heap.size W w4):=bstep B3.out hb;clear hb HN))
  all_goals go_wp2
  all_goals exact bodyPost_ret (v:=.tuple #[.bool R,.int .i64 0]) (by simp [results,Tryz.results20,go_sem, *]) rfl ⟨rfl,B4.out⟩
theorem ovr_c {b:Nat} {ps:List Plc} {W:World} (h:WAt b ps W) (hi:WI ps) (c i a j:Int):Calls Tryz.prog 20 #[.pointer (some ⟨b,0,none⟩),.agg #[.int .i64 c,.int .i64 i],.agg #[.int .i64 a,.int .i64 j]] W fun e w'=>e=.returned (.tuple #[.bool (ovrI ps (c,i) (a,j)).1,.int .i64 (ovrI ps (c,i) (a,j)).2])∧Below W.heap.size W w':=by
  cases hm:methI ps c i with
  | none =>
    have e:ovrI ps (c,i) (a,j)=(false,3):=by simp only [ovrI,hm]
    rw [e];exact ovr_no h hi c i a j (.inl hm)
  | some m =>
    cases hk:methI ps a j with
    | none =>
      have e:ovrI ps (c,i) (a,j)=(false,3):=by simp only [ovrI,hm,hk]
      rw [e];exact ovr_no h hi c i a j (.inr hk)
    | some k =>
      obtain ⟨ck,q,rfl,hq,_,_⟩:=meth_plc hm
      have e:ovrI ps ((ck:Int),i) (a,j)=((gthL ps (a,j) (askL ps k (a,j) (chL (ps.map nd) ck).reverse)).any (eqI ((ck:Int),i)),0):=by simp only [ovrI,hm,hk,Int.toNat_natCast]
      rw [e];exact ovr_yes h hi ck q hq i a j m k hm hk
theorem clss_keep {w w':World} {v:Value} {l:List Cls} (h:IsClss w v l) (hb:Below w.heap.size w w'):IsClss w' v l:=by
  obtain ⟨ao,cap,rfl,h1,h2,h3⟩:=h
  refine ⟨ao,cap,rfl,h1,h2,fun hne=>?_⟩
  obtain ⟨bk,o,e,hlt,hc⟩:=h3 hne
  refine ⟨bk,o,e,Nat.lt_of_lt_of_le hlt hb.size,fun k c hk=>?_⟩
  obtain ⟨vi,vm,h4,h5⟩:=hc k c hk
  exact ⟨vi,vm,fun j u hj=>(hb.cell hlt).trans (h4 j u hj),h5.keep hb⟩
theorem ovr3:ovrI P3 (0,1) (0,1)=(true,0):=by kernel_rfl
theorem awake9_c (W:World):Calls Tryz.prog 15 #[] W fun e w'=>e=.returned (.bool true)∧Below W.heap.size W w':=by
  have HN:Hid (∀ w:World,Calls Tryz.prog 60 #[] w fun e w'=>∃ b,e=.returned (.pointer (some ⟨b,0,none⟩))∧WAt b P3 w'∧Below w.heap.size w w'):=fun w=>(new_any w).mono fun e w' zz=>⟨_,zz.1,by obtain ⟨vp,pv,hw⟩:=zz.2.1;exact hw.wat,zz.2.2⟩
  have HM:Hid (∀ (w:World) (b:Nat),WAt b P3 w→Calls Tryz.prog 20 #[.pointer (some ⟨b,0,none⟩),.agg #[.int .i64 0,.int .i64 1],.agg #[.int .i64 0,.int .i64 1]] w fun e w'=>e=.returned (.tuple #[.bool true,.int .i64 0])∧Below w.heap.size w w'):=fun w b h=>(ovr_c h wi3 0 1 0 1).mono fun e w' zz=>⟨by rw [zz.1,ovr3],zz.2⟩
  have BB:Hid (Below W.heap.size W W):=Below.refl _ _
  go_enter Tryz.func15,Tryz.ntmps15
  go_wp2
  go_region_held3 (fun w'=>w'.cell? ⟨W.heap.size,0,none⟩=some (.int .i64 0)∧w'.cell? ⟨W.heap.size,1,none⟩=some (.int .i64 1)) (go_keep) (first
    | (go_at_call 60;refine (HN.out _).mono ?_;rintro e w1 ⟨b,rfl,hw,hb⟩;have iad:=kp2 (n:=W.heap.size) hb (by first|omega|(simp;try omega)) (halloc1 _ _);(try clear iaB ia0 ia1 iaf iaL iaN);obtain ⟨iaB,ia0,ia1,iaf,iaL,iaN⟩:=iad;have BB2:Below W.heap.size W w1:=bstep (by repeat (first|refine Below.setCell ?_ (by simp;try omega) _|refine Below.alloc ?_ (by have:=BB.out.size;simp;try omega) _|refine Below.drew ?_|exact BB.out)) hb;clear BB;have BB:Hid (Below W.heap.size W w1):=BB2;(try clear HH);have HH:Hid (WAt b P3 w1):=hw;clear hw hb BB2)
    | (go_at_call 20;refine (HM.out _ _ HH.out).mono ?_;rintro e w2 ⟨rfl,hb⟩;have iad:=kp2 (n:=W.heap.size) hb (by first|omega|(simp;try omega)) (iaB.out);(try clear iaB ia0 ia1 iaf iaL iaN);obtain ⟨iaB,ia0,ia1,iaf,iaL,iaN⟩:=iad;have BB2:=bstep BB.out hb;clear BB;have BB:Hid (Below W.heap.size W w2):=BB2;clear hb BB2 HM))
  all_goals go_wp2
  all_goals exact bodyPost_ret (results_tmp rfl _ _ _) rfl ⟨rfl,(by repeat (first|refine Below.setCell ?_ (by simp;try omega) _|refine Below.alloc ?_ (by have:=BB.out.size;simp;try omega) _|refine Below.drew ?_|exact BB.out))⟩
theorem oall_c {b:Nat} {ps:List Plc} {W:World} (h:WAt b ps W) (hi:WI ps) (hU:UnqM ps) (a1 a2:Int):Calls Tryz.prog 25 #[.pointer (some ⟨b,0,none⟩),.agg #[.int .i64 a1,.int .i64 a2]] W fun e w'=>(∃ v,e=.returned (.tuple #[v,.int .i64 (alvE ps (a1,a2)).2])∧w'.ownsRow W.heap.size 24 2 v (alvE ps (a1,a2)).1.length (flatD (alvE ps (a1,a2)).1))∧Below W.heap.size W w':=by
  cases ha:methI ps a1 a2 with
  | none =>
    have e:alvE ps (a1,a2)=([],3):=by simp [alvE,ha]
    rw [e]
    exact (all_no h hi a1 a2 ha).mono fun e w' zz=>⟨⟨_,zz.1,World.ownsRow_nil _ _ _ _⟩,zz.2⟩
  | some ma =>
    have e:alvE ps (a1,a2)=((allK ps ma.nm ma.ds (a1,a2)).map (gK ps ma.nm ma.ds),0):=by simp [alvE,ha]
    rw [e]
    obtain ⟨k,q,rfl,hq,_,_⟩:=meth_plc ha
    exact all_yes h hi k (List.getElem?_eq_some_iff.1 hq).1 a2 ma ha _ (all_canon hi hU (a:=((k:Int),a2)) ha rfl)
def WN (n z b:Nat) (ps:List Plc) (w:World):Prop:=n≤z∧z≤w.heap.size∧∃ mb vp pv,HW w n b mb ps vp pv∧b<z∧mb<z∧∀ g,vp.ownBlock=some g→g<z
theorem WN.of {w:World} {n b mb:Nat} {ps:List Plc} {vp:Value} {pv:List PV} (h:HW w n b mb ps vp pv) (hn:n≤w.heap.size):WN n w.heap.size b ps w:=by
  obtain ⟨es,cl,hm,_⟩:=h.map
  exact ⟨hn,Nat.le_refl _,mb,vp,pv,h,(Array.getElem?_eq_some_iff.1 h.hb).1,(Array.getElem?_eq_some_iff.1 hm).1,fun g hg=>(h.row.lt g hg).2⟩
theorem WN.below {n z b:Nat} {ps:List Plc} {w w':World} (h:WN n z b ps w) (hb:Below w.heap.size w w'):WN n z b ps w':=by
  obtain ⟨h1,h2,mb,vp,pv,h3,h4⟩:=h
  exact ⟨h1,Nat.le_trans h2 hb.size,mb,vp,pv,h3.below hb,h4⟩
theorem WN.wat {n z b:Nat} {ps:List Plc} {w:World} (h:WN n z b ps w):WAt b ps w:=by
  obtain ⟨_,_,mb,vp,pv,h3,_⟩:=h
  exact ⟨_,_,_,_,h3⟩
structure KeepN (n z:Nat) (w w':World):Prop where
  bel:Below n w w'
  block:∀ k,(k<n∨(z≤k∧k<w.heap.size))→w'.heap[k]?=w.heap[k]?
theorem define_n {n z b:Nat} {ps:List Plc} {w:World} (h:WN n z b ps w) (hW:WI ps) (c:Cls) (vi vm:Value) (hc:ClsIn w vi vm c):Calls Tryz.prog 29 #[.pointer (some ⟨b,0,none⟩),.agg #[.string c.nm,.string c.su,vi,.int .i64 c.fl,.int .i64 c.ld,vm]] w fun e w'=>(∃ u,e=.returned u)∧WAt b (dfP ps (defN ps c)) w'∧KeepN n z w w':=by
  obtain ⟨h1,h2,mb,vp,pv,h3,h4,h5,h6⟩:=h
  refine (define_any n b mb ps vp pv c vi vm w h3 (Nat.le_trans h1 h2) hc hW.nm).mono ?_
  rintro e w' ⟨rfl,⟨vp',pv',hw'⟩,hb,hk⟩
  refine ⟨⟨_,rfl⟩,hw'.wat,hb,fun k hk2=>?_⟩
  rcases hk2 with hk2|⟨hk2,hk3⟩
  · exact hb.block k hk2
  · refine hk k hk3 (by omega) (by omega) (fun e=>?_)
    have:=h6 k e.symm
    omega
theorem kq2 {V w:World} {N z n:Nat} {t:TypeId} {a0 a1:Value} (hb:KeepN N z V w) (hn:n<N∨(z≤n∧n<V.heap.size)) (h:V.heap[n]?=some (.cells #[a0,a1] t (0,0))):Hid (w.heap[n]?=some (.cells #[a0,a1] t (0,0)))∧w.cell? ⟨n,0,none⟩=some a0∧w.cell? ⟨n,1,none⟩=some a1∧(∀ k,w.frozen? ⟨n,k,none⟩=false)∧n<w.heap.size∧¬ n=w.heap.size:=by
  have h2:=(hb.block n hn).trans h
  obtain ⟨c0,c1,f,l⟩:=rw2 h2
  exact ⟨h2,c0,c1,f,l,by omega⟩
theorem rowKeepN {w w':World} {N z B e s:Nat} {v:Value} {n:Nat} {xs:List Value} (h:w.ownsRow B e s v n xs) (hz:z≤B) (hb:KeepN N z w w'):w'.ownsRow B e s v n xs:=by
  refine ⟨h.1,?_⟩
  rcases h.2 with h1|⟨g,cap,cur,h1,h2,h3,h4⟩
  · exact .inl h1
  · exact .inr ⟨g,cap,cur,h1,h2,(hb.block g (.inr ⟨by omega,(Array.getElem?_eq_some_iff.1 h3).1⟩)).trans h3,h4⟩
theorem Gr.ovr {ps:List Plc} {p:Plc} (h:Gr ps p) {c a:Int×Int} {q s:Plc} (hc:plcI ps c.1=some q) (ha:plcI ps a.1=some s):ovrI (ps++[p]) c a=ovrI ps c a:=by
  obtain ⟨e1,e2⟩:=h.chn hc
  unfold ovrI
  rw [Gr.met hc,Gr.met ha]
  cases hx:methI ps c.1 c.2 with
  | none=>rfl
  | some x =>
    cases hm:methI ps a.1 a.2 with
    | none=>rfl
    | some m =>
      simp only
      have hl:∀ i∈(chL (ps.map nd) c.1.toNat).reverse,i<ps.length:=fun i hi=>e2 i (List.mem_reverse.1 hi)
      have ea:askL (ps++[p]) m a (chL (ps.map nd) c.1.toNat).reverse=askL ps m a (chL (ps.map nd) c.1.toNat).reverse:=by rw [askL,askL,Gr.nsk _ _ _ _ hl]
      rw [e1,ea,h.gthL a (ask_in (m:=m) ha hl)]
theorem Gr.ovC {ps:List Plc} {p:Plc} (h:Gr ps p) (nm ds:ByteArray) {a:Int×Int} {s:Plc} (ha:plcI ps a.1=some s) {k:Nat} (hk:k<ps.length):Go.Proofs.YtjlfnelihbdhjaaGreat.ovC (ps++[p]) nm ds a k=Go.Proofs.YtjlfnelihbdhjaaGreat.ovC ps nm ds a k∧gK (ps++[p]) nm ds k=gK ps nm ds k:=by
  obtain ⟨q,hq⟩:=plc_nat hk
  have e1:=Gr.fnd (p:=p) hq nm ds
  have e2:gK (ps++[p]) nm ds k=gK ps nm ds k:=by rw [gK,gK,e1]
  refine ⟨?_,e2⟩
  rw [Go.Proofs.YtjlfnelihbdhjaaGreat.ovC,Go.Proofs.YtjlfnelihbdhjaaGreat.ovC,e1,e2,h.ovr (c:=gK ps nm ds k) hq ha]
theorem Gr.all {ps:List Plc} {p:Plc} (h:Gr ps p) {a:Int×Int} {s:Plc} (ha:plcI ps a.1=some s):∃ T,(alvE (ps++[p]) a).1=(alvE ps a).1++T∧(alvE (ps++[p]) a).2=(alvE ps a).2∧T.length≤1∧∀ y∈T,y.1=(ps.length:Int):=by
  unfold alvE
  rw [Gr.met ha]
  cases hm:methI ps a.1 a.2 with
  | none=>exact ⟨[],by simp,rfl,by simp,by simp⟩
  | some m =>
    simp only
    have hlen:(ps++[p]).length=ps.length+1:=by simp
    have e1:(allK (ps++[p]) m.nm m.ds a).map (gK (ps++[p]) m.nm m.ds)=(allK ps m.nm m.ds a).map (gK ps m.nm m.ds)++(if Go.Proofs.YtjlfnelihbdhjaaGreat.ovC (ps++[p]) m.nm m.ds a ps.length then [gK (ps++[p]) m.nm m.ds ps.length] else []):=by
      rw [allK,allK,hlen,List.range_succ,List.filter_append,List.map_append]
      congr 1
      · rw [List.filter_congr fun x hx=>(h.ovC m.nm m.ds ha (List.mem_range.1 hx)).1]
        exact List.map_congr_left fun x hx=>(h.ovC m.nm m.ds ha (List.mem_range.1 (List.mem_filter.1 hx).1)).2
      · cases ho:Go.Proofs.YtjlfnelihbdhjaaGreat.ovC (ps++[p]) m.nm m.ds a ps.length <;> simp [ho]
    refine ⟨_,e1,trivial,?_,?_⟩
    · split <;> simp
    · intro y hy
      split at hy
      · rw [List.mem_singleton] at hy;rw [hy];rfl
      · cases hy
theorem unq_define {ps:List Plc} (h:UnqM ps) {c:Cls} (_hc:ClsW c):UnqM (dfP ps (defN ps c)):=by
  cases hd:defN ps c with
  | error e=>exact h
  | ok p =>
    obtain ⟨hB,_,_,s,l,_,_,rfl⟩:=def_ok hd
    intro q hq i m hm
    rcases List.mem_append.1 (show q∈ps++[_] from hq) with hq|hq
    · exact h q hq i m hm
    · rw [List.mem_singleton] at hq
      subst hq
      have hm2:(c.ms.map hmOf)[i]?=some m:=hm
      rw [List.getElem?_map] at hm2
      obtain ⟨m0,hm0,rfl⟩:=Option.map_eq_some_iff.1 hm2
      rw [clsB,Bool.and_eq_true] at hB
      have:=mths_find hB.2 i m0 hm0
      show findH m0.nm m0.ds (c.ms.map hmOf) 0=(i:Int)
      rw [find_map,this,Nat.zero_add]
theorem ovg_dfP {ps:List Plc} (hW:WI ps) {cl:Cls} (hc:ClsW cl) {c a:Int×Int} (h1:(ovrI ps c a).2=0):ovrI (dfP ps (defN ps cl)) c a=ovrI ps c a∧∃ T,(alvE (dfP ps (defN ps cl)) a).1=(alvE ps a).1++T∧(alvE (dfP ps (defN ps cl)) a).2=(alvE ps a).2∧T.length≤1∧∀ y∈T,y.1=(ps.length:Int):=by
  have hW2:=hW.define cl hc
  cases hd:defN ps cl with
  | error e=>exact ⟨rfl,[],by simp [dfP],rfl,by simp,by simp⟩
  | ok p =>
    rw [hd] at hW2
    obtain ⟨_,_,hn,s,l,_,_,rfl⟩:=def_ok hd
    have hg:Gr ps _:=⟨hW,hW2,hn⟩
    have hx:(∃ x,methI ps c.1 c.2=some x)∧∃ m,methI ps a.1 a.2=some m:=by
      rw [ovrI] at h1
      cases hx:methI ps c.1 c.2 with
      | none=>rw [hx] at h1;exact absurd h1 (show ¬ (3:Int)=0 by decide)
      | some x =>
        cases hm:methI ps a.1 a.2 with
        | none=>rw [hx,hm] at h1;exact absurd h1 (show ¬ (3:Int)=0 by decide)
        | some m=>exact ⟨⟨x,rfl⟩,m,rfl⟩
    obtain ⟨⟨x,hx⟩,m,hm⟩:=hx
    obtain ⟨_,q,_,_,hq,_⟩:=meth_plc hx
    obtain ⟨_,s2,_,_,hs,_⟩:=meth_plc hm
    exact ⟨hg.ovr hq hs,hg.all hs⟩
set_option maxHeartbeats 4000000 in
theorem built9_n (v:Value) (l:List Cls) (W:World) (h:IsClss W v l):Calls Tryz.prog 16 #[v] W fun e w'=>(∃ b,e=.returned (.pointer (some ⟨b,0,none⟩))∧∃ mb vp pv,HW w' W.heap.size b mb (wld l) vp pv)∧Below W.heap.size W w':=by
  have hCW:=clss_w h
  obtain ⟨ao,cap,rfl,h1,h2,h3⟩:=h
  unfold maxLen at h2
  obtain ⟨L,hL⟩:∃ L,l.length=L:=⟨_,rfl⟩
  have HL:Hid (l.length=L):=hL
  have HI:Hid _:=h3
  have HCW:Hid (∀ c∈l,ClsW c):=hCW
  rw [hL] at h1 ⊢
  clear hL h3 hCW
  have HN:Hid (∀ w:World,Calls Tryz.prog 60 #[] w fun e w'=>e=.returned (.pointer (some ⟨w.heap.size+1,0,none⟩))∧(∃ vp pv,HW w' w.heap.size (w.heap.size+1) w.heap.size P3 vp pv)∧Below w.heap.size w w'):=new_any
  go_enter Tryz.func16,Tryz.ntmps16
  go_wp2_with (first
    | (go_at_call 60;refine (HN.out _).mono ?_;rintro e w2 ⟨rfl,hw,hb⟩;have H2:Hid (∃ vp pv,HW w2 W.heap.size (W.heap.size+1) W.heap.size P3 vp pv):=hw;have B2:Hid (Below W.heap.size W w2):=hb;clear hb hw HN))
  go_loopw [4] (fun iv wr=>∃ (i:Nat),iv=.int .i64 i∧i≤L∧Hid (∃ vp pv,HW wr W.heap.size (W.heap.size+1) W.heap.size (wld (l.take i)) vp pv)∧Hid (Below W.heap.size W wr)) (fun iv _=>L - (intOf iv).toNat)
  case atStart=>exact ⟨0,rfl,Nat.zero_le _,H2,B2⟩
  case round =>
    clear H2 B2
    obtain ⟨i,rfl,hi,hHW,hB⟩:=hrel
    by_cases hlt:i<L
    · obtain ⟨c,hc⟩:∃ c,l[i]?=some c:=⟨_,List.getElem?_eq_getElem (by rw [HL.out];exact hlt)⟩
      obtain ⟨bk,o,rfl,hbk,hcl⟩:=HI.out (fun e=>by rw [e] at hc;simp at hc)
      obtain ⟨vi,vm,hcell,hin⟩:=hcl i c hc
      have bel:Below W.heap.size W wr:=hB.out
      have p0:wr.cell? ⟨bk,o+i * 6,none⟩=some (.string c.nm):=(bel.cell (p:=⟨bk,o+i * 6,none⟩) hbk).trans (hcell 0 _ rfl)
      have p1:wr.cell? ⟨bk,o+i * 6+1,none⟩=some (.string c.su):=(bel.cell (p:=⟨bk,o+i * 6+1,none⟩) hbk).trans (hcell 1 _ rfl)
      have p2:wr.cell? ⟨bk,o+i * 6+2,none⟩=some vi:=(bel.cell (p:=⟨bk,o+i * 6+2,none⟩) hbk).trans (hcell 2 _ rfl)
      have p3:wr.cell? ⟨bk,o+i * 6+3,none⟩=some (.int .i64 c.fl):=(bel.cell (p:=⟨bk,o+i * 6+3,none⟩) hbk).trans (hcell 3 _ rfl)
      have p4:wr.cell? ⟨bk,o+i * 6+4,none⟩=some (.int .i64 c.ld):=(bel.cell (p:=⟨bk,o+i * 6+4,none⟩) hbk).trans (hcell 4 _ rfl)
      have p5:wr.cell? ⟨bk,o+i * 6+5,none⟩=some vm:=(bel.cell (p:=⟨bk,o+i * 6+5,none⟩) hbk).trans (hcell 5 _ rfl)
      have hWI:WI (wld (l.take i)):=wld_wi _ (fun c hc=>HCW.out c (List.mem_of_mem_take hc))
      have HD:Hid (Calls Tryz.prog 29 #[.pointer (some ⟨W.heap.size+1,0,none⟩),.agg #[.string c.nm,.string c.su,vi,.int .i64 c.fl,.int .i64 c.ld,vm]] wr fun e w'=>(∃ u,e=.returned u)∧Hid (∃ vp pv,HW w' W.heap.size (W.heap.size+1) W.heap.size (wld (l.take (i+1))) vp pv)∧Hid (Below W.heap.size W w')):=by
        obtain ⟨vp,pv,hw⟩:=hHW.out
        refine (define_any W.heap.size (W.heap.size+1) W.heap.size _ vp pv c vi vm wr hw hB.out.size (hin.keep bel) hWI.nm).mono ?_
        rintro e w' ⟨rfl,hw',hb',_⟩
        rw [wld_at hc]
        exact ⟨⟨_,rfl⟩,hw',hB.out.trans hb'⟩
      clear hcl hcell hin hc bel hWI hHW hB HI
      go_wp2_with (go_at_call 29;refine HD.out.mono ?_;rintro e w3 ⟨⟨u3,rfl⟩,hw3,hb3⟩;clear HD)
      go_roundw
      case rel=>exact ⟨i+1,by go_num,by omega,hw3,hb3⟩
      case measure=>simp [intOf];omega
    · have e:i=L:=by omega
      subst e
      have HF:Hid (∃ mb vp pv,HW wr W.heap.size (W.heap.size+1) mb (wld l) vp pv):=by
        obtain ⟨vp,pv,hw⟩:=hHW.out
        rw [List.take_of_length_le (by rw [HL.out];exact Nat.le_refl _)] at hw
        exact ⟨_,_,_,hw⟩
      clear hHW HI
      go_wp2
      exact bodyPost_ret (results_tmp rfl _ _ _) rfl ⟨⟨_,rfl,HF.out⟩,hB.out⟩
set_option maxHeartbeats 8000000 in
theorem ogrows (v:Value) (l:List Cls) (ps ps2:List Plc) (hps:ps=wld l) (c:Cls) (ai:Option Addr) (ni ci:Nat) (am:Option Addr) (nm cm:Nat) (hps2:ps2=dfP ps (defN ps c)) (c1 c2 a1 a2:Int) (W:World) (h:IsClss W v l) (hin:ClsIn W (.slice ai ni ci) (.slice am nm cm) c):Calls Tryz.prog 5 #[v,.agg #[.string c.nm,.string c.su,.slice ai ni ci,.int .i64 c.fl,.int .i64 c.ld,.slice am nm cm],.agg #[.int .i64 c1,.int .i64 c2],.agg #[.int .i64 a1,.int .i64 a2]] W fun e w'=>e=.returned (.bool true)∧Below W.heap.size W w':=by
  have hCW:=clss_w h
  have hWI:WI ps:=by rw [hps];exact wld_wi l hCW
  have hU:UnqM ps:=by rw [hps];exact unqM_wld l hCW
  have hWI2:WI ps2:=by rw [hps2];exact hWI.define c hin.ok
  have hU2:UnqM ps2:=by rw [hps2,hps];exact unq_define (unqM_wld l hCW) hin.ok
  have HA:Hid (∀ w:World,Calls Tryz.prog 15 #[] w fun e w'=>e=.returned (.bool true)∧Below w.heap.size w w'):=awake9_c
  have HB:Hid (∀ w:World,Below W.heap.size W w→Calls Tryz.prog 16 #[v] w fun e w'=>(∃ b,e=.returned (.pointer (some ⟨b,0,none⟩))∧WN w.heap.size w'.heap.size b ps w')∧Below w.heap.size w w'):=fun w hb=>(built9_n v l w (clss_keep h hb)).mono fun e w' zz=>by
    obtain ⟨⟨b,rfl,mb,vp,pv,hw⟩,hb2⟩:=zz
    exact ⟨⟨b,rfl,by rw [hps];exact WN.of hw hb2.size⟩,hb2⟩
  have HM:Hid (∀ b w,WAt b ps w→Calls Tryz.prog 20 #[.pointer (some ⟨b,0,none⟩),.agg #[.int .i64 c1,.int .i64 c2],.agg #[.int .i64 a1,.int .i64 a2]] w fun e w'=>e=.returned (.tuple #[.bool (ovrI ps (c1,c2) (a1,a2)).1,.int .i64 (ovrI ps (c1,c2) (a1,a2)).2])∧Below w.heap.size w w'):=fun b w hw=>ovr_c hw hWI c1 c2 a1 a2
  have HM2:Hid (∀ b w,WAt b ps2 w→Calls Tryz.prog 20 #[.pointer (some ⟨b,0,none⟩),.agg #[.int .i64 c1,.int .i64 c2],.agg #[.int .i64 a1,.int .i64 a2]] w fun e w'=>e=.returned (.tuple #[.bool (ovrI ps2 (c1,c2) (a1,a2)).1,.int .i64 (ovrI ps2 (c1,c2) (a1,a2)).2])∧Below w.heap.size w w'):=fun b w hw=>ovr_c hw hWI2 c1 c2 a1 a2
  have HL:Hid (∀ b w,WAt b ps w→Calls Tryz.prog 25 #[.pointer (some ⟨b,0,none⟩),.agg #[.int .i64 a1,.int .i64 a2]] w fun e w'=>(∃ v,e=.returned (.tuple #[v,.int .i64 (alvE ps (a1,a2)).2])∧w'.ownsRow w.heap.size 24 2 v (alvE ps (a1,a2)).1.length (flatD (alvE ps (a1,a2)).1))∧Below w.heap.size w w'):=fun b w hw=>oall_c hw hWI hU a1 a2
  have HL2:Hid (∀ b w,WAt b ps2 w→Calls Tryz.prog 25 #[.pointer (some ⟨b,0,none⟩),.agg #[.int .i64 a1,.int .i64 a2]] w fun e w'=>(∃ v,e=.returned (.tuple #[v,.int .i64 (alvE ps2 (a1,a2)).2])∧w'.ownsRow w.heap.size 24 2 v (alvE ps2 (a1,a2)).1.length (flatD (alvE ps2 (a1,a2)).1))∧Below w.heap.size w w'):=fun b w hw=>oall_c hw hWI2 hU2 a1 a2
  have HN:Hid (∀ b w,WAt b ps w→Calls Tryz.prog 28 #[.pointer (some ⟨b,0,none⟩)] w fun e w'=>e=.returned (.int .i64 (ps.length:Int))∧w'=w):=fun b w hw=>len_c hw
  have HD:Hid (∀ n0 z0 b w,WN n0 z0 b ps w→Below W.heap.size W w→Calls Tryz.prog 29 #[.pointer (some ⟨b,0,none⟩),.agg #[.string c.nm,.string c.su,.slice ai ni ci,.int .i64 c.fl,.int .i64 c.ld,.slice am nm cm]] w fun e w'=>(∃ u,e=.returned u)∧WAt b ps2 w'∧KeepN n0 z0 w w'):=fun n0 z0 b w hw hb=>by rw [hps2];exact define_n hw hWI c _ _ (hin.keep hb)
  have hLb:=alvE_len hWI (a1,a2)
  have hgr:(ovrI ps (c1,c2) (a1,a2)).2=0→ovrI ps2 (c1,c2) (a1,a2)=ovrI ps (c1,c2) (a1,a2)∧∃ T,(alvE ps2 (a1,a2)).1=(alvE ps (a1,a2)).1++T∧(alvE ps2 (a1,a2)).2=(alvE ps (a1,a2)).2∧T.length≤1∧∀ y∈T,y.1=(ps.length:Int):=fun h0=>by rw [hps2];exact ovg_dfP hWI hin.ok h0
  generalize ps.length=P at *
  generalize ovrI ps (c1,c2) (a1,a2)=VV at *
  obtain ⟨p1,p2⟩:=VV
  generalize ovrI ps2 (c1,c2) (a1,a2)=VV2 at *
  obtain ⟨r1,r2⟩:=VV2
  generalize alvE ps (a1,a2)=LL at *
  obtain ⟨L,e3⟩:=LL
  generalize alvE ps2 (a1,a2)=LL2 at *
  obtain ⟨MM,e4⟩:=LL2
  simp only at HM HM2 HL HL2 hLb hgr
  clear h hCW hWI hWI2 hU hU2 hps hps2 hin
  have BB:Hid (Below W.heap.size W W):=Below.refl _ _
  by_cases h2:p2=0
  · subst h2
    obtain ⟨hv,T,hMM,rfl,hT1,hTn⟩:=hgr rfl
    injection hv with hv1 hv2
    subst hv1 hv2
    clear hgr
    by_cases h3:e4=0
    · subst h3
      have HSS:Hid (∀ (N1 N2:Nat) (v1 v2:Value) (w:World),w.ownsRow N1 24 2 v1 L.length (flatD L)→w.ownsRow N2 24 2 v2 L.length (flatD L)→Calls Tryz.prog 27 #[v1,v2] w fun e w'=>e=.returned (.bool true)∧Below w.heap.size w w'):=fun N1 N2 v1 v2 w h1 h2=>sameIDs_eq N1 N2 L v1 v2 w h1 h2 (by omega)
      have HMM:Hid (MM=L++T):=hMM
      have HTN:Hid (∀ y∈T,y.1=(P:Int)):=hTn
      obtain ⟨LN,hLN⟩:∃ n,L.length=n:=⟨_,rfl⟩
      obtain ⟨MN,hMN⟩:∃ n,MM.length=n:=⟨_,rfl⟩
      have HLN:Hid (L.length=LN):=hLN
      have HMN:Hid (MM.length=MN):=hMN
      have hle:LN≤MN:=by rw [← hLN,← hMN,hMM,List.length_append];omega
      have hle1:MN≤LN+1:=by rw [← hLN,← hMN,hMM,List.length_append];omega
      have hLb2:LN≤300:=by omega
      clear hMM hTn hT1 hLb hLN hMN
      cases r1
      all_goals
        go_enter Tryz.func5,Tryz.ntmps5
        go_upto_region 12 with (first
          | (go_at_call 15;refine (HA.out _).mono ?_;rintro e w1 ⟨rfl,hb⟩;have nxd:=kp6 (n:=W.heap.size) hb (by first|omega|(simp;try omega)) (hkeep (hkeep (halloc1 _ _)));(try clear nxB nx0 nx1 nx2 nx3 nx4 nx5 nxf nxL nxN);obtain ⟨nxB,nx0,nx1,nx2,nx3,nx4,nx5,nxf,nxL,nxN⟩:=nxd;have ccd:=kp2 (n:=W.heap.size+1) hb (by first|omega|(simp;try omega)) (hkeep (halloc2 _ _ (by simp)));(try clear ccB cc0 cc1 ccf ccL ccN);obtain ⟨ccB,cc0,cc1,ccf,ccL,ccN⟩:=ccd;have aad:=kp2 (n:=W.heap.size+2) hb (by first|omega|(simp;try omega)) (halloc2 _ _ (by simp));(try clear aaB aa0 aa1 aaf aaL aaN);obtain ⟨aaB,aa0,aa1,aaf,aaL,aaN⟩:=aad;have q1:W.heap.size+2<w1.heap.size:=aaL;have BB2:Below W.heap.size W w1:=bstep (by repeat (first|refine Below.setCell ?_ (by simp;try omega) _|refine Below.alloc ?_ (by have:=BB.out.size;simp;try omega) _|refine Below.drew ?_|exact BB.out)) hb;clear BB;have BB:Hid (Below W.heap.size W w1):=BB2;clear BB2;clear hb HA)
          | (go_at_call 16;refine (HB.out _ BB.out).mono ?_;rintro e w2 ⟨⟨b,rfl,hw⟩,hb⟩;have HH:Hid (WN w1.heap.size w2.heap.size b ps w2):=hw;have nxd:=kp6 (n:=W.heap.size) hb (by first|omega|(simp;try omega)) (nxB.out);(try clear nxB nx0 nx1 nx2 nx3 nx4 nx5 nxf nxL nxN);obtain ⟨nxB,nx0,nx1,nx2,nx3,nx4,nx5,nxf,nxL,nxN⟩:=nxd;have ccd:=kp2 (n:=W.heap.size+1) hb (by first|omega|(simp;try omega)) (ccB.out);(try clear ccB cc0 cc1 ccf ccL ccN);obtain ⟨ccB,cc0,cc1,ccf,ccL,ccN⟩:=ccd;have aad:=kp2 (n:=W.heap.size+2) hb (by first|omega|(simp;try omega)) (aaB.out);(try clear aaB aa0 aa1 aaf aaL aaN);obtain ⟨aaB,aa0,aa1,aaf,aaL,aaN⟩:=aad;have BB2:Below W.heap.size W w2:=bstep BB.out hb;clear BB;have BB:Hid (Below W.heap.size W w2):=BB2;clear BB2;clear hb HB hw)
          | (go_at_call 20;refine (HM.out _ _ HH.out.wat).mono ?_;rintro e w3 ⟨rfl,hb⟩;have nxd:=kp6 (n:=W.heap.size) hb (by first|omega|(simp;try omega)) (nxB.out);(try clear nxB nx0 nx1 nx2 nx3 nx4 nx5 nxf nxL nxN);obtain ⟨nxB,nx0,nx1,nx2,nx3,nx4,nx5,nxf,nxL,nxN⟩:=nxd;have ccd:=kp2 (n:=W.heap.size+1) hb (by first|omega|(simp;try omega)) (ccB.out);(try clear ccB cc0 cc1 ccf ccL ccN);obtain ⟨ccB,cc0,cc1,ccf,ccL,ccN⟩:=ccd;have aad:=kp2 (n:=W.heap.size+2) hb (by first|omega|(simp;try omega)) (aaB.out);(try clear aaB aa0 aa1 aaf aaL aaN);obtain ⟨aaB,aa0,aa1,aaf,aaL,aaN⟩:=aad;have q2:w2.heap.size≤w3.heap.size:=hb.size;have HH2:=HH.out.below hb;clear HH;have HH:Hid (WN w1.heap.size w2.heap.size b ps w3):=HH2;have BB2:Below W.heap.size W w3:=bstep BB.out hb;clear BB;have BB:Hid (Below W.heap.size W w3):=BB2;clear BB2;clear hb HH2 HM)
          | (go_at_call 25;refine (HL.out _ _ HH.out.wat).mono ?_;rintro e w4 ⟨⟨v1,rfl,ho⟩,hb⟩;obtain ⟨x1,x2,rfl⟩:=ownv ho;have O4:Hid (w4.ownsRow w2.heap.size 24 2 (.slice x1 L.length x2) L.length (flatD L)):=Go.Joins.ownsRow_le ho q2;have nxd:=kp6 (n:=W.heap.size) hb (by first|omega|(simp;try omega)) (nxB.out);(try clear nxB nx0 nx1 nx2 nx3 nx4 nx5 nxf nxL nxN);obtain ⟨nxB,nx0,nx1,nx2,nx3,nx4,nx5,nxf,nxL,nxN⟩:=nxd;have ccd:=kp2 (n:=W.heap.size+1) hb (by first|omega|(simp;try omega)) (ccB.out);(try clear ccB cc0 cc1 ccf ccL ccN);obtain ⟨ccB,cc0,cc1,ccf,ccL,ccN⟩:=ccd;have aad:=kp2 (n:=W.heap.size+2) hb (by first|omega|(simp;try omega)) (aaB.out);(try clear aaB aa0 aa1 aaf aaL aaN);obtain ⟨aaB,aa0,aa1,aaf,aaL,aaN⟩:=aad;have HH2:=HH.out.below hb;clear HH;have HH:Hid (WN w1.heap.size w2.heap.size b ps w4):=HH2;have BB2:Below W.heap.size W w4:=bstep BB.out hb;clear BB;have BB:Hid (Below W.heap.size W w4):=BB2;clear BB2;clear hb HH2 HL ho)
          | (go_at_call 28;refine (HN.out _ _ HH.out.wat).mono ?_;rintro e w9 ⟨rfl,hw9⟩;rw [hw9];clear hw9 w9 HN)
          | (go_at_call 29;refine (HD.out _ _ _ _ HH.out BB.out).mono ?_;rintro e w5 ⟨⟨u4,rfl⟩,hw,hb⟩;have HG:Hid (WAt b ps2 w5):=hw;have O5:Hid (w5.ownsRow w2.heap.size 24 2 (.slice x1 L.length x2) L.length (flatD L)):=rowKeepN O4.out (Nat.le_refl _) hb;have ccd:=kq2 (n:=W.heap.size+1) hb (by first|omega|(simp;omega)) (ccB.out);(try clear ccB cc0 cc1 ccf ccL ccN);obtain ⟨ccB,cc0,cc1,ccf,ccL,ccN⟩:=ccd;have aad:=kq2 (n:=W.heap.size+2) hb (by first|omega|(simp;omega)) (aaB.out);(try clear aaB aa0 aa1 aaf aaL aaN);obtain ⟨aaB,aa0,aa1,aaf,aaL,aaN⟩:=aad;have BB2:Below W.heap.size W w5:=BB.out.trans (hb.bel.mono (by omega));clear BB;have BB:Hid (Below W.heap.size W w5):=BB2;clear BB2;clear hb hw HD HH O4)
          | (go_at_call 20;refine (HM2.out _ _ HG.out).mono ?_;rintro e w6 ⟨rfl,hb⟩;have ccd:=kp2 (n:=W.heap.size+1) hb (by first|omega|(simp;try omega)) (ccB.out);(try clear ccB cc0 cc1 ccf ccL ccN);obtain ⟨ccB,cc0,cc1,ccf,ccL,ccN⟩:=ccd;have aad:=kp2 (n:=W.heap.size+2) hb (by first|omega|(simp;try omega)) (aaB.out);(try clear aaB aa0 aa1 aaf aaL aaN);obtain ⟨aaB,aa0,aa1,aaf,aaL,aaN⟩:=aad;have O6:Hid (w6.ownsRow w2.heap.size 24 2 (.slice x1 L.length x2) L.length (flatD L)):=rowBelow O5.out hb;have HG2:=HG.out.below hb;clear HG;have HG:Hid (WAt b ps2 w6):=HG2;have BB2:Below W.heap.size W w6:=bstep BB.out hb;clear BB;have BB:Hid (Below W.heap.size W w6):=BB2;clear BB2;clear hb HM2 HG2 O5)
          | (go_at_call 25;refine (HL2.out _ _ HG.out).mono ?_;rintro e w7 ⟨⟨v2,rfl,ho⟩,hb⟩;obtain ⟨y1,y2,rfl⟩:=ownv ho;have O8:Hid (w7.ownsRow w6.heap.size 24 2 (.slice y1 MM.length y2) MM.length (flatD MM)):=ho;have O7:Hid (w7.ownsRow w2.heap.size 24 2 (.slice x1 L.length x2) L.length (flatD L)):=rowBelow O6.out hb;have BB2:Below W.heap.size W w7:=bstep BB.out hb;clear BB;have BB:Hid (Below W.heap.size W w7):=BB2;clear BB2;clear hb HL2 ho HG O6))
        have hT8:MM.take LN=L:=by rw [HMM.out,← HLN.out,List.take_left]
        have HT8:Hid (MM.take LN=L):=hT8
        rw [HLN.out] at O7 ⊢
        rw [HMN.out] at O8 ⊢
        rcases O8.out.2 with ⟨hn,hn0⟩|⟨g8,cap8,cur8,hv8,_⟩
        · injection hn with q1 q2 q3
          subst q1 q3
          have hL0:LN=0:=by omega
          have R8:Hid (w7.ownsRow w6.heap.size 24 2 (.slice none 0 0) L.length (flatD L)):=by
            have:L=[]:=List.length_eq_zero_iff.1 (HLN.out.trans hL0)
            rw [this];exact World.ownsRow_nil _ _ _ _
          subst hn0
          subst hL0
          clear hT8 q2 hle hle1
          have O7b:Hid (w7.ownsRow w2.heap.size 24 2 (.slice x1 0 x2) L.length (flatD L)):=by rw [Hid,HLN.out];exact O7.out
          go_wp2_with (first
            | (go_at_call 27;refine (HSS.out _ _ _ _ _ R8.out O7b.out).mono ?_;rintro e w8 ⟨rfl,hb⟩;have B8:Hid (Below W.heap.size W w8):=bstep BB.out hb;clear hb))
          go_loopw [19] (fun kv wr=>kv=.int .i64 0∧Hid (Below W.heap.size W wr)) (fun _ _=>0)
          case atStart=>exact ⟨rfl,B8⟩
          case round =>
            obtain ⟨rfl,hB⟩:=hrel
            go_wp2
            all_goals go_ret
            all_goals exact ⟨retB (by simp),hB.out⟩
        · injection hv8 with q1 q2 q3
          subst q1 q3
          have R8:Hid (w7.ownsRow w6.heap.size 24 2 (.slice (some ⟨g8,0,none⟩) LN y2) L.length (flatD L)):=by
            have:=rowD_cut O8.out hle
            rw [hT8] at this
            rw [Hid,HLN.out];exact this
          have O7b:Hid (w7.ownsRow w2.heap.size 24 2 (.slice x1 LN x2) L.length (flatD L)):=by rw [Hid,HLN.out];exact O7.out
          have hcap:LN≤y2:=by
            rcases O8.out.2 with ⟨hn,_⟩|⟨_,_,_,hv,_,_,h5,_⟩
            · cases hn
            · injection hv with _ _ h6
              omega
          have hleI:¬ (MN:Int)<(LN:Int):=by omega
          have hleB:((MN:Int)≤(LN:Int)+1):=by omega
          clear hT8 q2
          go_wp2_with (first
            | (go_at_call 27;refine (HSS.out _ _ _ _ _ R8.out O7b.out).mono ?_;rintro e w8 ⟨rfl,hb⟩;have B8:Hid (Below W.heap.size W w8):=bstep BB.out hb;have O9:Hid (w8.ownsRow w6.heap.size 24 2 (.slice (some ⟨g8,0,none⟩) MN y2) MN (flatD MM)):=rowBelow O8.out hb;clear hb))
          go_loopw [19] (fun kv wr=>∃ j:Nat,kv=.int .i64 j∧LN≤j∧j≤MN∧Hid (Below w8.heap.size w8 wr)) (fun kv _=>MN - (intOf kv).toNat)
          case atStart=>exact ⟨LN,rfl,Nat.le_refl _,hle,Below.refl _ _⟩
          case round =>
            obtain ⟨j,rfl,hj1,hj2,hB⟩:=hrel
            by_cases hlt:j<MN
            · have hjI:(j:Int)<(MN:Int):=by omega
              obtain ⟨y,hy⟩:∃ y,MM[j]?=some y:=⟨_,List.getElem?_eq_getElem (by rw [HMN.out];exact hlt)⟩
              have hyP:y.1=(P:Int):=by
                rw [HMM.out,List.getElem?_append_right (by rw [HLN.out];exact hj1)] at hy
                exact HTN.out y (List.mem_of_getElem? hy)
              obtain ⟨d0,d1,dL⟩:=rowD_cells (l:=MM) (by rw [HMN.out];exact O9.out) hy
              replace d0:=(hB.out.cell (p:=⟨g8,j * 2,none⟩) dL).trans d0
              rw [hyP] at d0
              clear hy hyP d1
              go_wp2
              go_roundw
              case rel=>exact ⟨j+1,by go_num,by omega,by omega,hB⟩
              case measure=>simp [intOf];omega
            · have e:j=MN:=by omega
              subst e
              go_wp2
              all_goals go_ret
              all_goals exact ⟨retB (by simp),B8.out.trans (hB.out.mono B8.out.size)⟩
    · have h3b:(e4 == 0)=false:=by simp [h3]
      go_enter Tryz.func5,Tryz.ntmps5
      go_wp2_with (first
        | (go_at_call 15;refine (HA.out _).mono ?_;rintro e w1 ⟨rfl,hb⟩;have nxd:=kp6 (n:=W.heap.size) hb (by first|omega|(simp;try omega)) (hkeep (hkeep (halloc1 _ _)));(try clear nxB nx0 nx1 nx2 nx3 nx4 nx5 nxf nxL nxN);obtain ⟨nxB,nx0,nx1,nx2,nx3,nx4,nx5,nxf,nxL,nxN⟩:=nxd;have ccd:=kp2 (n:=W.heap.size+1) hb (by first|omega|(simp;try omega)) (hkeep (halloc2 _ _ (by simp)));(try clear ccB cc0 cc1 ccf ccL ccN);obtain ⟨ccB,cc0,cc1,ccf,ccL,ccN⟩:=ccd;have aad:=kp2 (n:=W.heap.size+2) hb (by first|omega|(simp;try omega)) (halloc2 _ _ (by simp));(try clear aaB aa0 aa1 aaf aaL aaN);obtain ⟨aaB,aa0,aa1,aaf,aaL,aaN⟩:=aad;have q1:W.heap.size+2<w1.heap.size:=aaL;have BB2:Below W.heap.size W w1:=bstep (by repeat (first|refine Below.setCell ?_ (by simp;try omega) _|refine Below.alloc ?_ (by have:=BB.out.size;simp;try omega) _|refine Below.drew ?_|exact BB.out)) hb;clear BB;have BB:Hid (Below W.heap.size W w1):=BB2;clear BB2;clear hb HA)
        | (go_at_call 16;refine (HB.out _ BB.out).mono ?_;rintro e w2 ⟨⟨b,rfl,hw⟩,hb⟩;have HH:Hid (WN w1.heap.size w2.heap.size b ps w2):=hw;have nxd:=kp6 (n:=W.heap.size) hb (by first|omega|(simp;try omega)) (nxB.out);(try clear nxB nx0 nx1 nx2 nx3 nx4 nx5 nxf nxL nxN);obtain ⟨nxB,nx0,nx1,nx2,nx3,nx4,nx5,nxf,nxL,nxN⟩:=nxd;have ccd:=kp2 (n:=W.heap.size+1) hb (by first|omega|(simp;try omega)) (ccB.out);(try clear ccB cc0 cc1 ccf ccL ccN);obtain ⟨ccB,cc0,cc1,ccf,ccL,ccN⟩:=ccd;have aad:=kp2 (n:=W.heap.size+2) hb (by first|omega|(simp;try omega)) (aaB.out);(try clear aaB aa0 aa1 aaf aaL aaN);obtain ⟨aaB,aa0,aa1,aaf,aaL,aaN⟩:=aad;have BB2:Below W.heap.size W w2:=bstep BB.out hb;clear BB;have BB:Hid (Below W.heap.size W w2):=BB2;clear BB2;clear hb HB hw)
        | (go_at_call 20;refine (HM.out _ _ HH.out.wat).mono ?_;rintro e w3 ⟨rfl,hb⟩;have nxd:=kp6 (n:=W.heap.size) hb (by first|omega|(simp;try omega)) (nxB.out);(try clear nxB nx0 nx1 nx2 nx3 nx4 nx5 nxf nxL nxN);obtain ⟨nxB,nx0,nx1,nx2,nx3,nx4,nx5,nxf,nxL,nxN⟩:=nxd;have ccd:=kp2 (n:=W.heap.size+1) hb (by first|omega|(simp;try omega)) (ccB.out);(try clear ccB cc0 cc1 ccf ccL ccN);obtain ⟨ccB,cc0,cc1,ccf,ccL,ccN⟩:=ccd;have aad:=kp2 (n:=W.heap.size+2) hb (by first|omega|(simp;try omega)) (aaB.out);(try clear aaB aa0 aa1 aaf aaL aaN);obtain ⟨aaB,aa0,aa1,aaf,aaL,aaN⟩:=aad;have q2:w2.heap.size≤w3.heap.size:=hb.size;have HH2:=HH.out.below hb;clear HH;have HH:Hid (WN w1.heap.size w2.heap.size b ps w3):=HH2;have BB2:Below W.heap.size W w3:=bstep BB.out hb;clear BB;have BB:Hid (Below W.heap.size W w3):=BB2;clear BB2;clear hb HH2 HM)
        | (go_at_call 25;refine (HL.out _ _ HH.out.wat).mono ?_;rintro e w4 ⟨⟨v1,rfl,ho⟩,hb⟩;obtain ⟨x1,x2,rfl⟩:=ownv ho;have O4:Hid (w4.ownsRow w2.heap.size 24 2 (.slice x1 L.length x2) L.length (flatD L)):=Go.Joins.ownsRow_le ho q2;have nxd:=kp6 (n:=W.heap.size) hb (by first|omega|(simp;try omega)) (nxB.out);(try clear nxB nx0 nx1 nx2 nx3 nx4 nx5 nxf nxL nxN);obtain ⟨nxB,nx0,nx1,nx2,nx3,nx4,nx5,nxf,nxL,nxN⟩:=nxd;have ccd:=kp2 (n:=W.heap.size+1) hb (by first|omega|(simp;try omega)) (ccB.out);(try clear ccB cc0 cc1 ccf ccL ccN);obtain ⟨ccB,cc0,cc1,ccf,ccL,ccN⟩:=ccd;have aad:=kp2 (n:=W.heap.size+2) hb (by first|omega|(simp;try omega)) (aaB.out);(try clear aaB aa0 aa1 aaf aaL aaN);obtain ⟨aaB,aa0,aa1,aaf,aaL,aaN⟩:=aad;have HH2:=HH.out.below hb;clear HH;have HH:Hid (WN w1.heap.size w2.heap.size b ps w4):=HH2;have BB2:Below W.heap.size W w4:=bstep BB.out hb;clear BB;have BB:Hid (Below W.heap.size W w4):=BB2;clear BB2;clear hb HH2 HL ho))
      all_goals go_ret
      all_goals exact ⟨retB (by simp [*]),(by repeat (first|refine Below.setCell ?_ (by simp;try omega) _|refine Below.alloc ?_ (by have:=BB.out.size;simp;try omega) _|refine Below.drew ?_|exact BB.out))⟩
  · have h2b:(p2 == 0)=false:=by simp [h2]
    clear hgr
    go_enter Tryz.func5,Tryz.ntmps5
    go_wp2_with (first
      | (go_at_call 15;refine (HA.out _).mono ?_;rintro e w1 ⟨rfl,hb⟩;have nxd:=kp6 (n:=W.heap.size) hb (by first|omega|(simp;try omega)) (hkeep (hkeep (halloc1 _ _)));(try clear nxB nx0 nx1 nx2 nx3 nx4 nx5 nxf nxL nxN);obtain ⟨nxB,nx0,nx1,nx2,nx3,nx4,nx5,nxf,nxL,nxN⟩:=nxd;have ccd:=kp2 (n:=W.heap.size+1) hb (by first|omega|(simp;try omega)) (hkeep (halloc2 _ _ (by simp)));(try clear ccB cc0 cc1 ccf ccL ccN);obtain ⟨ccB,cc0,cc1,ccf,ccL,ccN⟩:=ccd;have aad:=kp2 (n:=W.heap.size+2) hb (by first|omega|(simp;try omega)) (halloc2 _ _ (by simp));(try clear aaB aa0 aa1 aaf aaL aaN);obtain ⟨aaB,aa0,aa1,aaf,aaL,aaN⟩:=aad;have q1:W.heap.size+2<w1.heap.size:=aaL;have BB2:Below W.heap.size W w1:=bstep (by repeat (first|refine Below.setCell ?_ (by simp;try omega) _|refine Below.alloc ?_ (by have:=BB.out.size;simp;try omega) _|refine Below.drew ?_|exact BB.out)) hb;clear BB;have BB:Hid (Below W.heap.size W w1):=BB2;clear BB2;clear hb HA)
      | (go_at_call 16;refine (HB.out _ BB.out).mono ?_;rintro e w2 ⟨⟨b,rfl,hw⟩,hb⟩;have HH:Hid (WN w1.heap.size w2.heap.size b ps w2):=hw;have nxd:=kp6 (n:=W.heap.size) hb (by first|omega|(simp;try omega)) (nxB.out);(try clear nxB nx0 nx1 nx2 nx3 nx4 nx5 nxf nxL nxN);obtain ⟨nxB,nx0,nx1,nx2,nx3,nx4,nx5,nxf,nxL,nxN⟩:=nxd;have ccd:=kp2 (n:=W.heap.size+1) hb (by first|omega|(simp;try omega)) (ccB.out);(try clear ccB cc0 cc1 ccf ccL ccN);obtain ⟨ccB,cc0,cc1,ccf,ccL,ccN⟩:=ccd;have aad:=kp2 (n:=W.heap.size+2) hb (by first|omega|(simp;try omega)) (aaB.out);(try clear aaB aa0 aa1 aaf aaL aaN);obtain ⟨aaB,aa0,aa1,aaf,aaL,aaN⟩:=aad;have BB2:Below W.heap.size W w2:=bstep BB.out hb;clear BB;have BB:Hid (Below W.heap.size W w2):=BB2;clear BB2;clear hb HB hw)
      | (go_at_call 20;refine (HM.out _ _ HH.out.wat).mono ?_;rintro e w3 ⟨rfl,hb⟩;have nxd:=kp6 (n:=W.heap.size) hb (by first|omega|(simp;try omega)) (nxB.out);(try clear nxB nx0 nx1 nx2 nx3 nx4 nx5 nxf nxL nxN);obtain ⟨nxB,nx0,nx1,nx2,nx3,nx4,nx5,nxf,nxL,nxN⟩:=nxd;have ccd:=kp2 (n:=W.heap.size+1) hb (by first|omega|(simp;try omega)) (ccB.out);(try clear ccB cc0 cc1 ccf ccL ccN);obtain ⟨ccB,cc0,cc1,ccf,ccL,ccN⟩:=ccd;have aad:=kp2 (n:=W.heap.size+2) hb (by first|omega|(simp;try omega)) (aaB.out);(try clear aaB aa0 aa1 aaf aaL aaN);obtain ⟨aaB,aa0,aa1,aaf,aaL,aaN⟩:=aad;have q2:w2.heap.size≤w3.heap.size:=hb.size;have HH2:=HH.out.below hb;clear HH;have HH:Hid (WN w1.heap.size w2.heap.size b ps w3):=HH2;have BB2:Below W.heap.size W w3:=bstep BB.out hb;clear BB;have BB:Hid (Below W.heap.size W w3):=BB2;clear BB2;clear hb HH2 HM)
      | (go_at_call 25;refine (HL.out _ _ HH.out.wat).mono ?_;rintro e w4 ⟨⟨v1,rfl,ho⟩,hb⟩;obtain ⟨x1,x2,rfl⟩:=ownv ho;have O4:Hid (w4.ownsRow w2.heap.size 24 2 (.slice x1 L.length x2) L.length (flatD L)):=Go.Joins.ownsRow_le ho q2;have nxd:=kp6 (n:=W.heap.size) hb (by first|omega|(simp;try omega)) (nxB.out);(try clear nxB nx0 nx1 nx2 nx3 nx4 nx5 nxf nxL nxN);obtain ⟨nxB,nx0,nx1,nx2,nx3,nx4,nx5,nxf,nxL,nxN⟩:=nxd;have ccd:=kp2 (n:=W.heap.size+1) hb (by first|omega|(simp;try omega)) (ccB.out);(try clear ccB cc0 cc1 ccf ccL ccN);obtain ⟨ccB,cc0,cc1,ccf,ccL,ccN⟩:=ccd;have aad:=kp2 (n:=W.heap.size+2) hb (by first|omega|(simp;try omega)) (aaB.out);(try clear aaB aa0 aa1 aaf aaL aaN);obtain ⟨aaB,aa0,aa1,aaf,aaL,aaN⟩:=aad;have HH2:=HH.out.below hb;clear HH;have HH:Hid (WN w1.heap.size w2.heap.size b ps w4):=HH2;have BB2:Below W.heap.size W w4:=bstep BB.out hb;clear BB;have BB:Hid (Below W.heap.size W w4):=BB2;clear BB2;clear hb HH2 HL ho))
    all_goals go_ret
    all_goals exact ⟨retB (by simp [*]),(by repeat (first|refine Below.setCell ?_ (by simp;try omega) _|refine Below.alloc ?_ (by have:=BB.out.size;simp;try omega) _|refine Below.drew ?_|exact BB.out))⟩
theorem shp_slice {v:Value} (h:Shp v):∃ a n c,v=.slice a n c:=by
  rcases h with rfl|⟨a,n,c,rfl⟩
  · exact ⟨none,0,0,rfl⟩
  · exact ⟨some a,n,c,rfl⟩
theorem OverrideGrows_any (v:Value) (l:List Cls) (c:Cls) (vi vm:Value) (c1 c2 a1 a2:Int) (W:World) (h:IsClss W v l) (hin:ClsIn W vi vm c):Calls Tryz.prog 5 #[v,clsV c vi vm,.agg #[.int .i64 c1,.int .i64 c2],.agg #[.int .i64 a1,.int .i64 a2]] W fun e w'=>e=.returned (.bool true)∧Below W.heap.size W w':=by
  obtain ⟨ai,ni,ci,rfl⟩:=shp_slice hin.si
  obtain ⟨am,nm,cm,rfl⟩:=shp_slice hin.sm
  exact ogrows v l _ _ rfl c ai ni ci am nm cm rfl c1 c2 a1 a2 W h hin
end Go.Proofs.YtjlfnelihbdhjaaGreat
