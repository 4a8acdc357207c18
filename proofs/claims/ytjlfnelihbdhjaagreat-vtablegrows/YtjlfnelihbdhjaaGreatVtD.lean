import Derived.Test.YtjlfnelihbdhjaaGreatOvI
import Derived.Test.YtjlfnelihbdhjaaGreatGrA
import Derived.Test.YtjlfnelihbdhjaaGreatOvR
import Derived.Test.YtjlfnelihbdhjaaGreatLwA
import Derived.Deep.RegionHeld3
set_option maxRecDepth 100000
namespace Go.Proofs.YtjlfnelihbdhjaaGreat
open Go.RowKit Go.Maps
theorem both_no {b:Nat} {ps:List Plc} {W:World} (h:WAt b ps W) (hi:WI ps) (c i a j:Int) (hm:methI ps c i=none∨methI ps a j=none) (w:World) (hb:Below W.heap.size W w):Calls Tryz.prog 64 #[.pointer (some ⟨b,0,none⟩),.agg #[.int .i64 c,.int .i64 i],.agg #[.int .i64 a,.int .i64 j]] w fun e w'=>e=.returned (.tuple #[.agg #[.string ⟨#[]⟩,.string ⟨#[]⟩,.int .i64 0,.int .i64 0,.int .i64 0,.slice none 0 0,.int .i64 0,.int .i64 0,.pointer none],.agg #[.string ⟨#[]⟩,.string ⟨#[]⟩,.int .i64 0,.int .i64 0,.int .i64 0,.slice none 0 0,.int .i64 0,.int .i64 0,.pointer none],.int .i64 3])∧Below w.heap.size w w':=by
  cases hc:methI ps c i with
  | none=>exact both_no1 (h.below hb) hi c i a j hc
  | some m =>
    rcases hm with hm|hm
    · rw [hm] at hc;cases hc
    · exact both_no2 (h.below hb) hi c i a j m hc hm
set_option maxHeartbeats 4000000 in
theorem ovr_no {b:Nat} {ps:List Plc} {W:World} (h:WAt b ps W) (hi:WI ps) (c i a j:Int) (hm:methI ps c i=none∨methI ps a j=none):Calls Tryz.prog 20 #[.pointer (some ⟨b,0,none⟩),.agg #[.int .i64 c,.int .i64 i],.agg #[.int .i64 a,.int .i64 j]] W fun e w'=>e=.returned (.tuple #[.bool false,.int .i64 3])∧Below W.heap.size W w':=by
  have HR:Hid (∀ w,Below W.heap.size W w→Calls Tryz.prog 64 #[.pointer (some ⟨b,0,none⟩),.agg #[.int .i64 c,.int .i64 i],.agg #[.int .i64 a,.int .i64 j]] w fun e w'=>e=.returned (.tuple #[.agg #[.string ⟨#[]⟩,.string ⟨#[]⟩,.int .i64 0,.int .i64 0,.int .i64 0,.slice none 0 0,.int .i64 0,.int .i64 0,.pointer none],.agg #[.string ⟨#[]⟩,.string ⟨#[]⟩,.int .i64 0,.int .i64 0,.int .i64 0,.slice none 0 0,.int .i64 0,.int .i64 0,.pointer none],.int .i64 3])∧Below w.heap.size w w'):=both_no h hi c i a j hm
  clear h hi hm
  go_enter Tryz.func20,Tryz.ntmps20
  go_upto_region 2 with (go_at_call 64;refine (HR.out _ (by repeat (first|exact Below.refl _ _|refine Below.setCell ?_ (by simp;try omega) _|refine Below.alloc ?_ (by simp;try omega) _|refine Below.drew ?_))).mono ?_;rintro e w1 ⟨rfl,hb⟩;have B1:Hid (Below (W.heap.size+2) ((W.alloc (.cells #[.int .i64 c,.int .i64 i] 24)).alloc (.cells #[.int .i64 a,.int .i64 j] 24)) w1):=hb.mono (by simp);have hs1:W.heap.size+2≤w1.heap.size:=(by have:=hb.size;simpa using this);clear hb HR)
  obtain ⟨V,hV⟩:∃ V,V=(w1.alloc (.cells #[.string ⟨#[]⟩,.string ⟨#[]⟩,.int .i64 0,.int .i64 0,.int .i64 0,.slice none 0 0,.int .i64 0,.int .i64 0,.pointer none] 93)).alloc (.cells #[.string ⟨#[]⟩,.string ⟨#[]⟩,.int .i64 0,.int .i64 0,.int .i64 0,.slice none 0 0,.int .i64 0,.int .i64 0,.pointer none] 93):=⟨_,rfl⟩
  have fd:V.heap[w1.heap.size]?=some (.cells #[.string ⟨#[]⟩,.string ⟨#[]⟩,.int .i64 0,.int .i64 0,.int .i64 0,.slice none 0 0,.int .i64 0,.int .i64 0,.pointer none] 93 (0,0)):=by rw [hV];exact hkeep (halloc1 _ _)
  have hd2:V.heap[w1.heap.size+1]?=some (.cells #[.string ⟨#[]⟩,.string ⟨#[]⟩,.int .i64 0,.int .i64 0,.int .i64 0,.slice none 0 0,.int .i64 0,.int .i64 0,.pointer none] 93 (0,0)):=by rw [hV];exact halloc2 _ _ (by simp)
  have BV:Hid (Below (W.heap.size+2) ((W.alloc (.cells #[.int .i64 c,.int .i64 i] 24)).alloc (.cells #[.int .i64 a,.int .i64 j] 24)) V):=by rw [hV];exact (B1.out.alloc hs1 _).alloc (by simp;omega) _
  rw [← hV]
  obtain ⟨x0,x1,x2,x3,x4,x5,x6,x7,x8,xL⟩:=row9 fd
  obtain ⟨y0,y1,y2,y3,y4,y5,y6,y7,y8,yL⟩:=row9 hd2
  have HF9:Hid (V.heap[w1.heap.size]?=some (.cells #[.string ⟨#[]⟩,.string ⟨#[]⟩,.int .i64 0,.int .i64 0,.int .i64 0,.slice none 0 0,.int .i64 0,.int .i64 0,.pointer none] 93 (0,0))):=fd
  have HG9:Hid (V.heap[w1.heap.size+1]?=some (.cells #[.string ⟨#[]⟩,.string ⟨#[]⟩,.int .i64 0,.int .i64 0,.int .i64 0,.slice none 0 0,.int .i64 0,.int .i64 0,.pointer none] 93 (0,0))):=hd2
  clear hV hd2 fd
  go_wp2
  exact bodyPost_ret (v:=.tuple #[.bool false,.int .i64 3]) (by simp [results,Tryz.results20,go_sem, *]) rfl ⟨rfl,(by have hbw:Below W.heap.size W V:=(((Below.refl _ W).alloc (Nat.le_refl _) _).alloc (by simp) _).trans (BV.out.mono (by omega));exact hbw)⟩
theorem callIs (vs:Array Value) (w:World):(callFunc 71 vs).run Tryz.prog w=.ok (.enter 71 vs) w:=by simp [go_sem]
theorem any_is {c:Int×Int}:∀ {l:List P9},l.any (fun y=>(c.1 == y.c)&&(c.2 == y.i))=(l.map P9.id).any (eqI c)
  | []=>rfl
  | y::r=>by rw [List.any_cons,List.map_cons,List.any_cons,any_is];rfl
set_option maxHeartbeats 8000000 in
theorem ovr_yes {b:Nat} {ps:List Plc} {W:World} (h:WAt b ps W) (hi:WI ps) (ck:Nat) (q:Plc) (hq:ps[ck]?=some q) (i a j:Int) (m k:HM) (hm:methI ps (ck:Int) i=some m) (hk:methI ps a j=some k):Calls Tryz.prog 20 #[.pointer (some ⟨b,0,none⟩),.agg #[.int .i64 (ck:Int),.int .i64 i],.agg #[.int .i64 a,.int .i64 j]] W fun e w'=>e=.returned (.tuple #[.bool ((gthL ps (a,j) (askL ps k (a,j) (chL (ps.map nd) ck).reverse)).any (eqI ((ck:Int),i))),.int .i64 0])∧Below W.heap.size W w':=by
  have HR:Hid (∀ w,Below W.heap.size W w→Calls Tryz.prog 64 #[.pointer (some ⟨b,0,none⟩),.agg #[.int .i64 (ck:Int),.int .i64 i],.agg #[.int .i64 a,.int .i64 j]] w fun e w'=>(∃ xa xk xo ya yk yo,e=.returned (.tuple #[.agg #[.string m.nm,.string m.ds,.int .i64 m.fl,.int .i64 m.lo,.int .i64 m.st,.slice xa xk xo,.int .i64 (ck:Int),.int .i64 i,.pointer (some ⟨b,0,none⟩)],.agg #[.string k.nm,.string k.ds,.int .i64 k.fl,.int .i64 k.lo,.int .i64 k.st,.slice ya yk yo,.int .i64 a,.int .i64 j,.pointer (some ⟨b,0,none⟩)],.int .i64 0]))∧Below w.heap.size w w'):=fun w hb=>both_yes (h.below hb) hi (ck:Int) i a j m k hm hk
  have hKb:(chL (ps.map nd) ck).length≤300:=by
    have h1:=ch_len hi.wo ck (by simpa using (List.getElem?_eq_some_iff.1 hq).1)
    have h2:=hi.hi
    have h3:=(List.getElem?_eq_some_iff.1 hq).1
    omega
  have HD:Hid (∀ w,Below W.heap.size W w→Calls Tryz.prog 68 #[.pointer (some ⟨b,0,none⟩),.int .i64 (ck:Int)] w fun e w'=>∃ g cap,e=.returned (.tuple #[.slice (some ⟨g,0,none⟩) (chL (ps.map nd) ck).length cap,.int .i64 0])∧w'.ownsRow w.heap.size 3 1 (.slice (some ⟨g,0,none⟩) (chL (ps.map nd) ck).length cap) (chL (ps.map nd) ck).length ((chL (ps.map nd) ck).reverse.map numV)∧Below w.heap.size w w'):=fun w hb=>down_c (h.below hb) hi ck q hq
  obtain ⟨G,hG⟩:∃ G,gthL ps (a,j) (askL ps k (a,j) (chL (ps.map nd) ck).reverse)=G:=⟨_,rfl⟩
  rw [hG]
  have hGb:G.length≤301:=by
    rw [← hG]
    refine Nat.le_trans (gthL_len _ _ _) ?_
    have:=nskL_len ps k.nm k.ds (a,j).1 (chL (ps.map nd) ck).reverse
    rw [List.length_reverse] at this
    rw [askL,List.length_cons]
    omega
  have HG:Hid (∀ w (x:P9) (v:Value),Below W.heap.size W w→OkP ps x→x.id=(a,j)→(x.nm,x.ds,x.c)=(k.nm,k.ds,a)→Rds w v (chL (ps.map nd) ck).length 1 ((chL (ps.map nd) ck).reverse.map numV)→Calls Tryz.prog 70 #[x.agg b,v] w fun e w'=>∃ (L:List P9) (g cap:Nat),e=.returned (.slice (some ⟨g,0,none⟩) L.length cap)∧(∀ y∈L,OkP ps y)∧L.map P9.id=G∧w'.ownsRow w.heap.size 93 9 (.slice (some ⟨g,0,none⟩) L.length cap) L.length (flat9 b L)∧Below w.heap.size w w'):=fun w x v hb ho hid hnd hv=>by
    have:=gth_c (h.below hb) hi x ho v (chL (ps.map nd) ck).reverse (by rw [List.length_reverse];exact hv) (by rw [List.length_reverse];exact hKb)
    simp only [Prod.mk.injEq] at hnd
    rw [hid,hnd.1,hnd.2.1,hnd.2.2] at this
    rw [askL] at hG
    rw [hG] at this
    exact this
  have HN:Hid (∀ (w:World) (L:List P9) (v:Value) (N0:Nat) (x:P9),w.ownsRow N0 93 9 v L.length (flat9 b L)→L.map P9.id=G→x.id=((ck:Int),i)→Calls Tryz.prog 69 #[v,.func (.func 71) #[x.agg b] #[]] w fun e w'=>e=.returned (.bool (G.any (eqI ((ck:Int),i))))∧Below w.heap.size w w'):=fun w L v N0 x ho hid hx=>by
    have hl:L.length≤1000000:=by
      have:=congrArg List.length hid
      rw [List.length_map] at this
      omega
    have:=con9_any 71 callIs (x.agg b) (fun y=>(x.c == y.c)&&(x.i == y.i)) N0 b L v w ho hl (fun y _ w2 _=>is_c b x.nm x.ds x.fl x.lo x.st x.sa x.sk x.so x.c x.i y.nm y.ds y.fl y.lo y.st y.sa y.sk y.so y.c y.i w2)
    have e:L.any (fun y=>(x.c == y.c)&&(x.i == y.i))=G.any (eqI ((ck:Int),i)):=by
      rw [← hid,← hx]
      exact any_is (c:=x.id)
    rw [e] at this
    exact this
  have HM:Hid (methI ps a j=some k):=hk
  generalize G.any (eqI ((ck:Int),i))=R at *
  generalize chL (ps.map nd) ck=l at *
  obtain ⟨K,hK⟩:∃ K,l.length=K:=⟨_,rfl⟩
  rw [hK] at HD HG hKb
  clear h hi hm hk hq hG hK hGb
  simp only [P9.agg] at HG HN
  go_enter Tryz.func20,Tryz.ntmps20
  go_upto_region 2 with (go_at_call 64;refine (HR.out _ (by repeat (first|exact Below.refl _ _|refine Below.setCell ?_ (by simp;try omega) _|refine Below.alloc ?_ (by simp;try omega) _|refine Below.drew ?_))).mono ?_;rintro e w1 ⟨⟨xa,xk,xo,ya,yk,yo,rfl⟩,hb⟩;have B1:Hid (Below (W.heap.size+2) ((W.alloc (.cells #[.int .i64 (ck:Int),.int .i64 i] 24)).alloc (.cells #[.int .i64 a,.int .i64 j] 24)) w1):=hb.mono (by simp);have hs1:W.heap.size+2≤w1.heap.size:=(by have:=hb.size;simpa using this);clear hb HR)
  obtain ⟨V,hV⟩:∃ V,V=(w1.alloc (.cells #[.string m.nm,.string m.ds,.int .i64 m.fl,.int .i64 m.lo,.int .i64 m.st,.slice xa xk xo,.int .i64 (ck:Int),.int .i64 i,.pointer (some ⟨b,0,none⟩)] 93)).alloc (.cells #[.string k.nm,.string k.ds,.int .i64 k.fl,.int .i64 k.lo,.int .i64 k.st,.slice ya yk yo,.int .i64 a,.int .i64 j,.pointer (some ⟨b,0,none⟩)] 93):=⟨_,rfl⟩
  have fd:V.heap[w1.heap.size]?=some (.cells #[.string m.nm,.string m.ds,.int .i64 m.fl,.int .i64 m.lo,.int .i64 m.st,.slice xa xk xo,.int .i64 (ck:Int),.int .i64 i,.pointer (some ⟨b,0,none⟩)] 93 (0,0)):=by rw [hV];exact hkeep (halloc1 _ _)
  have hd2:V.heap[w1.heap.size+1]?=some (.cells #[.string k.nm,.string k.ds,.int .i64 k.fl,.int .i64 k.lo,.int .i64 k.st,.slice ya yk yo,.int .i64 a,.int .i64 j,.pointer (some ⟨b,0,none⟩)] 93 (0,0)):=by rw [hV];exact halloc2 _ _ (by simp)
  have BV:Hid (Below (W.heap.size+2) ((W.alloc (.cells #[.int .i64 (ck:Int),.int .i64 i] 24)).alloc (.cells #[.int .i64 a,.int .i64 j] 24)) V):=by rw [hV];exact (B1.out.alloc hs1 _).alloc (by simp;omega) _
  rw [← hV]
  obtain ⟨x0,x1,x2,x3,x4,x5,x6,x7,x8,xL⟩:=row9 fd
  obtain ⟨y0,y1,y2,y3,y4,y5,y6,y7,y8,yL⟩:=row9 hd2
  have HF9:Hid (V.heap[w1.heap.size]?=some (.cells #[.string m.nm,.string m.ds,.int .i64 m.fl,.int .i64 m.lo,.int .i64 m.st,.slice xa xk xo,.int .i64 (ck:Int),.int .i64 i,.pointer (some ⟨b,0,none⟩)] 93 (0,0))):=fd
  have HG9:Hid (V.heap[w1.heap.size+1]?=some (.cells #[.string k.nm,.string k.ds,.int .i64 k.fl,.int .i64 k.lo,.int .i64 k.st,.slice ya yk yo,.int .i64 a,.int .i64 j,.pointer (some ⟨b,0,none⟩)] 93 (0,0))):=hd2
  clear hV hd2 fd
  obtain ⟨ccB,cc0,cc1,ccf,ccL,ccN⟩:=kp2 (n:=W.heap.size) BV.out (by omega) (hkeep (halloc1 _ _))
  have BW:Hid (Below W.heap.size W V):=(((Below.refl _ W).alloc (Nat.le_refl _) _).alloc (by simp) _).trans (BV.out.mono (by omega))
  clear B1
  go_wp2_with (go_at_call 68;refine (HD.out _ BW.out).mono ?_;rintro e w2 ⟨dg,dc,rfl,ho,hb⟩;have D2:Hid (Rds w2 (.slice (some ⟨dg,0,none⟩) K dc) K 1 (l.reverse.map numV)):=own_rds ho;have HF9b:Hid (w2.heap[w1.heap.size]?=some (.cells #[.string m.nm,.string m.ds,.int .i64 m.fl,.int .i64 m.lo,.int .i64 m.st,.slice xa xk xo,.int .i64 (ck:Int),.int .i64 i,.pointer (some ⟨b,0,none⟩)] 93 (0,0))):=(hb.block w1.heap.size (by first|omega|(simp;omega))).trans HF9.out;have HG9b:Hid (w2.heap[w1.heap.size+1]?=some (.cells #[.string k.nm,.string k.ds,.int .i64 k.fl,.int .i64 k.lo,.int .i64 k.st,.slice ya yk yo,.int .i64 a,.int .i64 j,.pointer (some ⟨b,0,none⟩)] 93 (0,0))):=(hb.block (w1.heap.size+1) (by first|omega|(simp;omega))).trans HG9.out;clear x0 x1 x2 x3 x4 x5 x6 x7 x8 xL y0 y1 y2 y3 y4 y5 y6 y7 y8 yL;clear HF9 HG9;have HF9:=HF9b;have HG9:=HG9b;clear HF9b HG9b;obtain ⟨x0,x1,x2,x3,x4,x5,x6,x7,x8,xL⟩:=row9 HF9.out;obtain ⟨y0,y1,y2,y3,y4,y5,y6,y7,y8,yL⟩:=row9 HG9.out;have B2:Hid (Below W.heap.size W w2):=bstep BW.out hb;clear hb ho HD BW)
  go_region_held3 (fun w'=>w'.cell? ⟨w1.heap.size,0,none⟩=some (.string m.nm)∧w'.cell? ⟨w1.heap.size,1,none⟩=some (.string m.ds)∧w'.cell? ⟨w1.heap.size,2,none⟩=some (.int .i64 m.fl)∧w'.cell? ⟨w1.heap.size,3,none⟩=some (.int .i64 m.lo)∧w'.cell? ⟨w1.heap.size,4,none⟩=some (.int .i64 m.st)∧w'.cell? ⟨w1.heap.size,5,none⟩=some (.slice xa xk xo)∧w'.cell? ⟨w1.heap.size,6,none⟩=some (.int .i64 (ck:Int))∧w'.cell? ⟨w1.heap.size,7,none⟩=some (.int .i64 i)∧w'.cell? ⟨w1.heap.size,8,none⟩=some (.pointer (some ⟨b,0,none⟩))∧w'.cell? ⟨w1.heap.size+1,0,none⟩=some (.string k.nm)∧w'.cell? ⟨w1.heap.size+1,1,none⟩=some (.string k.ds)∧w'.cell? ⟨w1.heap.size+1,2,none⟩=some (.int .i64 k.fl)∧w'.cell? ⟨w1.heap.size+1,3,none⟩=some (.int .i64 k.lo)∧w'.cell? ⟨w1.heap.size+1,4,none⟩=some (.int .i64 k.st)∧w'.cell? ⟨w1.heap.size+1,5,none⟩=some (.slice ya yk yo)∧w'.cell? ⟨w1.heap.size+1,6,none⟩=some (.int .i64 a)∧w'.cell? ⟨w1.heap.size+1,7,none⟩=some (.int .i64 j)∧w'.cell? ⟨w1.heap.size+1,8,none⟩=some (.pointer (some ⟨b,0,none⟩))) (go_keep) (first
    | (go_at_call 70;refine (HG.out _ ⟨k.nm,k.ds,k.fl,k.lo,k.st,ya,yk,yo,a,j⟩ (.slice (some ⟨dg,0,none⟩) K dc) B2.out.drew ⟨k,HM.out,rfl,rfl,rfl⟩ rfl rfl (D2.out.keep ((Below.refl _ w2).drew))).mono ?_;rintro e w3 ⟨L,g,cap,rfl,hok,hid,ho,hb⟩;have O3:Hid (w3.ownsRow w2.heap.size 93 9 (.slice (some ⟨g,0,none⟩) L.length cap) L.length (flat9 b L)):=ho;have ID3:Hid (L.map P9.id=G):=hid;have HF9b:Hid (w3.heap[w1.heap.size]?=some (.cells #[.string m.nm,.string m.ds,.int .i64 m.fl,.int .i64 m.lo,.int .i64 m.st,.slice xa xk xo,.int .i64 (ck:Int),.int .i64 i,.pointer (some ⟨b,0,none⟩)] 93 (0,0))):=(hb.block w1.heap.size (by first|omega|(simp;omega))).trans HF9.out;have HG9b:Hid (w3.heap[w1.heap.size+1]?=some (.cells #[.string k.nm,.string k.ds,.int .i64 k.fl,.int .i64 k.lo,.int .i64 k.st,.slice ya yk yo,.int .i64 a,.int .i64 j,.pointer (some ⟨b,0,none⟩)] 93 (0,0))):=(hb.block (w1.heap.size+1) (by first|omega|(simp;omega))).trans HG9.out;clear x0 x1 x2 x3 x4 x5 x6 x7 x8 xL y0 y1 y2 y3 y4 y5 y6 y7 y8 yL;clear HF9 HG9;have HF9:=HF9b;have HG9:=HG9b;clear HF9b HG9b;obtain ⟨x0,x1,x2,x3,x4,x5,x6,x7,x8,xL⟩:=row9 HF9.out;obtain ⟨y0,y1,y2,y3,y4,y5,y6,y7,y8,yL⟩:=row9 HG9.out;have B3:Hid (Below W.heap.size W w3):=bstep B2.out.drew hb;clear hb ho hok hid HG)
    | (go_at_call 69;refine (HN.out _ L (.slice (some ⟨g,0,none⟩) L.length cap) _ ⟨m.nm,m.ds,m.fl,m.lo,m.st,xa,xk,xo,(ck:Int),i⟩ O3.out ID3.out rfl).mono ?_;rintro e w4 ⟨rfl,hb⟩;have HF9b:Hid (w4.heap[w1.heap.size]?=some (.cells #[.string m.nm,.string m.ds,.int .i64 m.fl,.int .i64 m.lo,.int .i64 m.st,.slice xa xk xo,.int .i64 (ck:Int),.int .i64 i,.pointer (some ⟨b,0,none⟩)] 93 (0,0))):=(hb.block w1.heap.size (by first|omega|(simp;omega))).trans HF9.out;have HG9b:Hid (w4.heap[w1.heap.size+1]?=some (.cells #[.string k.nm,.string k.ds,.int .i64 k.fl,.int .i64 k.lo,.int .i64 k.st,.slice ya yk yo,.int .i64 a,.int .i64 j,.pointer (some ⟨b,0,none⟩)] 93 (0,0))):=(hb.block (w1.heap.size+1) (by first|omega|(simp;omega))).trans HG9.out;clear x0 x1 x2 x3 x4 x5 x6 x7 x8 xL y0 y1 y2 y3 y4 y5 y6 y7 y8 yL;clear HF9 HG9;have HF9:=HF9b;have HG9:=HG9b;clear HF9b HG9b;obtain ⟨x0,x1,x2,x3,x4,x5,x6,x7,x8,xL⟩:=row9 HF9.out;obtain ⟨y0,y1,y2,y3,y4,y5,y6,y7,y8,yL⟩:=row9 HG9.out;have B4:Hid (Below W.heap.size W w4):=bstep B3.out hb;clear hb HN))
  all_goals go_wp2
  all_goals exact bodyPost_ret (v:=.tuple #[.bool R,.int .i64 0]) (by simp [results,Tryz.results20,go_sem, *]) rfl ⟨rfl,B4.out⟩
theorem ovr_c {b:Nat} {ps:List Plc} {W:World} (h:WAt b ps W) (hi:WI ps) (c i a j:Int):Calls Tryz.prog 20 #[.pointer (some ⟨b,0,none⟩),.agg #[.int .i64 c,.int .i64 i],.agg #[.int .i64 a,.int .i64 j]] W fun e w'=>e=.returned (.tuple #[.bool (ovrI ps (c,i) (a,j)).1,.int .i64 (ovrI ps (c,i) (a,j)).2])∧Below W.heap.size W w':=by
  cases hm:methI ps c i with
  | none =>
    have e:ovrI ps (c,i) (a,j)=(false,3):=by simp only [ovrI,hm]
    rw [e];exact ovr_no h hi c i a j (.inl hm)
  | some m =>
    cases hk:methI ps a j with
    | none =>
      have e:ovrI ps (c,i) (a,j)=(false,3):=by simp only [ovrI,hm,hk]
      rw [e];exact ovr_no h hi c i a j (.inr hk)
    | some k =>
      obtain ⟨ck,q,rfl,hq,_,_⟩:=meth_plc hm
      have e:ovrI ps ((ck:Int),i) (a,j)=((gthL ps (a,j) (askL ps k (a,j) (chL (ps.map nd) ck).reverse)).any (eqI ((ck:Int),i)),0):=by simp only [ovrI,hm,hk,Int.toNat_natCast]
      rw [e];exact ovr_yes h hi ck q hq i a j m k hm hk
theorem oall_c {b:Nat} {ps:List Plc} {W:World} (h:WAt b ps W) (hi:WI ps) (hU:UnqM ps) (a1 a2:Int):Calls Tryz.prog 25 #[.pointer (some ⟨b,0,none⟩),.agg #[.int .i64 a1,.int .i64 a2]] W fun e w'=>(∃ v,e=.returned (.tuple #[v,.int .i64 (alvE ps (a1,a2)).2])∧w'.ownsRow W.heap.size 24 2 v (alvE ps (a1,a2)).1.length (flatD (alvE ps (a1,a2)).1))∧Below W.heap.size W w':=by
  cases ha:methI ps a1 a2 with
  | none =>
    have e:alvE ps (a1,a2)=([],3):=by simp [alvE,ha]
    rw [e]
    exact (all_no h hi a1 a2 ha).mono fun e w' zz=>⟨⟨_,zz.1,World.ownsRow_nil _ _ _ _⟩,zz.2⟩
  | some ma =>
    have e:alvE ps (a1,a2)=((allK ps ma.nm ma.ds (a1,a2)).map (gK ps ma.nm ma.ds),0):=by simp [alvE,ha]
    rw [e]
    obtain ⟨k,q,rfl,hq,_,_⟩:=meth_plc ha
    exact all_yes h hi k (List.getElem?_eq_some_iff.1 hq).1 a2 ma ha _ (all_canon hi hU (a:=((k:Int),a2)) ha rfl)
theorem rowSet {w:World} {B e s:Nat} {v:Value} {n:Nat} {xs:List Value} (h:w.ownsRow B e s v n xs) {k j:Nat} (hk:k<B) (u:Value):(w.setCell ⟨k,j,none⟩ u).ownsRow B e s v n xs:=by
  refine ⟨h.1,?_⟩
  rcases h.2 with h1|⟨g,cap,cur,h1,h2,h3,h4⟩
  · exact .inl h1
  · exact .inr ⟨g,cap,cur,h1,h2,(heap_setCell_other _ _ _ _ (by simp;omega)).trans h3,h4⟩
def vrtB (nm:ByteArray) (fl:Int):Bool:=(bits .and .i64 fl 10 == 0)&&!(nm.toList == [60,105,110,105,116,62])
def opnB (fl:Int):Bool:=bits .and .i64 fl 5 != 0
theorem isVrt_c (nm ds:ByteArray) (fl lo st:Int) (a:Option Addr) (n s:Nat) (W:World):Calls Tryz.prog 123 #[.agg #[.string nm,.string ds,.int .i64 fl,.int .i64 lo,.int .i64 st,.slice a n s]] W fun e w'=>e=.returned (.bool (vrtB nm fl))∧Below W.heap.size W w':=by
  unfold vrtB
  cases h:(bits .and .i64 fl 10 == 0)
  all_goals
    go_enter Tryz.func123,Tryz.ntmps123
    go_wp2
  all_goals go_ret
  all_goals exact ⟨retB (by simp),(by repeat (first|exact Below.refl _ _|refine Below.setCell ?_ (by simp;try omega) _|refine Below.alloc ?_ (by simp;try omega) _|refine Below.drew ?_))⟩
theorem isOpn_c (nm ds:ByteArray) (fl lo st:Int) (a:Option Addr) (n s:Nat) (W:World):Calls Tryz.prog 253 #[.agg #[.string nm,.string ds,.int .i64 fl,.int .i64 lo,.int .i64 st,.slice a n s]] W fun e w'=>e=.returned (.bool (opnB fl))∧Below W.heap.size W w':=by
  unfold opnB
  go_enter Tryz.func253,Tryz.ntmps253
  go_wp2
  all_goals go_ret
  all_goals exact ⟨retB (by simp),(by repeat (first|exact Below.refl _ _|refine Below.setCell ?_ (by simp;try omega) _|refine Below.alloc ?_ (by simp;try omega) _|refine Below.drew ?_))⟩
set_option maxHeartbeats 2000000 in
theorem newSlot_w (W:World) (b:Nat) (a1 a2 e3:Int) (G:List (Int×Int)) (HA:Hid (∀ w,Below W.heap.size W w→Calls Tryz.prog 25 #[.pointer (some ⟨b,0,none⟩),.agg #[.int .i64 a1,.int .i64 a2]] w fun e w'=>(∃ v,e=.returned (.tuple #[v,.int .i64 e3])∧w'.ownsRow w.heap.size 24 2 v G.length (flatD G))∧Below w.heap.size w w')):Calls Tryz.prog 255 #[.pointer (some ⟨b,0,none⟩),.agg #[.int .i64 a1,.int .i64 a2]] W fun e w'=>(∃ oa oc,e=.returned (.agg #[.int .i64 a1,.int .i64 a2,.int .i64 a1,.int .i64 a2,.slice oa G.length oc])∧w'.ownsRow W.heap.size 24 2 (.slice oa G.length oc) G.length (flatD G))∧Below W.heap.size W w':=by
  go_enter Tryz.func255,Tryz.ntmps255
  go_wp2_with (go_at_call 25;refine (HA.out _ (by repeat (first|exact Below.refl _ _|refine Below.setCell ?_ (by simp;try omega) _|refine Below.alloc ?_ (by simp;try omega) _|refine Below.drew ?_))).mono ?_;rintro e w1 ⟨⟨v,rfl,ho⟩,hb⟩;obtain ⟨va,vc,rfl⟩:=ownv ho;have O1:Hid (w1.ownsRow W.heap.size 24 2 (.slice va G.length vc) G.length (flatD G)):=Go.Joins.ownsRow_le ho (by simp;try omega);have HLO:Hid (w1.ownsRow (W.heap.size+2) 24 2 (.slice va G.length vc) G.length (flatD G)):=Go.Joins.ownsRow_le ho (by simp);have abd:=kp2 (n:=W.heap.size) hb (by simp;try omega) (hkeep (halloc1 _ _));obtain ⟨abB,ab0,ab1,abf,abL,abN⟩:=abd;have zbd:=kp5 (n:=W.heap.size+1) hb (by simp;try omega) (halloc2 _ _ (by simp));obtain ⟨zbB,zb0,zb1,zb2,zb3,zb4,zbf,zbL,zbN⟩:=zbd;have B1:Hid (Below W.heap.size W w1):=bstep (by repeat (first|exact Below.refl _ _|refine Below.setCell ?_ (by simp;try omega) _|refine Below.alloc ?_ (by simp;try omega) _|refine Below.drew ?_)) hb;clear hb ho HA)
  refine bodyPost_ret (v:=.agg #[.int .i64 a1,.int .i64 a2,.int .i64 a1,.int .i64 a2,.slice va G.length vc]) (by simp [results,Tryz.results255,go_sem, *]) rfl ⟨⟨va,vc,rfl,?_⟩,(by repeat (first|refine Below.setCell ?_ (by simp;try omega) _|refine Below.alloc ?_ (by have:=B1.out.size;simp;try omega) _|refine Below.drew ?_|exact B1.out))⟩
  exact Go.Joins.ownsRow_le (rowSet (rowSet (rowSet (rowSet (rowSet HLO.out (by omega) _) (by omega) _) (by omega) _) (by omega) _) (by omega) _) (by omega)
def idxS (p:S5→Bool):List S5→Nat→Int
  | [],_=>-1
  | m::r,k=>if p m then (k:Int) else idxS p r (k+1)
theorem idxS_at {p:S5→Bool} {l:List S5} (k:Nat) (x:S5) (h:l[k]?=some x):idxS p (l.drop k) k=if p x then (k:Int) else idxS p (l.drop (k+1)) (k+1):=by
  obtain ⟨h1,h2⟩:=List.getElem?_eq_some_iff.1 h
  rw [List.drop_eq_getElem_cons h1,h2,idxS]
theorem idxS_any (p:S5→Bool):∀ (l:List S5) (k:Nat),(idxS p l k=-1∧l.any p=false)∨∃ j:Nat,idxS p l k=(j:Int)∧l.any p=true
  | [],_=>.inl ⟨rfl,rfl⟩
  | m::r,k=>by
    rw [idxS]
    cases e:p m with
    | true=>exact .inr ⟨k,by simp,by simp [e]⟩
    | false =>
      rcases idxS_any p r (k+1) with ⟨h,h2⟩|⟨j,h,h2⟩
      · exact .inl ⟨by simpa using h,by simp [e,h2]⟩
      · exact .inr ⟨j,by simpa using h,by simp [h2]⟩
set_option maxHeartbeats 4000000 in
theorem idx5_any (g:Nat) (eg:∀ args w,(callFunc g args).run Tryz.prog w=.ok (.enter g args) w) (cb:Array Value) (p:S5→Bool) (N:Nat) (l:List S5) (v:Value) (W:World) (h:W.ownsRow N 213 5 v l.length (flat5 l)) (hn:l.length≤1000000000) (hp:∀ m∈l,∀ w,Below W.heap.size W w→Calls Tryz.prog g (#[m.agg]++cb) w fun e w'=>e=.returned (.bool (p m))∧Below w.heap.size w w') :
    Calls Tryz.prog 307 #[v,.func (.func g) #[] cb] W fun e w'=>e=.returned (.int .i64 (idxS p l 0))∧Below W.heap.size W w':=by
  obtain ⟨ao,cap,rfl⟩:=ownv h
  obtain ⟨K,hK⟩:∃ K,l.length=K:=⟨_,rfl⟩
  have HA:Hid (W.ownsRow N 213 5 (.slice ao l.length cap) l.length (flat5 l)):=h
  have HK:Hid (l.length=K):=hK
  have HP:Hid (∀ m∈l,∀ w,Below W.heap.size W w→Calls Tryz.prog g (#[m.agg]++cb) w fun e w'=>e=.returned (.bool (p m))∧Below w.heap.size w w'):=hp
  rw [hK] at hn ⊢
  clear hK h hp
  go_enter Tryz.func307,Tryz.ntmps307
  go_wp2
  go_loopw [8] (fun iv wr=>∃ i:Nat,iv=.int .i64 i∧i≤K∧Hid (Below W.heap.size W wr)∧Hid (idxS p (l.drop i) i=idxS p l 0)) (fun iv _=>K - (intOf iv).toNat)
  case atStart=>exact ⟨0,rfl,Nat.zero_le _,Below.refl _ _,rfl⟩
  case round =>
    obtain ⟨i,rfl,hi,hb,hs⟩:=hrel
    by_cases hlt:i<K
    · have hlq:i<l.length:=by rw [HK.out];exact hlt
      obtain ⟨x,hx⟩:∃ x,l[i]?=some x:=⟨_,List.getElem?_eq_getElem hlq⟩
      obtain ⟨gm,cm,hform⟩:=Go.Joins.ownsRow_form HA.out (by omega)
      have hrow:=HA.out
      rw [hform] at hrow
      obtain ⟨e0,e1,e2,e3,e4,hgl⟩:=row5_cells hrow hx
      replace e0:=(hb.out.cell (p:=⟨gm,i * 5,none⟩) hgl).trans e0
      replace e1:=(hb.out.cell (p:=⟨gm,i * 5+1,none⟩) hgl).trans e1
      replace e2:=(hb.out.cell (p:=⟨gm,i * 5+2,none⟩) hgl).trans e2
      replace e3:=(hb.out.cell (p:=⟨gm,i * 5+3,none⟩) hgl).trans e3
      replace e4:=(hb.out.cell (p:=⟨gm,i * 5+4,none⟩) hgl).trans e4
      injection hform with hao _ hcap
      subst hao hcap
      have hst:=idxS_at (p:=p) i x hx
      rw [hs.out] at hst
      have HC:Hid (Calls Tryz.prog g (#[x.agg]++cb) wr fun e w'=>e=.returned (.bool (p x))∧Below wr.heap.size wr w'):=HP.out x (List.mem_of_getElem? hx) wr hb.out
      generalize p x=q at *
      obtain ⟨⟨r1,r2⟩,⟨m1,m2⟩,oa,on,oc⟩:=x
      simp only [S5.agg] at e0 e1 e2 e3 e4 HC
      clear hs HA hx hrow hlq HP
      cases q with
      | true =>
        have HZ:Hid (idxS p l 0=(i:Int)):=by rw [Hid,hst];rfl
        clear hst
        go_wp2_with (go_at_fn g;refine (HC.out).mono ?_;rintro e w1 ⟨rfl,hb1⟩)
        go_ret
        exact ⟨ret_int HZ.out.symm,Below.step hb.out hb1⟩
      | false =>
        have HZ:Hid (idxS p (l.drop (i+1)) (i+1)=idxS p l 0):=by rw [Hid,hst];rfl
        clear hst
        go_wp2_with (go_at_fn g;refine (HC.out).mono ?_;rintro e w1 ⟨rfl,hb1⟩;have hb2:Hid (Below W.heap.size W w1):=Below.step hb.out hb1;clear hb1)
        go_roundw
        case rel=>exact ⟨i+1,by go_num,by omega,hb2,HZ⟩
        case measure=>simp [intOf];omega
    · have e:i=K:=by omega
      subst e
      have HZ:Hid (idxS p l 0=-1):=by rw [Hid,← hs.out,List.drop_of_length_le (by rw [HK.out];exact Nat.le_refl _)];rfl
      clear hs HA HP
      go_wp2
      go_ret
      exact ⟨ret_int HZ.out.symm,hb.out⟩
theorem con5_any (g:Nat) (eg:∀ args w,(callFunc g args).run Tryz.prog w=.ok (.enter g args) w) (cb:Array Value) (p:S5→Bool) (N:Nat) (l:List S5) (v:Value) (W:World) (h:W.ownsRow N 213 5 v l.length (flat5 l)) (hn:l.length≤1000000000) (hp:∀ m∈l,∀ w,Below W.heap.size W w→Calls Tryz.prog g (#[m.agg]++cb) w fun e w'=>e=.returned (.bool (p m))∧Below w.heap.size w w') :
    Calls Tryz.prog 289 #[v,.func (.func g) #[] cb] W fun e w'=>e=.returned (.bool (l.any p))∧Below W.heap.size W w':=by
  have HI:Hid (Calls Tryz.prog 307 #[v,.func (.func g) #[] cb] W fun e w'=>e=.returned (.int .i64 (idxS p l 0))∧Below W.heap.size W w'):=idx5_any g eg cb p N l v W h hn hp
  rcases idxS_any p l 0 with ⟨e,e2⟩|⟨j,e,e2⟩
  · rw [e] at HI
    rw [e2]
    obtain ⟨ao,cap,rfl⟩:=ownv h
    clear h hp e e2
    go_enter Tryz.func289,Tryz.ntmps289
    go_wp2_with (go_at_call 307;refine HI.out.mono ?_;rintro e w1 ⟨rfl,hb⟩;have B1:Hid (Below W.heap.size W w1):=hb;clear hb HI)
    exact bodyPost_ret (results_tmp rfl _ _ _) rfl ⟨rfl,B1.out⟩
  · rw [e] at HI
    rw [e2]
    obtain ⟨ao,cap,rfl⟩:=ownv h
    clear h hp e e2
    go_enter Tryz.func289,Tryz.ntmps289
    go_wp2_with (go_at_call 307;refine HI.out.mono ?_;rintro e w1 ⟨rfl,hb⟩;have B1:Hid (Below W.heap.size W w1):=hb;clear hb HI)
    exact bodyPost_ret (results_tmp rfl _ _ _) rfl ⟨rfl,B1.out⟩
theorem callSI (vs:Array Value) (w:World):(callFunc 290 vs).run Tryz.prog w=.ok (.enter 290 vs) w:=by simp [go_sem]
theorem isHeld_c (W:World) (B:Nat) (hB:B<W.heap.size) (o1 o2:Int) (h0:W.cell? ⟨B,0,none⟩=some (.int .i64 o1)) (h1:W.cell? ⟨B,1,none⟩=some (.int .i64 o2)) (x:S5):Calls Tryz.prog 290 #[x.agg,.pointer (some ⟨B,0,none⟩)] W fun e w'=>e=.returned (.bool ((x.m.1 == o1)&&(x.m.2 == o2)))∧Below W.heap.size W w':=by
  obtain ⟨⟨r1,r2⟩,⟨m1,m2⟩,oa,on,oc⟩:=x
  simp only [S5.agg]
  have hN:¬ B=W.heap.size:=by omega
  go_enter Tryz.func290,Tryz.ntmps290
  go_wp2
  all_goals go_ret
  all_goals exact ⟨retB (by simp [*]),(by repeat (first|exact Below.refl _ _|refine Below.setCell ?_ (by simp;try omega) _|refine Below.alloc ?_ (by simp;try omega) _|refine Below.drew ?_))⟩
theorem stIn_c (N:Nat) (l:List S5) (v:Value) (o1 o2:Int) (W:World) (h:W.ownsRow N 213 5 v l.length (flat5 l)) (hn:l.length≤1000000000):Calls Tryz.prog 254 #[v,.agg #[.int .i64 o1,.int .i64 o2]] W fun e w'=>e=.returned (.bool (l.any fun x=>(x.m.1 == o1)&&(x.m.2 == o2)))∧Below W.heap.size W w':=by
  have HC:Hid (Calls Tryz.prog 289 #[v,.func (.func 290) #[] #[.pointer (some ⟨W.heap.size,0,none⟩)]] (W.alloc (.cells #[.int .i64 o1,.int .i64 o2] 24)) fun e w'=>e=.returned (.bool (l.any fun x=>(x.m.1 == o1)&&(x.m.2 == o2)))∧Below (W.alloc (.cells #[.int .i64 o1,.int .i64 o2] 24)).heap.size (W.alloc (.cells #[.int .i64 o1,.int .i64 o2] 24)) w'):=by
    refine con5_any 290 callSI _ _ N l v _ (h.alloc _) hn (fun m _ w hb=>?_)
    obtain ⟨_,c0,c1,_,cL,_⟩:=kp2 (n:=W.heap.size) hb (by simp) (halloc1 _ _)
    exact isHeld_c w W.heap.size cL o1 o2 c0 c1 m
  obtain ⟨va,vc,rfl⟩:=ownv h
  generalize (l.any fun x=>(x.m.1 == o1)&&(x.m.2 == o2))=R at *
  clear h
  go_enter Tryz.func254,Tryz.ntmps254
  go_wp2_with (go_at_call 289;refine HC.out.mono ?_;rintro e w1 ⟨rfl,hb⟩;have B1:Hid (Below W.heap.size W w1):=((Below.refl _ W).alloc (Nat.le_refl _) _).trans (hb.mono (by simp));clear hb HC)
  exact bodyPost_ret (results_tmp rfl _ _ _) rfl ⟨rfl,B1.out⟩
end Go.Proofs.YtjlfnelihbdhjaaGreat
