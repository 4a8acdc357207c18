import Derived.Test.YtjlfnelihbdhjaaGreatOvI
import Derived.Test.YtjlfnelihbdhjaaGreatRnH
import Derived.Test.YtjlfnelihbdhjaaGreatRfL
import Derived.Test.YtjlfnelihbdhjaaGreatChA
import Derived.Test.YtjlfnelihbdhjaaGreatOvR
import Derived.Deep.RegionHeld3
set_option maxRecDepth 100000
namespace Go.Proofs.YtjlfnelihbdhjaaGreat
open Go.RowKit Go.Maps
theorem both_no {b:Nat} {ps:List Plc} {W:World} (h:WAt b ps W) (hi:WI ps) (c i a j:Int) (hm:methI ps c i=none∨methI ps a j=none) (w:World) (hb:Below W.heap.size W w):Calls Tryz.prog 64 #[.pointer (some ⟨b,0,none⟩),.agg #[.int .i64 c,.int .i64 i],.agg #[.int .i64 a,.int .i64 j]] w fun e w'=>e=.returned (.tuple #[.agg #[.string ⟨#[]⟩,.string ⟨#[]⟩,.int .i64 0,.int .i64 0,.int .i64 0,.slice none 0 0,.int .i64 0,.int .i64 0,.pointer none],.agg #[.string ⟨#[]⟩,.string ⟨#[]⟩,.int .i64 0,.int .i64 0,.int .i64 0,.slice none 0 0,.int .i64 0,.int .i64 0,.pointer none],.int .i64 3])∧Below w.heap.size w w':=by
  cases hc:methI ps c i with
  | none=>exact both_no1 (h.below hb) hi c i a j hc
  | some m =>
    rcases hm with hm|hm
    · rw [hm] at hc;cases hc
    · exact both_no2 (h.below hb) hi c i a j m hc hm
set_option maxHeartbeats 4000000 in
theorem ovr_no {b:Nat} {ps:List Plc} {W:World} (h:WAt b ps W) (hi:WI ps) (c i a j:Int) (hm:methI ps c i=none∨methI ps a j=none):Calls Tryz.prog 20 #[.pointer (some ⟨b,0,none⟩),.agg #[.int .i64 c,.int .i64 i],.agg #[.int .i64 a,.int .i64 j]] W fun e w'=>e=.returned (.tuple #[.bool false,.int .i64 3])∧Below W.heap.size W w':=by
  have HR:Hid (∀ w,Below W.heap.size W w→Calls Tryz.prog 64 #[.pointer (some ⟨b,0,none⟩),.agg #[.int .i64 c,.int .i64 i],.agg #[.int .i64 a,.int .i64 j]] w fun e w'=>e=.returned (.tuple #[.agg #[.string ⟨#[]⟩,.string ⟨#[]⟩,.int .i64 0,.int .i64 0,.int .i64 0,.slice none 0 0,.int .i64 0,.int .i64 0,.pointer none],.agg #[.string ⟨#[]⟩,.string ⟨#[]⟩,.int .i64 0,.int .i64 0,.int .i64 0,.slice none 0 0,.int .i64 0,.int .i64 0,.pointer none],.int .i64 3])∧Below w.heap.size w w'):=both_no h hi c i a j hm
  clear h hi hm
  go_enter Tryz.func20,Tryz.ntmps20
  go_upto_region 2 with (go_at_call 64;refine (HR.out _ (by repeat (first|exact Below.refl _ _|refine Below.setCell ?_ (by simp;try omega) _|refine Below.alloc ?_ (by simp;try omega) _|refine Below.drew ?_))).mono ?_;rintro e w1 ⟨rfl,hb⟩;have B1:Hid (Below (W.heap.size+2) ((W.alloc (.cells #[.int .i64 c,.int .i64 i] 24)).alloc (.cells #[.int .i64 a,.int .i64 j] 24)) w1):=hb.mono (by simp);have hs1:W.heap.size+2≤w1.heap.size:=(by have:=hb.size;simpa using this);clear hb HR)
  obtain ⟨V,hV⟩:∃ V,V=(w1.alloc (.cells #[.string ⟨#[]⟩,.string ⟨#[]⟩,.int .i64 0,.int .i64 0,.int .i64 0,.slice none 0 0,.int .i64 0,.int .i64 0,.pointer none] 93)).alloc (.cells #[.string ⟨#[]⟩,.string ⟨#[]⟩,.int .i64 0,.int .i64 0,.int .i64 0,.slice none 0 0,.int .i64 0,.int .i64 0,.pointer none] 93):=⟨_,rfl⟩
  have fd:V.heap[w1.heap.size]?=some (.cells #[.string ⟨#[]⟩,.string ⟨#[]⟩,.int .i64 0,.int .i64 0,.int .i64 0,.slice none 0 0,.int .i64 0,.int .i64 0,.pointer none] 93 (0,0)):=by rw [hV];exact hkeep (halloc1 _ _)
  have hd2:V.heap[w1.heap.size+1]?=some (.cells #[.string ⟨#[]⟩,.string ⟨#[]⟩,.int .i64 0,.int .i64 0,.int .i64 0,.slice none 0 0,.int .i64 0,.int .i64 0,.pointer none] 93 (0,0)):=by rw [hV];exact halloc2 _ _ (by simp)
  have BV:Hid (Below (W.heap.size+2) ((W.alloc (.cells #[.int .i64 c,.int .i64 i] 24)).alloc (.cells #[.int .i64 a,.int .i64 j] 24)) V):=by rw [hV];exact (B1.out.alloc hs1 _).alloc (by simp;omega) _
  rw [← hV]
  obtain ⟨x0,x1,x2,x3,x4,x5,x6,x7,x8,xL⟩:=row9 fd
  obtain ⟨y0,y1,y2,y3,y4,y5,y6,y7,y8,yL⟩:=row9 hd2
  have HF9:Hid (V.heap[w1.heap.size]?=some (.cells #[.string ⟨#[]⟩,.string ⟨#[]⟩,.int .i64 0,.int .i64 0,.int .i64 0,.slice none 0 0,.int .i64 0,.int .i64 0,.pointer none] 93 (0,0))):=fd
  have HG9:Hid (V.heap[w1.heap.size+1]?=some (.cells #[.string ⟨#[]⟩,.string ⟨#[]⟩,.int .i64 0,.int .i64 0,.int .i64 0,.slice none 0 0,.int .i64 0,.int .i64 0,.pointer none] 93 (0,0))):=hd2
  clear hV hd2 fd
  go_wp2
  exact bodyPost_ret (v:=.tuple #[.bool false,.int .i64 3]) (by simp [results,Tryz.results20,go_sem, *]) rfl ⟨rfl,(by have hbw:Below W.heap.size W V:=(((Below.refl _ W).alloc (Nat.le_refl _) _).alloc (by simp) _).trans (BV.out.mono (by omega));exact hbw)⟩
theorem callIs (vs:Array Value) (w:World):(callFunc 71 vs).run Tryz.prog w=.ok (.enter 71 vs) w:=by simp [go_sem]
theorem any_is {c:Int×Int}:∀ {l:List P9},l.any (fun y=>(c.1 == y.c)&&(c.2 == y.i))=(l.map P9.id).any (eqI c)
  | []=>rfl
  | y::r=>by rw [List.any_cons,List.map_cons,List.any_cons,any_is];rfl
set_option maxHeartbeats 8000000 in
theorem ovr_yes {b:Nat} {ps:List Plc} {W:World} (h:WAt b ps W) (hi:WI ps) (ck:Nat) (q:Plc) (hq:ps[ck]?=some q) (i a j:Int) (m k:HM) (hm:methI ps (ck:Int) i=some m) (hk:methI ps a j=some k):Calls Tryz.prog 20 #[.pointer (some ⟨b,0,none⟩),.agg #[.int .i64 (ck:Int),.int .i64 i],.agg #[.int .i64 a,.int .i64 j]] W fun e w'=>e=.returned (.tuple #[.bool ((gthL ps (a,j) (askL ps k (a,j) (chL (ps.map nd) ck).reverse)).any (eqI ((ck:Int),i))),.int .i64 0])∧Below W.heap.size W w':=by
  have HR:Hid (∀ w,Below W.heap.size W w→Calls Tryz.prog 64 #[.pointer (some ⟨b,0,none⟩),.agg #[.int .i64 (ck:Int),.int .i64 i],.agg #[.int .i64 a,.int .i64 j]] w fun e w'=>(∃ xa xk xo ya yk yo,e=.returned (.tuple #[.agg #[.string m.nm,.string m.ds,.int .i64 m.fl,.int .i64 m.lo,.int .i64 m.st,.slice xa xk xo,.int .i64 (ck:Int),.int .i64 i,.pointer (some ⟨b,0,none⟩)],.agg #[.string k.nm,.string k.ds,.int .i64 k.fl,.int .i64 k.lo,.int .i64 k.st,.slice ya yk yo,.int .i64 a,.int .i64 j,.pointer (some ⟨b,0,none⟩)],.int .i64 0]))∧Below w.heap.size w w'):=fun w hb=>both_yes (h.below hb) hi (ck:Int) i a j m k hm hk
  have hKb:(chL (ps.map nd) ck).length≤300:=by
    have h1:=ch_len hi.wo ck (by simpa using (List.getElem?_eq_some_iff.1 hq).1)
    have h2:=hi.hi
    have h3:=(List.getElem?_eq_some_iff.1 hq).1
    omega
  have HD:Hid (∀ w,Below W.heap.size W w→Calls Tryz.prog 68 #[.pointer (some ⟨b,0,none⟩),.int .i64 (ck:Int)] w fun e w'=>∃ g cap,e=.returned (.tuple #[.slice (some ⟨g,0,none⟩) (chL (ps.map nd) ck).length cap,.int .i64 0])∧w'.ownsRow w.heap.size 3 1 (.slice (some ⟨g,0,none⟩) (chL (ps.map nd) ck).length cap) (chL (ps.map nd) ck).length ((chL (ps.map nd) ck).reverse.map numV)∧Below w.heap.size w w'):=fun w hb=>down_c (h.below hb) hi ck q hq
  obtain ⟨G,hG⟩:∃ G,gthL ps (a,j) (askL ps k (a,j) (chL (ps.map nd) ck).reverse)=G:=⟨_,rfl⟩
  rw [hG]
  have hGb:G.length≤301:=by
    rw [← hG]
    refine Nat.le_trans (gthL_len _ _ _) ?_
    have:=nskL_len ps k.nm k.ds (a,j).1 (chL (ps.map nd) ck).reverse
    rw [List.length_reverse] at this
    rw [askL,List.length_cons]
    omega
  have HG:Hid (∀ w (x:P9) (v:Value),Below W.heap.size W w→OkP ps x→x.id=(a,j)→(x.nm,x.ds,x.c)=(k.nm,k.ds,a)→Rds w v (chL (ps.map nd) ck).length 1 ((chL (ps.map nd) ck).reverse.map numV)→Calls Tryz.prog 70 #[x.agg b,v] w fun e w'=>∃ (L:List P9) (g cap:Nat),e=.returned (.slice (some ⟨g,0,none⟩) L.length cap)∧(∀ y∈L,OkP ps y)∧L.map P9.id=G∧w'.ownsRow w.heap.size 93 9 (.slice (some ⟨g,0,none⟩) L.length cap) L.length (flat9 b L)∧Below w.heap.size w w'):=fun w x v hb ho hid hnd hv=>by
    have:=gth_c (h.below hb) hi x ho v (chL (ps.map nd) ck).reverse (by rw [List.length_reverse];exact hv) (by rw [List.length_reverse];exact hKb)
    simp only [Prod.mk.injEq] at hnd
    rw [hid,hnd.1,hnd.2.1,hnd.2.2] at this
    rw [askL] at hG
    rw [hG] at this
    exact this
  have HN:Hid (∀ (w:World) (L:List P9) (v:Value) (N0:Nat) (x:P9),w.ownsRow N0 93 9 v L.length (flat9 b L)→L.map P9.id=G→x.id=((ck:Int),i)→Calls Tryz.prog 69 #[v,.func (.func 71) #[x.agg b] #[]] w fun e w'=>e=.returned (.bool (G.any (eqI ((ck:Int),i))))∧Below w.heap.size w w'):=fun w L v N0 x ho hid hx=>by
    have hl:L.length≤1000000:=by
      have:=congrArg List.length hid
      rw [List.length_map] at this
      omega
    have:=con9_any 71 callIs (x.agg b) (fun y=>(x.c == y.c)&&(x.i == y.i)) N0 b L v w ho hl (fun y _ w2 _=>is_c b x.nm x.ds x.fl x.lo x.st x.sa x.sk x.so x.c x.i y.nm y.ds y.fl y.lo y.st y.sa y.sk y.so y.c y.i w2)
    have e:L.any (fun y=>(x.c == y.c)&&(x.i == y.i))=G.any (eqI ((ck:Int),i)):=by
      rw [← hid,← hx]
      exact any_is (c:=x.id)
    rw [e] at this
    exact this
  have HM:Hid (methI ps a j=some k):=hk
  generalize G.any (eqI ((ck:Int),i))=R at *
  generalize chL (ps.map nd) ck=l at *
  obtain ⟨K,hK⟩:∃ K,l.length=K:=⟨_,rfl⟩
  rw [hK] at HD HG hKb
  clear h hi hm hk hq hG hK hGb
  simp only [P9.agg] at HG HN
  go_enter Tryz.func20,Tryz.ntmps20
  go_upto_region 2 with (go_at_call 64;refine (HR.out _ (by repeat (first|exact Below.refl _ _|refine Below.setCell ?_ (by simp;try omega) _|refine Below.alloc ?_ (by simp;try omega) _|refine Below.drew ?_))).mono ?_;rintro e w1 ⟨⟨xa,xk,xo,ya,yk,yo,rfl⟩,hb⟩;have B1:Hid (Below (W.heap.size+2) ((W.alloc (.cells #[.int .i64 (ck:Int),.int .i64 i] 24)).alloc (.cells #[.int .i64 a,.int .i64 j] 24)) w1):=hb.mono (by simp);have hs1:W.heap.size+2≤w1.heap.size:=(by have:=hb.size;simpa using this);clear hb HR)
  obtain ⟨V,hV⟩:∃ V,V=(w1.alloc (.cells #[.string m.nm,.string m.ds,.int .i64 m.fl,.int .i64 m.lo,.int .i64 m.st,.slice xa xk xo,.int .i64 (ck:Int),.int .i64 i,.pointer (some ⟨b,0,none⟩)] 93)).alloc (.cells #[.string k.nm,.string k.ds,.int .i64 k.fl,.int .i64 k.lo,.int .i64 k.st,.slice ya yk yo,.int .i64 a,.int .i64 j,.pointer (some ⟨b,0,none⟩)] 93):=⟨_,rfl⟩
  have fd:V.heap[w1.heap.size]?=some (.cells #[.string m.nm,.string m.ds,.int .i64 m.fl,.int .i64 m.lo,.int .i64 m.st,.slice xa xk xo,.int .i64 (ck:Int),.int .i64 i,.pointer (some ⟨b,0,none⟩)] 93 (0,0)):=by rw [hV];exact hkeep (halloc1 _ _)
  have hd2:V.heap[w1.heap.size+1]?=some (.cells #[.string k.nm,.string k.ds,.int .i64 k.fl,.int .i64 k.lo,.int .i64 k.st,.slice ya yk yo,.int .i64 a,.int .i64 j,.pointer (some ⟨b,0,none⟩)] 93 (0,0)):=by rw [hV];exact halloc2 _ _ (by simp)
  have BV:Hid (Below (W.heap.size+2) ((W.alloc (.cells #[.int .i64 (ck:Int),.int .i64 i] 24)).alloc (.cells #[.int .i64 a,.int .i64 j] 24)) V):=by rw [hV];exact (B1.out.alloc hs1 _).alloc (by simp;omega) _
  rw [← hV]
  obtain ⟨x0,x1,x2,x3,x4,x5,x6,x7,x8,xL⟩:=row9 fd
  obtain ⟨y0,y1,y2,y3,y4,y5,y6,y7,y8,yL⟩:=row9 hd2
  have HF9:Hid (V.heap[w1.heap.size]?=some (.cells #[.string m.nm,.string m.ds,.int .i64 m.fl,.int .i64 m.lo,.int .i64 m.st,.slice xa xk xo,.int .i64 (ck:Int),.int .i64 i,.pointer (some ⟨b,0,none⟩)] 93 (0,0))):=fd
  have HG9:Hid (V.heap[w1.heap.size+1]?=some (.cells #[.string k.nm,.string k.ds,.int .i64 k.fl,.int .i64 k.lo,.int .i64 k.st,.slice ya yk yo,.int .i64 a,.int .i64 j,.pointer (some ⟨b,0,none⟩)] 93 (0,0))):=hd2
  clear hV hd2 fd
  obtain ⟨ccB,cc0,cc1,ccf,ccL,ccN⟩:=kp2 (n:=W.heap.size) BV.out (by omega) (hkeep (halloc1 _ _))
  have BW:Hid (Below W.heap.size W V):=(((Below.refl _ W).alloc (Nat.le_refl _) _).alloc (by simp) _).trans (BV.out.mono (by omega))
  clear B1
  go_wp2_with (go_at_call 68;refine (HD.out _ BW.out).mono ?_;rintro e w2 ⟨dg,dc,rfl,ho,hb⟩;have D2:Hid (Rds w2 (.slice (some ⟨dg,0,none⟩) K dc) K 1 (l.reverse.map numV)):=own_rds ho;have HF9b:Hid (w2.heap[w1.heap.size]?=some (.cells #[.string m.nm,.string m.ds,.int .i64 m.fl,.int .i64 m.lo,.int .i64 m.st,.slice xa xk xo,.int .i64 (ck:Int),.int .i64 i,.pointer (some ⟨b,0,none⟩)] 93 (0,0))):=(hb.block w1.heap.size (by first|omega|(simp;omega))).trans HF9.out;have HG9b:Hid (w2.heap[w1.heap.size+1]?=some (.cells #[.string k.nm,.string k.ds,.int .i64 k.fl,.int .i64 k.lo,.int .i64 k.st,.slice ya yk yo,.int .i64 a,.int .i64 j,.pointer (some ⟨b,0,none⟩)] 93 (0,0))):=(hb.block (w1.heap.size+1) (by first|omega|(simp;omega))).trans HG9.out;clear x0 x1 x2 x3 x4 x5 x6 x7 x8 xL y0 y1 y2 y3 y4 y5 y6 y7 y8 yL;clear HF9 HG9;have HF9:=HF9b;have HG9:=HG9b;clear HF9b HG9b;obtain ⟨x0,x1,x2,x3,x4,x5,x6,x7,x8,xL⟩:=row9 HF9.out;obtain ⟨y0,y1,y2,y3,y4,y5,y6,y7,y8,yL⟩:=row9 HG9.out;have B2:Hid (Below W.heap.size W w2):=bstep BW.out hb;clear hb ho HD BW)
  go_region_held3 (fun w'=>w'.cell? ⟨w1.heap.size,0,none⟩=some (.string m.nm)∧w'.cell? ⟨w1.heap.size,1,none⟩=some (.string m.ds)∧w'.cell? ⟨w1.heap.size,2,none⟩=some (.int .i64 m.fl)∧w'.cell? ⟨w1.heap.size,3,none⟩=some (.int .i64 m.lo)∧w'.cell? ⟨w1.heap.size,4,none⟩=some (.int .i64 m.st)∧w'.cell? ⟨w1.heap.size,5,none⟩=some (.slice xa xk xo)∧w'.cell? ⟨w1.heap.size,6,none⟩=some (.int .i64 (ck:Int))∧w'.cell? ⟨w1.heap.size,7,none⟩=some (.int .i64 i)∧w'.cell? ⟨w1.heap.size,8,none⟩=some (.pointer (some ⟨b,0,none⟩))∧w'.cell? ⟨w1.heap.size+1,0,none⟩=some (.string k.nm)∧w'.cell? ⟨w1.heap.size+1,1,none⟩=some (.string k.ds)∧w'.cell? ⟨w1.heap.size+1,2,none⟩=some (.int .i64 k.fl)∧w'.cell? ⟨w1.heap.size+1,3,none⟩=some (.int .i64 k.lo)∧w'.cell? ⟨w1.heap.size+1,4,none⟩=some (.int .i64 k.st)∧w'.cell? ⟨w1.heap.size+1,5,none⟩=some (.slice ya yk yo)∧w'.cell? ⟨w1.heap.size+1,6,none⟩=some (.int .i64 a)∧w'.cell? ⟨w1.heap.size+1,7,none⟩=some (.int .i64 j)∧w'.cell? ⟨w1.heap.size+1,8,none⟩=some (.pointer (some ⟨b,0,none⟩))) (go_keep) (first
    | (go_at_call 70;refine (HG.out _ ⟨k.nm,k.ds,k.fl,k.lo,k.st,ya,yk,yo,a,j⟩ (.slice (some ⟨dg,0,none⟩) K dc) B2.out.drew ⟨k,HM.out,rfl,rfl,rfl⟩ rfl rfl (D2.out.keep ((Below.refl _ w2).drew))).mono ?_;rintro e w3 ⟨L,g,cap,rfl,hok,hid,ho,hb⟩;have O3:Hid (w3.ownsRow w2.heap.size 93 9 (.slice (some ⟨g,0,none⟩) L.length cap) L.length (flat9 b L)):=ho;have ID3:Hid (L.map P9.id=G):=hid;have HF9b:Hid (w3.heap[w1.heap.size]?=some (.cells #[.string m.nm,.string m.ds,.int .i64 m.fl,.int .i64 m.lo,.int .i64 m.st,.slice xa xk xo,.int .i64 (ck:Int),.int .i64 i,.pointer (some ⟨b,0,none⟩)] 93 (0,0))):=(hb.block w1.heap.size (by first|omega|(simp;omega))).trans HF9.out;have HG9b:Hid (w3.heap[w1.heap.size+1]?=some (.cells #[.string k.nm,.string k.ds,.int .i64 k.fl,.int .i64 k.lo,.int .i64 k.st,.slice ya yk yo,.int .i64 a,.int .i64 j,.pointer (some ⟨b,0,none⟩)] 93 (0,0))):=(hb.block (w1.heap.size+1) (by first|omega|(simp;omega))).trans HG9.out;clear x0 x1 x2 x3 x4 x5 x6 x7 x8 xL y0 y1 y2 y3 y4 y5 y6 y7 y8 yL;clear HF9 HG9;have HF9:=HF9b;have HG9:=HG9b;clear HF9b HG9b;obtain ⟨x0,x1,x2,x3,x4,x5,x6,x7,x8,xL⟩:=row9 HF9.out;obtain ⟨y0,y1,y2,y3,y4,y5,y6,y7,y8,yL⟩:=row9 HG9.out;have B3:Hid (Below W.heap.size W w3):=bstep B2.out.drew hb;clear hb ho hok hid HG)
    | (go_at_call 69;refine (HN.out _ L (.slice (some ⟨g,0,none⟩) L.length cap) _ ⟨m.nm,m.ds,m.fl,m.lo,m.st,xa,xk,xo,(ck:Int),i⟩ O3.out ID3.out rfl).mono ?_;rintro e w4 ⟨rfl,hb⟩;have HF9b:Hid (w4.heap[w1.heap.size]?=some (.cells #[.string m.nm,.string m.ds,.int .i64 m.fl,.int .i64 m.lo,.int .i64 m.st,.slice xa xk xo,.int .i64 (ck:Int),.int .i64 i,.pointer (some ⟨b,0,none⟩)] 93 (0,0))):=(hb.block w1.heap.size (by first|omega|(simp;omega))).trans HF9.out;have HG9b:Hid (w4.heap[w1.heap.size+1]?=some (.cells #[.string k.nm,.string k.ds,.int .i64 k.fl,.int .i64 k.lo,.int .i64 k.st,.slice ya yk yo,.int .i64 a,.int .i64 j,.pointer (some ⟨b,0,none⟩)] 93 (0,0))):=(hb.block (w1.heap.size+1) (by first|omega|(simp;omega))).trans HG9.out;clear x0 x1 x2 x3 x4 x5 x6 x7 x8 xL y0 y1 y2 y3 y4 y5 y6 y7 y8 yL;clear HF9 HG9;have HF9:=HF9b;have HG9:=HG9b;clear HF9b HG9b;obtain ⟨x0,x1,x2,x3,x4,x5,x6,x7,x8,xL⟩:=row9 HF9.out;obtain ⟨y0,y1,y2,y3,y4,y5,y6,y7,y8,yL⟩:=row9 HG9.out;have B4:Hid (Below W.heap.size W w4):=bstep B3.out hb;clear hb HN))
  all_goals go_wp2
  all_goals exact bodyPost_ret (v:=.tuple #[.bool R,.int .i64 0]) (by simp [results,Tryz.results20,go_sem, *]) rfl ⟨rfl,B4.out⟩
theorem ovr_c {b:Nat} {ps:List Plc} {W:World} (h:WAt b ps W) (hi:WI ps) (c i a j:Int):Calls Tryz.prog 20 #[.pointer (some ⟨b,0,none⟩),.agg #[.int .i64 c,.int .i64 i],.agg #[.int .i64 a,.int .i64 j]] W fun e w'=>e=.returned (.tuple #[.bool (ovrI ps (c,i) (a,j)).1,.int .i64 (ovrI ps (c,i) (a,j)).2])∧Below W.heap.size W w':=by
  cases hm:methI ps c i with
  | none =>
    have e:ovrI ps (c,i) (a,j)=(false,3):=by simp only [ovrI,hm]
    rw [e];exact ovr_no h hi c i a j (.inl hm)
  | some m =>
    cases hk:methI ps a j with
    | none =>
      have e:ovrI ps (c,i) (a,j)=(false,3):=by simp only [ovrI,hm,hk]
      rw [e];exact ovr_no h hi c i a j (.inr hk)
    | some k =>
      obtain ⟨ck,q,rfl,hq,_,_⟩:=meth_plc hm
      have e:ovrI ps ((ck:Int),i) (a,j)=((gthL ps (a,j) (askL ps k (a,j) (chL (ps.map nd) ck).reverse)).any (eqI ((ck:Int),i)),0):=by simp only [ovrI,hm,hk,Int.toNat_natCast]
      rw [e];exact ovr_yes h hi ck q hq i a j m k hm hk
theorem clss_keep {w w':World} {v:Value} {l:List Cls} (h:IsClss w v l) (hb:Below w.heap.size w w'):IsClss w' v l:=by
  obtain ⟨ao,cap,rfl,h1,h2,h3⟩:=h
  refine ⟨ao,cap,rfl,h1,h2,fun hne=>?_⟩
  obtain ⟨bk,o,e,hlt,hc⟩:=h3 hne
  refine ⟨bk,o,e,Nat.lt_of_lt_of_le hlt hb.size,fun k c hk=>?_⟩
  obtain ⟨vi,vm,h4,h5⟩:=hc k c hk
  exact ⟨vi,vm,fun j u hj=>(hb.cell hlt).trans (h4 j u hj),h5.keep hb⟩
theorem ovr3:ovrI P3 (0,1) (0,1)=(true,0):=by kernel_rfl
theorem awake9_c (W:World):Calls Tryz.prog 15 #[] W fun e w'=>e=.returned (.bool true)∧Below W.heap.size W w':=by
  have HN:Hid (∀ w:World,Calls Tryz.prog 60 #[] w fun e w'=>∃ b,e=.returned (.pointer (some ⟨b,0,none⟩))∧WAt b P3 w'∧Below w.heap.size w w'):=fun w=>(new_any w).mono fun e w' zz=>⟨_,zz.1,by obtain ⟨vp,pv,hw⟩:=zz.2.1;exact hw.wat,zz.2.2⟩
  have HM:Hid (∀ (w:World) (b:Nat),WAt b P3 w→Calls Tryz.prog 20 #[.pointer (some ⟨b,0,none⟩),.agg #[.int .i64 0,.int .i64 1],.agg #[.int .i64 0,.int .i64 1]] w fun e w'=>e=.returned (.tuple #[.bool true,.int .i64 0])∧Below w.heap.size w w'):=fun w b h=>(ovr_c h wi3 0 1 0 1).mono fun e w' zz=>⟨by rw [zz.1,ovr3],zz.2⟩
  have BB:Hid (Below W.heap.size W W):=Below.refl _ _
  go_enter Tryz.func15,Tryz.ntmps15
  go_wp2
  go_region_held3 (fun w'=>w'.cell? ⟨W.heap.size,0,none⟩=some (.int .i64 0)∧w'.cell? ⟨W.heap.size,1,none⟩=some (.int .i64 1)) (go_keep) (first
    | (go_at_call 60;refine (HN.out _).mono ?_;rintro e w1 ⟨b,rfl,hw,hb⟩;have iad:=kp2 (n:=W.heap.size) hb (by first|omega|(simp;try omega)) (halloc1 _ _);(try clear iaB ia0 ia1 iaf iaL iaN);obtain ⟨iaB,ia0,ia1,iaf,iaL,iaN⟩:=iad;have BB2:Below W.heap.size W w1:=bstep (by repeat (first|refine Below.setCell ?_ (by simp;try omega) _|refine Below.alloc ?_ (by have:=BB.out.size;simp;try omega) _|refine Below.drew ?_|exact BB.out)) hb;clear BB;have BB:Hid (Below W.heap.size W w1):=BB2;(try clear HH);have HH:Hid (WAt b P3 w1):=hw;clear hw hb BB2)
    | (go_at_call 20;refine (HM.out _ _ HH.out).mono ?_;rintro e w2 ⟨rfl,hb⟩;have iad:=kp2 (n:=W.heap.size) hb (by first|omega|(simp;try omega)) (iaB.out);(try clear iaB ia0 ia1 iaf iaL iaN);obtain ⟨iaB,ia0,ia1,iaf,iaL,iaN⟩:=iad;have BB2:=bstep BB.out hb;clear BB;have BB:Hid (Below W.heap.size W w2):=BB2;clear hb BB2 HM))
  all_goals go_wp2
  all_goals exact bodyPost_ret (results_tmp rfl _ _ _) rfl ⟨rfl,(by repeat (first|refine Below.setCell ?_ (by simp;try omega) _|refine Below.alloc ?_ (by have:=BB.out.size;simp;try omega) _|refine Below.drew ?_|exact BB.out))⟩
theorem sido_c (a b:Int) (w:World):Calls Tryz.prog 24 #[.agg #[.int .i64 a,.int .i64 b],.agg #[.int .i64 a,.int .i64 b]] w fun e w'=>e=.returned (.bool true)∧Below w.heap.size w w':=(sameID_c (a,b) (a,b) w).mono fun e w' zz=>⟨by rw [zz.1];simp,zz.2⟩
theorem oall_c {b:Nat} {ps:List Plc} {W:World} (h:WAt b ps W) (hi:WI ps) (hU:UnqM ps) (a1 a2:Int):Calls Tryz.prog 25 #[.pointer (some ⟨b,0,none⟩),.agg #[.int .i64 a1,.int .i64 a2]] W fun e w'=>(∃ v,e=.returned (.tuple #[v,.int .i64 (alvE ps (a1,a2)).2])∧w'.ownsRow W.heap.size 24 2 v (alvE ps (a1,a2)).1.length (flatD (alvE ps (a1,a2)).1))∧Below W.heap.size W w':=by
  cases ha:methI ps a1 a2 with
  | none =>
    have e:alvE ps (a1,a2)=([],3):=by simp [alvE,ha]
    rw [e]
    exact (all_no h hi a1 a2 ha).mono fun e w' zz=>⟨⟨_,zz.1,World.ownsRow_nil _ _ _ _⟩,zz.2⟩
  | some ma =>
    have e:alvE ps (a1,a2)=((allK ps ma.nm ma.ds (a1,a2)).map (gK ps ma.nm ma.ds),0):=by simp [alvE,ha]
    rw [e]
    obtain ⟨k,q,rfl,hq,_,_⟩:=meth_plc ha
    exact all_yes h hi k (List.getElem?_eq_some_iff.1 hq).1 a2 ma ha _ (all_canon hi hU (a:=((k:Int),a2)) ha rfl)
set_option maxHeartbeats 4000000 in
theorem OverrideFirst_any (v:Value) (l:List Cls) (r a1 a2:Int) (W:World) (h:IsClss W v l):Calls Tryz.prog 4 #[v,.int .i64 r,.agg #[.int .i64 a1,.int .i64 a2]] W fun e w'=>e=.returned (.bool true)∧Below W.heap.size W w':=by
  have hCW:=clss_w h
  obtain ⟨hWI,hWJ⟩:=wld_wj l hCW
  have hT:=twW l hCW
  have hS:=sndI_wld l hCW
  have hU:=unqM_wld l hCW
  have hz:=hT.tw.sz hT.wi
  obtain ⟨ps,hps⟩:∃ ps,ps=wld l:=⟨_,rfl⟩
  obtain ⟨cs,hcs⟩:∃ cs,cs=wldC l:=⟨_,rfl⟩
  rw [← hps] at hWI hWJ hT hS hU
  rw [← hcs] at hT hz
  have HA:Hid (∀ w:World,Calls Tryz.prog 15 #[] w fun e w'=>e=.returned (.bool true)∧Below w.heap.size w w'):=awake9_c
  have HB:Hid (∀ w:World,Below W.heap.size W w→Calls Tryz.prog 16 #[v] w fun e w'=>(∃ b,e=.returned (.pointer (some ⟨b,0,none⟩))∧WAt b ps w')∧Below w.heap.size w w'):=fun w hb=>by rw [hps];exact built9_c v l w (clss_keep h hb)
  have HO:Hid (∀ w:World,Below W.heap.size W w→Calls Tryz.prog 17 #[v] w fun e w'=>(∃ b,e=.returned (.pointer (some ⟨b,0,none⟩))∧RAt b cs w')∧Below w.heap.size w w'):=fun w hb=>by rw [hcs];exact of_c v l w (clss_keep h hb)
  have F1:Hid (∀ b w,WAt b ps w→Calls Tryz.prog 22 #[.pointer (some ⟨b,0,none⟩),.int .i64 r,.agg #[.int .i64 a1,.int .i64 a2]] w fun e w'=>e=.returned (idE (firI ps r (a1,a2)))∧Below w.heap.size w w'):=fun b w hw=>first_c hw hWI r a1 a2
  have F2:Hid (∀ b w,RAt b cs w→Calls Tryz.prog 23 #[.pointer (some ⟨b,0,none⟩),.int .i64 r,.agg #[.int .i64 a1,.int .i64 a2]] w fun e w'=>e=.returned (idE (firI ps r (a1,a2)))∧Below w.heap.size w w'):=fun b w hw=>r9first_c hw hT hWJ hS hU hz r a1 a2
  have A1:Hid (∀ b w,WAt b ps w→Calls Tryz.prog 25 #[.pointer (some ⟨b,0,none⟩),.agg #[.int .i64 a1,.int .i64 a2]] w fun e w'=>(∃ v,e=.returned (.tuple #[v,.int .i64 (alvE ps (a1,a2)).2])∧w'.ownsRow w.heap.size 24 2 v (alvE ps (a1,a2)).1.length (flatD (alvE ps (a1,a2)).1))∧Below w.heap.size w w'):=fun b w hw=>oall_c hw hWI hU a1 a2
  have A2:Hid (∀ b w,RAt b cs w→Calls Tryz.prog 26 #[.pointer (some ⟨b,0,none⟩),.agg #[.int .i64 a1,.int .i64 a2]] w fun e w'=>(∃ v,e=.returned (.tuple #[v,.int .i64 (alvE ps (a1,a2)).2])∧w'.ownsRow w.heap.size 24 2 v (alvE ps (a1,a2)).1.length (flatD (alvE ps (a1,a2)).1))∧Below w.heap.size w w'):=fun b w hw=>r9All_c hw hT hWJ hS hU hz a1 a2
  have hLb:=alvE_len hWI (a1,a2)
  generalize firI ps r (a1,a2)=FF at *
  obtain ⟨⟨f1,f2⟩,f3⟩:=FF
  generalize alvE ps (a1,a2)=LL at *
  obtain ⟨L,e3⟩:=LL
  simp only [idE] at F1 F2 A1 A2 hLb
  have SI:Hid (∀ w:World,Calls Tryz.prog 24 #[.agg #[.int .i64 f1,.int .i64 f2],.agg #[.int .i64 f1,.int .i64 f2]] w fun e w'=>e=.returned (.bool true)∧Below w.heap.size w w'):=sido_c f1 f2
  have SS:Hid (∀ (N1 N2:Nat) (v1 v2:Value) (w:World),w.ownsRow N1 24 2 v1 L.length (flatD L)→w.ownsRow N2 24 2 v2 L.length (flatD L)→Calls Tryz.prog 27 #[v1,v2] w fun e w'=>e=.returned (.bool true)∧Below w.heap.size w w'):=fun N1 N2 v1 v2 w h1 h2=>sameIDs_eq N1 N2 L v1 v2 w h1 h2 (by omega)
  clear h hCW hWI hWJ hT hS hU hz hps hcs hLb
  have BB:Hid (Below W.heap.size W W):=Below.refl _ _
  go_enter Tryz.func4,Tryz.ntmps4
  go_wp2_with (first
    | (go_at_call 15;refine (HA.out _).mono ?_;rintro e w1 ⟨rfl,hb⟩;have aad:=kp2 (n:=W.heap.size) hb (by first|omega|(simp;try omega)) (halloc1 _ _);(try clear aaB aa0 aa1 aaf aaL aaN);obtain ⟨aaB,aa0,aa1,aaf,aaL,aaN⟩:=aad;have BB2:Below W.heap.size W w1:=bstep (by repeat (first|refine Below.setCell ?_ (by simp;try omega) _|refine Below.alloc ?_ (by have:=BB.out.size;simp;try omega) _|refine Below.drew ?_|exact BB.out)) hb;clear BB;have BB:Hid (Below W.heap.size W w1):=BB2;clear HA;clear BB2 hb)
    | (go_at_call 16;refine (HB.out _ (by repeat (first|refine Below.setCell ?_ (by simp;try omega) _|refine Below.alloc ?_ (by have:=BB.out.size;simp;try omega) _|refine Below.drew ?_|exact BB.out))).mono ?_;rintro e w2 ⟨⟨b,rfl,hw⟩,hb⟩;have aad:=kp2 (n:=W.heap.size) hb (by first|omega|(simp;try omega)) (aaB.out);(try clear aaB aa0 aa1 aaf aaL aaN);obtain ⟨aaB,aa0,aa1,aaf,aaL,aaN⟩:=aad;have BB2:Below W.heap.size W w2:=bstep (by repeat (first|refine Below.setCell ?_ (by simp;try omega) _|refine Below.alloc ?_ (by have:=BB.out.size;simp;try omega) _|refine Below.drew ?_|exact BB.out)) hb;clear BB;have BB:Hid (Below W.heap.size W w2):=BB2;have HH:Hid (WAt b ps w2):=hw;clear hw HB;clear BB2 hb)
    | (go_at_call 17;refine (HO.out _ (by repeat (first|refine Below.setCell ?_ (by simp;try omega) _|refine Below.alloc ?_ (by have:=BB.out.size;simp;try omega) _|refine Below.drew ?_|exact BB.out))).mono ?_;rintro e w3 ⟨⟨bx,rfl,hw⟩,hb⟩;have aad:=kp2 (n:=W.heap.size) hb (by first|omega|(simp;try omega)) (aaB.out);(try clear aaB aa0 aa1 aaf aaL aaN);obtain ⟨aaB,aa0,aa1,aaf,aaL,aaN⟩:=aad;have BB2:Below W.heap.size W w3:=bstep (by repeat (first|refine Below.setCell ?_ (by simp;try omega) _|refine Below.alloc ?_ (by have:=BB.out.size;simp;try omega) _|refine Below.drew ?_|exact BB.out)) hb;clear BB;have BB:Hid (Below W.heap.size W w3):=BB2;have HH2:=(HH.out.below (w':=_) (by repeat (first|refine Below.setCell ?_ (by simp;try omega) _|refine Below.alloc ?_ (by simp;try omega) _|refine Below.drew ?_|exact Below.refl _ _))).below hb;clear HH;have HH:Hid (WAt b ps w3):=HH2;clear HH2;have HR:Hid (RAt bx cs w3):=hw;clear hw HO;clear BB2 hb)
    | (go_at_call 22;refine (F1.out _ _ HH.out).mono ?_;rintro e w4 ⟨rfl,hb⟩;have aad:=kp2 (n:=W.heap.size) hb (by first|omega|(simp;try omega)) (aaB.out);(try clear aaB aa0 aa1 aaf aaL aaN);obtain ⟨aaB,aa0,aa1,aaf,aaL,aaN⟩:=aad;have BB2:Below W.heap.size W w4:=bstep (by repeat (first|refine Below.setCell ?_ (by simp;try omega) _|refine Below.alloc ?_ (by have:=BB.out.size;simp;try omega) _|refine Below.drew ?_|exact BB.out)) hb;clear BB;have BB:Hid (Below W.heap.size W w4):=BB2;have HH2:=(HH.out.below (w':=_) (by repeat (first|refine Below.setCell ?_ (by simp;try omega) _|refine Below.alloc ?_ (by simp;try omega) _|refine Below.drew ?_|exact Below.refl _ _))).below hb;clear HH;have HH:Hid (WAt b ps w4):=HH2;clear HH2;have HR2:=(HR.out.below (w':=_) (by repeat (first|refine Below.setCell ?_ (by simp;try omega) _|refine Below.alloc ?_ (by simp;try omega) _|refine Below.drew ?_|exact Below.refl _ _))).below hb;clear HR;have HR:Hid (RAt bx cs w4):=HR2;clear HR2;clear F1;clear BB2 hb)
    | (go_at_call 23;refine (F2.out _ _ (HR.out.below (by repeat (first|refine Below.setCell ?_ (by simp;try omega) _|refine Below.alloc ?_ (by simp;try omega) _|refine Below.drew ?_|exact Below.refl _ _)))).mono ?_;rintro e w5 ⟨rfl,hb⟩;have aad:=kp2 (n:=W.heap.size) hb (by first|omega|(simp;try omega)) (hkeep aaB.out);(try clear aaB aa0 aa1 aaf aaL aaN);obtain ⟨aaB,aa0,aa1,aaf,aaL,aaN⟩:=aad;have mmd:=kp2 (n:=w4.heap.size) hb (by first|omega|(simp;try omega)) (halloc1 _ _);(try clear mmB mm0 mm1 mmf mmL mmN);obtain ⟨mmB,mm0,mm1,mmf,mmL,mmN⟩:=mmd;have BB2:Below W.heap.size W w5:=bstep (by repeat (first|refine Below.setCell ?_ (by simp;try omega) _|refine Below.alloc ?_ (by have:=BB.out.size;simp;try omega) _|refine Below.drew ?_|exact BB.out)) hb;clear BB;have BB:Hid (Below W.heap.size W w5):=BB2;have HH2:=(HH.out.below (w':=_) (by repeat (first|refine Below.setCell ?_ (by simp;try omega) _|refine Below.alloc ?_ (by simp;try omega) _|refine Below.drew ?_|exact Below.refl _ _))).below hb;clear HH;have HH:Hid (WAt b ps w5):=HH2;clear HH2;have HR2:=(HR.out.below (w':=_) (by repeat (first|refine Below.setCell ?_ (by simp;try omega) _|refine Below.alloc ?_ (by simp;try omega) _|refine Below.drew ?_|exact Below.refl _ _))).below hb;clear HR;have HR:Hid (RAt bx cs w5):=HR2;clear HR2;clear F2;clear BB2 hb)
    | (go_at_call 24;refine (SI.out _).mono ?_;rintro e w6 ⟨rfl,hb⟩;have aad:=kp2 (n:=W.heap.size) hb (by first|omega|(simp;try omega)) (hkeep aaB.out);(try clear aaB aa0 aa1 aaf aaL aaN);obtain ⟨aaB,aa0,aa1,aaf,aaL,aaN⟩:=aad;have BB2:Below W.heap.size W w6:=bstep (by repeat (first|refine Below.setCell ?_ (by simp;try omega) _|refine Below.alloc ?_ (by have:=BB.out.size;simp;try omega) _|refine Below.drew ?_|exact BB.out)) hb;clear BB;have BB:Hid (Below W.heap.size W w6):=BB2;have HH2:=(HH.out.below (w':=_) (by repeat (first|refine Below.setCell ?_ (by simp;try omega) _|refine Below.alloc ?_ (by simp;try omega) _|refine Below.drew ?_|exact Below.refl _ _))).below hb;clear HH;have HH:Hid (WAt b ps w6):=HH2;clear HH2;have HR2:=(HR.out.below (w':=_) (by repeat (first|refine Below.setCell ?_ (by simp;try omega) _|refine Below.alloc ?_ (by simp;try omega) _|refine Below.drew ?_|exact Below.refl _ _))).below hb;clear HR;have HR:Hid (RAt bx cs w6):=HR2;clear HR2;clear SI;clear BB2 hb)
    | (go_at_call 25;refine (A1.out _ _ HH.out).mono ?_;rintro e w7 ⟨⟨v1,rfl,ho⟩,hb⟩;have aad:=kp2 (n:=W.heap.size) hb (by first|omega|(simp;try omega)) (aaB.out);(try clear aaB aa0 aa1 aaf aaL aaN);obtain ⟨aaB,aa0,aa1,aaf,aaL,aaN⟩:=aad;have BB2:Below W.heap.size W w7:=bstep (by repeat (first|refine Below.setCell ?_ (by simp;try omega) _|refine Below.alloc ?_ (by have:=BB.out.size;simp;try omega) _|refine Below.drew ?_|exact BB.out)) hb;clear BB;have BB:Hid (Below W.heap.size W w7):=BB2;have HH2:=(HH.out.below (w':=_) (by repeat (first|refine Below.setCell ?_ (by simp;try omega) _|refine Below.alloc ?_ (by simp;try omega) _|refine Below.drew ?_|exact Below.refl _ _))).below hb;clear HH;have HH:Hid (WAt b ps w7):=HH2;clear HH2;have HR2:=(HR.out.below (w':=_) (by repeat (first|refine Below.setCell ?_ (by simp;try omega) _|refine Below.alloc ?_ (by simp;try omega) _|refine Below.drew ?_|exact Below.refl _ _))).below hb;clear HR;have HR:Hid (RAt bx cs w7):=HR2;clear HR2;obtain ⟨x1,x2,rfl⟩:=ownv ho;have O7:Hid (w7.ownsRow w6.heap.size 24 2 (.slice x1 L.length x2) L.length (flatD L)):=ho;clear A1 ho;clear BB2 hb)
    | (go_at_call 26;refine (A2.out _ _ HR.out).mono ?_;rintro e w8 ⟨⟨v2,rfl,ho⟩,hb⟩;have BB2:Below W.heap.size W w8:=bstep (by repeat (first|refine Below.setCell ?_ (by simp;try omega) _|refine Below.alloc ?_ (by have:=BB.out.size;simp;try omega) _|refine Below.drew ?_|exact BB.out)) hb;clear BB;have BB:Hid (Below W.heap.size W w8):=BB2;have HH2:=(HH.out.below (w':=_) (by repeat (first|refine Below.setCell ?_ (by simp;try omega) _|refine Below.alloc ?_ (by simp;try omega) _|refine Below.drew ?_|exact Below.refl _ _))).below hb;clear HH;have HH:Hid (WAt b ps w8):=HH2;clear HH2;have HR2:=(HR.out.below (w':=_) (by repeat (first|refine Below.setCell ?_ (by simp;try omega) _|refine Below.alloc ?_ (by simp;try omega) _|refine Below.drew ?_|exact Below.refl _ _))).below hb;clear HR;have HR:Hid (RAt bx cs w8):=HR2;clear HR2;obtain ⟨z1,z2,rfl⟩:=ownv ho;have O8:Hid (w8.ownsRow w7.heap.size 24 2 (.slice z1 L.length z2) L.length (flatD L)):=ho;have O78:Hid (w8.ownsRow w6.heap.size 24 2 (.slice x1 L.length x2) L.length (flatD L)):=rowBelow O7.out hb;clear A2 ho O7;clear BB2 hb)
    | (go_at_call 27;refine (SS.out _ _ _ _ _ O78.out O8.out).mono ?_;rintro e w9 ⟨rfl,hb⟩;have BB2:Below W.heap.size W w9:=bstep (by repeat (first|refine Below.setCell ?_ (by simp;try omega) _|refine Below.alloc ?_ (by have:=BB.out.size;simp;try omega) _|refine Below.drew ?_|exact BB.out)) hb;clear BB;have BB:Hid (Below W.heap.size W w9):=BB2;clear SS;clear BB2 hb))
  all_goals go_ret
  all_goals exact ⟨retB (by simp),BB.out⟩
end Go.Proofs.YtjlfnelihbdhjaaGreat
