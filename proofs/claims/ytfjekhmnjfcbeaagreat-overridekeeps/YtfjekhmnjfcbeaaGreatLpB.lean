import Derived.Test.YtfjekhmnjfcbeaaGreatOvI
import Derived.Test.YtfjekhmnjfcbeaaGreatRfB
import Derived.Test.YtfjekhmnjfcbeaaGreatGrB
import Derived.Test.YtfjekhmnjfcbeaaGreatRnD
import Derived.Test.YtfjekhmnjfcbeaaGreatRsA
import Derived.Test.YtfjekhmnjfcbeaaGreatRnK
import Derived.Deep.RegionHeld3
set_option maxRecDepth 100000
namespace Go.Proofs.YtfjekhmnjfcbeaaGreat
open Go.RowKit Go.Maps
theorem both_no {b:Nat} {ps:List Plc} {W:World} (h:WAt b ps W) (hi:WI ps) (c i a j:Int) (hm:methI ps c i=none∨methI ps a j=none) (w:World) (hb:Below W.heap.size W w):Calls Tryz.prog 83 #[.pointer (some ⟨b,0,none⟩),.agg #[.int .i64 c,.int .i64 i],.agg #[.int .i64 a,.int .i64 j]] w fun e w'=>e=.returned (.tuple #[.agg #[.string ⟨#[]⟩,.string ⟨#[]⟩,.int .i64 0,.int .i64 0,.int .i64 0,.slice none 0 0,.int .i64 0,.int .i64 0,.pointer none],.agg #[.string ⟨#[]⟩,.string ⟨#[]⟩,.int .i64 0,.int .i64 0,.int .i64 0,.slice none 0 0,.int .i64 0,.int .i64 0,.pointer none],.int .i64 3])∧Below w.heap.size w w':=by
  cases hc:methI ps c i with
  | none=>exact both_no1 (h.below hb) hi c i a j hc
  | some m =>
    rcases hm with hm|hm
    · rw [hm] at hc;cases hc
    · exact both_no2 (h.below hb) hi c i a j m hc hm
set_option maxHeartbeats 4000000 in
theorem ovr_no {b:Nat} {ps:List Plc} {W:World} (h:WAt b ps W) (hi:WI ps) (c i a j:Int) (hm:methI ps c i=none∨methI ps a j=none):Calls Tryz.prog 38 #[.pointer (some ⟨b,0,none⟩),.agg #[.int .i64 c,.int .i64 i],.agg #[.int .i64 a,.int .i64 j]] W fun e w'=>e=.returned (.tuple #[.bool false,.int .i64 3])∧Below W.heap.size W w':=by
  have HR:Hid (∀ w,Below W.heap.size W w→Calls Tryz.prog 83 #[.pointer (some ⟨b,0,none⟩),.agg #[.int .i64 c,.int .i64 i],.agg #[.int .i64 a,.int .i64 j]] w fun e w'=>e=.returned (.tuple #[.agg #[.string ⟨#[]⟩,.string ⟨#[]⟩,.int .i64 0,.int .i64 0,.int .i64 0,.slice none 0 0,.int .i64 0,.int .i64 0,.pointer none],.agg #[.string ⟨#[]⟩,.string ⟨#[]⟩,.int .i64 0,.int .i64 0,.int .i64 0,.slice none 0 0,.int .i64 0,.int .i64 0,.pointer none],.int .i64 3])∧Below w.heap.size w w'):=both_no h hi c i a j hm
  clear h hi hm
  go_enter Tryz.func38,Tryz.ntmps38
  go_upto_region 2 with (go_at_call 83;refine (HR.out _ (by repeat (first|exact Below.refl _ _|refine Below.setCell ?_ (by simp;try omega) _|refine Below.alloc ?_ (by simp;try omega) _|refine Below.drew ?_))).mono ?_;rintro e w1 ⟨rfl,hb⟩;have B1:Hid (Below (W.heap.size+2) ((W.alloc (.cells #[.int .i64 c,.int .i64 i] 60)).alloc (.cells #[.int .i64 a,.int .i64 j] 60)) w1):=hb.mono (by simp);have hs1:W.heap.size+2≤w1.heap.size:=(by have:=hb.size;simpa using this);clear hb HR)
  obtain ⟨V,hV⟩:∃ V,V=(w1.alloc (.cells #[.string ⟨#[]⟩,.string ⟨#[]⟩,.int .i64 0,.int .i64 0,.int .i64 0,.slice none 0 0,.int .i64 0,.int .i64 0,.pointer none] 128)).alloc (.cells #[.string ⟨#[]⟩,.string ⟨#[]⟩,.int .i64 0,.int .i64 0,.int .i64 0,.slice none 0 0,.int .i64 0,.int .i64 0,.pointer none] 128):=⟨_,rfl⟩
  have fd:V.heap[w1.heap.size]?=some (.cells #[.string ⟨#[]⟩,.string ⟨#[]⟩,.int .i64 0,.int .i64 0,.int .i64 0,.slice none 0 0,.int .i64 0,.int .i64 0,.pointer none] 128 (0,0)):=by rw [hV];exact hkeep (halloc1 _ _)
  have hd2:V.heap[w1.heap.size+1]?=some (.cells #[.string ⟨#[]⟩,.string ⟨#[]⟩,.int .i64 0,.int .i64 0,.int .i64 0,.slice none 0 0,.int .i64 0,.int .i64 0,.pointer none] 128 (0,0)):=by rw [hV];exact halloc2 _ _ (by simp)
  have BV:Hid (Below (W.heap.size+2) ((W.alloc (.cells #[.int .i64 c,.int .i64 i] 60)).alloc (.cells #[.int .i64 a,.int .i64 j] 60)) V):=by rw [hV];exact (B1.out.alloc hs1 _).alloc (by simp;omega) _
  rw [← hV]
  obtain ⟨x0,x1,x2,x3,x4,x5,x6,x7,x8,xL⟩:=row9 fd
  obtain ⟨y0,y1,y2,y3,y4,y5,y6,y7,y8,yL⟩:=row9 hd2
  have HF9:Hid (V.heap[w1.heap.size]?=some (.cells #[.string ⟨#[]⟩,.string ⟨#[]⟩,.int .i64 0,.int .i64 0,.int .i64 0,.slice none 0 0,.int .i64 0,.int .i64 0,.pointer none] 128 (0,0))):=fd
  have HG9:Hid (V.heap[w1.heap.size+1]?=some (.cells #[.string ⟨#[]⟩,.string ⟨#[]⟩,.int .i64 0,.int .i64 0,.int .i64 0,.slice none 0 0,.int .i64 0,.int .i64 0,.pointer none] 128 (0,0))):=hd2
  clear hV hd2 fd
  go_wp2
  exact bodyPost_ret (v:=.tuple #[.bool false,.int .i64 3]) (by simp [results,Tryz.results38,go_sem, *]) rfl ⟨rfl,(by have hbw:Below W.heap.size W V:=(((Below.refl _ W).alloc (Nat.le_refl _) _).alloc (by simp) _).trans (BV.out.mono (by omega));exact hbw)⟩
theorem callIs (vs:Array Value) (w:World):(callFunc 87 vs).run Tryz.prog w=.ok (.enter 87 vs) w:=by simp [go_sem]
theorem any_is {c:Int×Int}:∀ {l:List P9},l.any (fun y=>(c.1 == y.c)&&(c.2 == y.i))=(l.map P9.id).any (eqI c)
  | []=>rfl
  | y::r=>by rw [List.any_cons,List.map_cons,List.any_cons,any_is];rfl
set_option maxHeartbeats 8000000 in
theorem ovr_yes {b:Nat} {ps:List Plc} {W:World} (h:WAt b ps W) (hi:WI ps) (ck:Nat) (q:Plc) (hq:ps[ck]?=some q) (i a j:Int) (m k:HM) (hm:methI ps (ck:Int) i=some m) (hk:methI ps a j=some k):Calls Tryz.prog 38 #[.pointer (some ⟨b,0,none⟩),.agg #[.int .i64 (ck:Int),.int .i64 i],.agg #[.int .i64 a,.int .i64 j]] W fun e w'=>e=.returned (.tuple #[.bool ((gthL ps (a,j) (askL ps k (a,j) (chL (ps.map nd) ck).reverse)).any (eqI ((ck:Int),i))),.int .i64 0])∧Below W.heap.size W w':=by
  have HR:Hid (∀ w,Below W.heap.size W w→Calls Tryz.prog 83 #[.pointer (some ⟨b,0,none⟩),.agg #[.int .i64 (ck:Int),.int .i64 i],.agg #[.int .i64 a,.int .i64 j]] w fun e w'=>(∃ xa xk xo ya yk yo,e=.returned (.tuple #[.agg #[.string m.nm,.string m.ds,.int .i64 m.fl,.int .i64 m.lo,.int .i64 m.st,.slice xa xk xo,.int .i64 (ck:Int),.int .i64 i,.pointer (some ⟨b,0,none⟩)],.agg #[.string k.nm,.string k.ds,.int .i64 k.fl,.int .i64 k.lo,.int .i64 k.st,.slice ya yk yo,.int .i64 a,.int .i64 j,.pointer (some ⟨b,0,none⟩)],.int .i64 0]))∧Below w.heap.size w w'):=fun w hb=>both_yes (h.below hb) hi (ck:Int) i a j m k hm hk
  have hKb:(chL (ps.map nd) ck).length≤300:=by
    have h1:=ch_len hi.wo ck (by simpa using (List.getElem?_eq_some_iff.1 hq).1)
    have h2:=hi.hi
    have h3:=(List.getElem?_eq_some_iff.1 hq).1
    omega
  have HD:Hid (∀ w,Below W.heap.size W w→Calls Tryz.prog 85 #[.pointer (some ⟨b,0,none⟩),.int .i64 (ck:Int)] w fun e w'=>∃ g cap,e=.returned (.tuple #[.slice (some ⟨g,0,none⟩) (chL (ps.map nd) ck).length cap,.int .i64 0])∧w'.ownsRow w.heap.size 3 1 (.slice (some ⟨g,0,none⟩) (chL (ps.map nd) ck).length cap) (chL (ps.map nd) ck).length ((chL (ps.map nd) ck).reverse.map numV)∧Below w.heap.size w w'):=fun w hb=>down_c (h.below hb) hi ck q hq
  obtain ⟨G,hG⟩:∃ G,gthL ps (a,j) (askL ps k (a,j) (chL (ps.map nd) ck).reverse)=G:=⟨_,rfl⟩
  rw [hG]
  have hGb:G.length≤301:=by
    rw [← hG]
    refine Nat.le_trans (gthL_len _ _ _) ?_
    have:=nskL_len ps k.nm k.ds (a,j).1 (chL (ps.map nd) ck).reverse
    rw [List.length_reverse] at this
    rw [askL,List.length_cons]
    omega
  have HG:Hid (∀ w (x:P9) (v:Value),Below W.heap.size W w→OkP ps x→x.id=(a,j)→(x.nm,x.ds,x.c)=(k.nm,k.ds,a)→Rds w v (chL (ps.map nd) ck).length 1 ((chL (ps.map nd) ck).reverse.map numV)→Calls Tryz.prog 79 #[x.agg b,v] w fun e w'=>∃ (L:List P9) (g cap:Nat),e=.returned (.slice (some ⟨g,0,none⟩) L.length cap)∧(∀ y∈L,OkP ps y)∧L.map P9.id=G∧w'.ownsRow w.heap.size 128 9 (.slice (some ⟨g,0,none⟩) L.length cap) L.length (flat9 b L)∧Below w.heap.size w w'):=fun w x v hb ho hid hnd hv=>by
    have:=gth_c (h.below hb) hi x ho v (chL (ps.map nd) ck).reverse (by rw [List.length_reverse];exact hv) (by rw [List.length_reverse];exact hKb)
    simp only [Prod.mk.injEq] at hnd
    rw [hid,hnd.1,hnd.2.1,hnd.2.2] at this
    rw [askL] at hG
    rw [hG] at this
    exact this
  have HN:Hid (∀ (w:World) (L:List P9) (v:Value) (N0:Nat) (x:P9),w.ownsRow N0 128 9 v L.length (flat9 b L)→L.map P9.id=G→x.id=((ck:Int),i)→Calls Tryz.prog 86 #[v,.func (.func 87) #[x.agg b] #[]] w fun e w'=>e=.returned (.bool (G.any (eqI ((ck:Int),i))))∧Below w.heap.size w w'):=fun w L v N0 x ho hid hx=>by
    have hl:L.length≤1000000:=by
      have:=congrArg List.length hid
      rw [List.length_map] at this
      omega
    have:=con9_any 87 callIs (x.agg b) (fun y=>(x.c == y.c)&&(x.i == y.i)) N0 b L v w ho hl (fun y _ w2 _=>is_c b x.nm x.ds x.fl x.lo x.st x.sa x.sk x.so x.c x.i y.nm y.ds y.fl y.lo y.st y.sa y.sk y.so y.c y.i w2)
    have e:L.any (fun y=>(x.c == y.c)&&(x.i == y.i))=G.any (eqI ((ck:Int),i)):=by
      rw [← hid,← hx]
      exact any_is (c:=x.id)
    rw [e] at this
    exact this
  have HM:Hid (methI ps a j=some k):=hk
  generalize G.any (eqI ((ck:Int),i))=R at *
  generalize chL (ps.map nd) ck=l at *
  obtain ⟨K,hK⟩:∃ K,l.length=K:=⟨_,rfl⟩
  rw [hK] at HD HG hKb
  clear h hi hm hk hq hG hK hGb
  simp only [P9.agg] at HG HN
  go_enter Tryz.func38,Tryz.ntmps38
  go_upto_region 2 with (go_at_call 83;refine (HR.out _ (by repeat (first|exact Below.refl _ _|refine Below.setCell ?_ (by simp;try omega) _|refine Below.alloc ?_ (by simp;try omega) _|refine Below.drew ?_))).mono ?_;rintro e w1 ⟨⟨xa,xk,xo,ya,yk,yo,rfl⟩,hb⟩;have B1:Hid (Below (W.heap.size+2) ((W.alloc (.cells #[.int .i64 (ck:Int),.int .i64 i] 60)).alloc (.cells #[.int .i64 a,.int .i64 j] 60)) w1):=hb.mono (by simp);have hs1:W.heap.size+2≤w1.heap.size:=(by have:=hb.size;simpa using this);clear hb HR)
  obtain ⟨V,hV⟩:∃ V,V=(w1.alloc (.cells #[.string m.nm,.string m.ds,.int .i64 m.fl,.int .i64 m.lo,.int .i64 m.st,.slice xa xk xo,.int .i64 (ck:Int),.int .i64 i,.pointer (some ⟨b,0,none⟩)] 128)).alloc (.cells #[.string k.nm,.string k.ds,.int .i64 k.fl,.int .i64 k.lo,.int .i64 k.st,.slice ya yk yo,.int .i64 a,.int .i64 j,.pointer (some ⟨b,0,none⟩)] 128):=⟨_,rfl⟩
  have fd:V.heap[w1.heap.size]?=some (.cells #[.string m.nm,.string m.ds,.int .i64 m.fl,.int .i64 m.lo,.int .i64 m.st,.slice xa xk xo,.int .i64 (ck:Int),.int .i64 i,.pointer (some ⟨b,0,none⟩)] 128 (0,0)):=by rw [hV];exact hkeep (halloc1 _ _)
  have hd2:V.heap[w1.heap.size+1]?=some (.cells #[.string k.nm,.string k.ds,.int .i64 k.fl,.int .i64 k.lo,.int .i64 k.st,.slice ya yk yo,.int .i64 a,.int .i64 j,.pointer (some ⟨b,0,none⟩)] 128 (0,0)):=by rw [hV];exact halloc2 _ _ (by simp)
  have BV:Hid (Below (W.heap.size+2) ((W.alloc (.cells #[.int .i64 (ck:Int),.int .i64 i] 60)).alloc (.cells #[.int .i64 a,.int .i64 j] 60)) V):=by rw [hV];exact (B1.out.alloc hs1 _).alloc (by simp;omega) _
  rw [← hV]
  obtain ⟨x0,x1,x2,x3,x4,x5,x6,x7,x8,xL⟩:=row9 fd
  obtain ⟨y0,y1,y2,y3,y4,y5,y6,y7,y8,yL⟩:=row9 hd2
  have HF9:Hid (V.heap[w1.heap.size]?=some (.cells #[.string m.nm,.string m.ds,.int .i64 m.fl,.int .i64 m.lo,.int .i64 m.st,.slice xa xk xo,.int .i64 (ck:Int),.int .i64 i,.pointer (some ⟨b,0,none⟩)] 128 (0,0))):=fd
  have HG9:Hid (V.heap[w1.heap.size+1]?=some (.cells #[.string k.nm,.string k.ds,.int .i64 k.fl,.int .i64 k.lo,.int .i64 k.st,.slice ya yk yo,.int .i64 a,.int .i64 j,.pointer (some ⟨b,0,none⟩)] 128 (0,0))):=hd2
  clear hV hd2 fd
  obtain ⟨ccB,cc0,cc1,ccf,ccL,ccN⟩:=kp2 (n:=W.heap.size) BV.out (by omega) (hkeep (halloc1 _ _))
  have BW:Hid (Below W.heap.size W V):=(((Below.refl _ W).alloc (Nat.le_refl _) _).alloc (by simp) _).trans (BV.out.mono (by omega))
  clear B1
  go_wp2_with (go_at_call 85;refine (HD.out _ BW.out).mono ?_;rintro e w2 ⟨dg,dc,rfl,ho,hb⟩;have D2:Hid (Rds w2 (.slice (some ⟨dg,0,none⟩) K dc) K 1 (l.reverse.map numV)):=own_rds ho;have HF9b:Hid (w2.heap[w1.heap.size]?=some (.cells #[.string m.nm,.string m.ds,.int .i64 m.fl,.int .i64 m.lo,.int .i64 m.st,.slice xa xk xo,.int .i64 (ck:Int),.int .i64 i,.pointer (some ⟨b,0,none⟩)] 128 (0,0))):=(hb.block w1.heap.size (by first|omega|(simp;omega))).trans HF9.out;have HG9b:Hid (w2.heap[w1.heap.size+1]?=some (.cells #[.string k.nm,.string k.ds,.int .i64 k.fl,.int .i64 k.lo,.int .i64 k.st,.slice ya yk yo,.int .i64 a,.int .i64 j,.pointer (some ⟨b,0,none⟩)] 128 (0,0))):=(hb.block (w1.heap.size+1) (by first|omega|(simp;omega))).trans HG9.out;clear x0 x1 x2 x3 x4 x5 x6 x7 x8 xL y0 y1 y2 y3 y4 y5 y6 y7 y8 yL;clear HF9 HG9;have HF9:=HF9b;have HG9:=HG9b;clear HF9b HG9b;obtain ⟨x0,x1,x2,x3,x4,x5,x6,x7,x8,xL⟩:=row9 HF9.out;obtain ⟨y0,y1,y2,y3,y4,y5,y6,y7,y8,yL⟩:=row9 HG9.out;have B2:Hid (Below W.heap.size W w2):=bstep BW.out hb;clear hb ho HD BW)
  go_region_held3 (fun w'=>w'.cell? ⟨w1.heap.size,0,none⟩=some (.string m.nm)∧w'.cell? ⟨w1.heap.size,1,none⟩=some (.string m.ds)∧w'.cell? ⟨w1.heap.size,2,none⟩=some (.int .i64 m.fl)∧w'.cell? ⟨w1.heap.size,3,none⟩=some (.int .i64 m.lo)∧w'.cell? ⟨w1.heap.size,4,none⟩=some (.int .i64 m.st)∧w'.cell? ⟨w1.heap.size,5,none⟩=some (.slice xa xk xo)∧w'.cell? ⟨w1.heap.size,6,none⟩=some (.int .i64 (ck:Int))∧w'.cell? ⟨w1.heap.size,7,none⟩=some (.int .i64 i)∧w'.cell? ⟨w1.heap.size,8,none⟩=some (.pointer (some ⟨b,0,none⟩))∧w'.cell? ⟨w1.heap.size+1,0,none⟩=some (.string k.nm)∧w'.cell? ⟨w1.heap.size+1,1,none⟩=some (.string k.ds)∧w'.cell? ⟨w1.heap.size+1,2,none⟩=some (.int .i64 k.fl)∧w'.cell? ⟨w1.heap.size+1,3,none⟩=some (.int .i64 k.lo)∧w'.cell? ⟨w1.heap.size+1,4,none⟩=some (.int .i64 k.st)∧w'.cell? ⟨w1.heap.size+1,5,none⟩=some (.slice ya yk yo)∧w'.cell? ⟨w1.heap.size+1,6,none⟩=some (.int .i64 a)∧w'.cell? ⟨w1.heap.size+1,7,none⟩=some (.int .i64 j)∧w'.cell? ⟨w1.heap.size+1,8,none⟩=some (.pointer (some ⟨b,0,none⟩))) (go_keep) (first
    | (go_at_call 79;refine (HG.out _ ⟨k.nm,k.ds,k.fl,k.lo,k.st,ya,yk,yo,a,j⟩ (.slice (some ⟨dg,0,none⟩) K dc) B2.out.drew ⟨k,HM.out,rfl,rfl,rfl⟩ rfl rfl (D2.out.keep ((Below.refl _ w2).drew))).mono ?_;rintro e w3 ⟨L,g,cap,rfl,hok,hid,ho,hb⟩;have O3:Hid (w3.ownsRow w2.heap.size 128 9 (.slice (some ⟨g,0,none⟩) L.length cap) L.length (flat9 b L)):=ho;have ID3:Hid (L.map P9.id=G):=hid;have HF9b:Hid (w3.heap[w1.heap.size]?=some (.cells #[.string m.nm,.string m.ds,.int .i64 m.fl,.int .i64 m.lo,.int .i64 m.st,.slice xa xk xo,.int .i64 (ck:Int),.int .i64 i,.pointer (some ⟨b,0,none⟩)] 128 (0,0))):=(hb.block w1.heap.size (by first|omega|(simp;omega))).trans HF9.out;have HG9b:Hid (w3.heap[w1.heap.size+1]?=some (.cells #[.string k.nm,.string k.ds,.int .i64 k.fl,.int .i64 k.lo,.int .i64 k.st,.slice ya yk yo,.int .i64 a,.int .i64 j,.pointer (some ⟨b,0,none⟩)] 128 (0,0))):=(hb.block (w1.heap.size+1) (by first|omega|(simp;omega))).trans HG9.out;clear x0 x1 x2 x3 x4 x5 x6 x7 x8 xL y0 y1 y2 y3 y4 y5 y6 y7 y8 yL;clear HF9 HG9;have HF9:=HF9b;have HG9:=HG9b;clear HF9b HG9b;obtain ⟨x0,x1,x2,x3,x4,x5,x6,x7,x8,xL⟩:=row9 HF9.out;obtain ⟨y0,y1,y2,y3,y4,y5,y6,y7,y8,yL⟩:=row9 HG9.out;have B3:Hid (Below W.heap.size W w3):=bstep B2.out.drew hb;clear hb ho hok hid HG)
    | (go_at_call 86;refine (HN.out _ L (.slice (some ⟨g,0,none⟩) L.length cap) _ ⟨m.nm,m.ds,m.fl,m.lo,m.st,xa,xk,xo,(ck:Int),i⟩ O3.out ID3.out rfl).mono ?_;rintro e w4 ⟨rfl,hb⟩;have HF9b:Hid (w4.heap[w1.heap.size]?=some (.cells #[.string m.nm,.string m.ds,.int .i64 m.fl,.int .i64 m.lo,.int .i64 m.st,.slice xa xk xo,.int .i64 (ck:Int),.int .i64 i,.pointer (some ⟨b,0,none⟩)] 128 (0,0))):=(hb.block w1.heap.size (by first|omega|(simp;omega))).trans HF9.out;have HG9b:Hid (w4.heap[w1.heap.size+1]?=some (.cells #[.string k.nm,.string k.ds,.int .i64 k.fl,.int .i64 k.lo,.int .i64 k.st,.slice ya yk yo,.int .i64 a,.int .i64 j,.pointer (some ⟨b,0,none⟩)] 128 (0,0))):=(hb.block (w1.heap.size+1) (by first|omega|(simp;omega))).trans HG9.out;clear x0 x1 x2 x3 x4 x5 x6 x7 x8 xL y0 y1 y2 y3 y4 y5 y6 y7 y8 yL;clear HF9 HG9;have HF9:=HF9b;have HG9:=HG9b;clear HF9b HG9b;obtain ⟨x0,x1,x2,x3,x4,x5,x6,x7,x8,xL⟩:=row9 HF9.out;obtain ⟨y0,y1,y2,y3,y4,y5,y6,y7,y8,yL⟩:=row9 HG9.out;have B4:Hid (Below W.heap.size W w4):=bstep B3.out hb;clear hb HN))
  all_goals go_wp2
  all_goals exact bodyPost_ret (v:=.tuple #[.bool R,.int .i64 0]) (by simp [results,Tryz.results38,go_sem, *]) rfl ⟨rfl,B4.out⟩
theorem ovr_c {b:Nat} {ps:List Plc} {W:World} (h:WAt b ps W) (hi:WI ps) (c i a j:Int):Calls Tryz.prog 38 #[.pointer (some ⟨b,0,none⟩),.agg #[.int .i64 c,.int .i64 i],.agg #[.int .i64 a,.int .i64 j]] W fun e w'=>e=.returned (.tuple #[.bool (ovrI ps (c,i) (a,j)).1,.int .i64 (ovrI ps (c,i) (a,j)).2])∧Below W.heap.size W w':=by
  cases hm:methI ps c i with
  | none =>
    have e:ovrI ps (c,i) (a,j)=(false,3):=by simp only [ovrI,hm]
    rw [e];exact ovr_no h hi c i a j (.inl hm)
  | some m =>
    cases hk:methI ps a j with
    | none =>
      have e:ovrI ps (c,i) (a,j)=(false,3):=by simp only [ovrI,hm,hk]
      rw [e];exact ovr_no h hi c i a j (.inr hk)
    | some k =>
      obtain ⟨ck,q,rfl,hq,_,_⟩:=meth_plc hm
      have e:ovrI ps ((ck:Int),i) (a,j)=((gthL ps (a,j) (askL ps k (a,j) (chL (ps.map nd) ck).reverse)).any (eqI ((ck:Int),i)),0):=by simp only [ovrI,hm,hk,Int.toNat_natCast]
      rw [e];exact ovr_yes h hi ck q hq i a j m k hm hk
set_option maxHeartbeats 2000000 in
theorem readn_c (W:World) (c i:Int):Calls Tryz.prog 78 #[.pointer none,.agg #[.int .i64 c,.int .i64 i]] W fun e w'=>e=.returned (.tuple #[.agg #[.string ⟨#[]⟩,.string ⟨#[]⟩,.int .i64 0,.int .i64 0,.int .i64 0,.slice none 0 0,.int .i64 0,.int .i64 0,.pointer none],.int .i64 2])∧Below W.heap.size W w':=by
  go_enter Tryz.func78,Tryz.ntmps78
  go_wp2
  exact bodyPost_ret (v:=.tuple #[.agg #[.string ⟨#[]⟩,.string ⟨#[]⟩,.int .i64 0,.int .i64 0,.int .i64 0,.slice none 0 0,.int .i64 0,.int .i64 0,.pointer none],.int .i64 2]) (by simp [results,Tryz.results78,go_sem, *]) rfl ⟨rfl,(by repeat (first|exact Below.refl _ _|refine Below.setCell ?_ (by simp;try omega) _|refine Below.alloc ?_ (by simp;try omega) _|refine Below.drew ?_))⟩
set_option maxHeartbeats 2000000 in
theorem bothn_c (W:World) (c i a j:Int):Calls Tryz.prog 83 #[.pointer none,.agg #[.int .i64 c,.int .i64 i],.agg #[.int .i64 a,.int .i64 j]] W fun e w'=>e=.returned (.tuple #[.agg #[.string ⟨#[]⟩,.string ⟨#[]⟩,.int .i64 0,.int .i64 0,.int .i64 0,.slice none 0 0,.int .i64 0,.int .i64 0,.pointer none],.agg #[.string ⟨#[]⟩,.string ⟨#[]⟩,.int .i64 0,.int .i64 0,.int .i64 0,.slice none 0 0,.int .i64 0,.int .i64 0,.pointer none],.int .i64 2])∧Below W.heap.size W w':=by
  have HR:Hid (∀ w,Below W.heap.size W w→Calls Tryz.prog 78 #[.pointer none,.agg #[.int .i64 c,.int .i64 i]] w fun e w'=>e=.returned (.tuple #[.agg #[.string ⟨#[]⟩,.string ⟨#[]⟩,.int .i64 0,.int .i64 0,.int .i64 0,.slice none 0 0,.int .i64 0,.int .i64 0,.pointer none],.int .i64 2])∧Below w.heap.size w w'):=fun w _=>readn_c w c i
  have BB:Hid (Below W.heap.size W W):=Below.refl _ _
  have pB:Hid (((((W.alloc (.cells #[.int .i64 c,.int .i64 i] 60)).alloc (.cells #[.int .i64 a,.int .i64 j] 60)).alloc (.cells #[.string ⟨#[]⟩,.string ⟨#[]⟩,.int .i64 0,.int .i64 0,.int .i64 0,.slice none 0 0,.int .i64 0,.int .i64 0,.pointer none] 128)).alloc (.cells #[.string ⟨#[]⟩,.string ⟨#[]⟩,.int .i64 0,.int .i64 0,.int .i64 0,.slice none 0 0,.int .i64 0,.int .i64 0,.pointer none] 128)).heap[W.heap.size+2]?=some (.cells #[.string ⟨#[]⟩,.string ⟨#[]⟩,.int .i64 0,.int .i64 0,.int .i64 0,.slice none 0 0,.int .i64 0,.int .i64 0,.pointer none] 128 (0,0))):=hkeep (halloc2 _ _ (by simp))
  have qB:Hid (((((W.alloc (.cells #[.int .i64 c,.int .i64 i] 60)).alloc (.cells #[.int .i64 a,.int .i64 j] 60)).alloc (.cells #[.string ⟨#[]⟩,.string ⟨#[]⟩,.int .i64 0,.int .i64 0,.int .i64 0,.slice none 0 0,.int .i64 0,.int .i64 0,.pointer none] 128)).alloc (.cells #[.string ⟨#[]⟩,.string ⟨#[]⟩,.int .i64 0,.int .i64 0,.int .i64 0,.slice none 0 0,.int .i64 0,.int .i64 0,.pointer none] 128)).heap[W.heap.size+3]?=some (.cells #[.string ⟨#[]⟩,.string ⟨#[]⟩,.int .i64 0,.int .i64 0,.int .i64 0,.slice none 0 0,.int .i64 0,.int .i64 0,.pointer none] 128 (0,0))):=halloc2 _ _ (by simp)
  have uB:Hid (((((W.alloc (.cells #[.int .i64 c,.int .i64 i] 60)).alloc (.cells #[.int .i64 a,.int .i64 j] 60)).alloc (.cells #[.string ⟨#[]⟩,.string ⟨#[]⟩,.int .i64 0,.int .i64 0,.int .i64 0,.slice none 0 0,.int .i64 0,.int .i64 0,.pointer none] 128)).alloc (.cells #[.string ⟨#[]⟩,.string ⟨#[]⟩,.int .i64 0,.int .i64 0,.int .i64 0,.slice none 0 0,.int .i64 0,.int .i64 0,.pointer none] 128)).heap[W.heap.size+1]?=some (.cells #[.int .i64 a,.int .i64 j] 60 (0,0))):=hkeep (hkeep (halloc2 _ _ (by simp)))
  go_enter Tryz.func83,Tryz.ntmps83
  go_upto_region 2 with (first
    | (go_at_call 78;refine (HR.out _ (by repeat (first|exact Below.refl _ _|refine Below.setCell ?_ (by simp;try omega) _|refine Below.alloc ?_ (by simp;try omega) _|refine Below.drew ?_))).mono ?_;rintro e w1 ⟨rfl,hb⟩;have pd:w1.heap[W.heap.size+2]?=some (.cells #[.string ⟨#[]⟩,.string ⟨#[]⟩,.int .i64 0,.int .i64 0,.int .i64 0,.slice none 0 0,.int .i64 0,.int .i64 0,.pointer none] 128 (0,0)):=(hb.block (W.heap.size+2) (by first|omega|(simp;try omega))).trans (by first|exact pB.out|exact hkeep pB.out|exact hkeep (hkeep pB.out)|exact halloc2 _ _ rfl|exact heap_alloc2_old _ _ _|exact heap_alloc2_new _ _ _|exact hkeep (halloc2 _ _ rfl)|exact hkeep (hkeep (halloc2 _ _ rfl))|exact halloc2 _ _ (by simp;done));(try clear pB pL pN p0 p1 p2 p3 p4 p5 p6 p7 p8 pf0 pf1 pf2 pf3 pf4 pf5 pf6 pf7 pf8);have pB:Hid (w1.heap[W.heap.size+2]?=some (.cells #[.string ⟨#[]⟩,.string ⟨#[]⟩,.int .i64 0,.int .i64 0,.int .i64 0,.slice none 0 0,.int .i64 0,.int .i64 0,.pointer none] 128 (0,0))):=pd;have p0:w1.cell? ⟨W.heap.size+2,0,none⟩=some (.string ⟨#[]⟩):=(cell_of_row w1 (W.heap.size+2) 0 _ _ _ pd).trans rfl;have pf0:=frozen_of_row w1 (W.heap.size+2) 0 _ _ pd;have p1:w1.cell? ⟨W.heap.size+2,1,none⟩=some (.string ⟨#[]⟩):=(cell_of_row w1 (W.heap.size+2) 1 _ _ _ pd).trans rfl;have pf1:=frozen_of_row w1 (W.heap.size+2) 1 _ _ pd;have p2:w1.cell? ⟨W.heap.size+2,2,none⟩=some (.int .i64 0):=(cell_of_row w1 (W.heap.size+2) 2 _ _ _ pd).trans rfl;have pf2:=frozen_of_row w1 (W.heap.size+2) 2 _ _ pd;have p3:w1.cell? ⟨W.heap.size+2,3,none⟩=some (.int .i64 0):=(cell_of_row w1 (W.heap.size+2) 3 _ _ _ pd).trans rfl;have pf3:=frozen_of_row w1 (W.heap.size+2) 3 _ _ pd;have p4:w1.cell? ⟨W.heap.size+2,4,none⟩=some (.int .i64 0):=(cell_of_row w1 (W.heap.size+2) 4 _ _ _ pd).trans rfl;have pf4:=frozen_of_row w1 (W.heap.size+2) 4 _ _ pd;have p5:w1.cell? ⟨W.heap.size+2,5,none⟩=some (.slice none 0 0):=(cell_of_row w1 (W.heap.size+2) 5 _ _ _ pd).trans rfl;have pf5:=frozen_of_row w1 (W.heap.size+2) 5 _ _ pd;have p6:w1.cell? ⟨W.heap.size+2,6,none⟩=some (.int .i64 0):=(cell_of_row w1 (W.heap.size+2) 6 _ _ _ pd).trans rfl;have pf6:=frozen_of_row w1 (W.heap.size+2) 6 _ _ pd;have p7:w1.cell? ⟨W.heap.size+2,7,none⟩=some (.int .i64 0):=(cell_of_row w1 (W.heap.size+2) 7 _ _ _ pd).trans rfl;have pf7:=frozen_of_row w1 (W.heap.size+2) 7 _ _ pd;have p8:w1.cell? ⟨W.heap.size+2,8,none⟩=some (.pointer none):=(cell_of_row w1 (W.heap.size+2) 8 _ _ _ pd).trans rfl;have pf8:=frozen_of_row w1 (W.heap.size+2) 8 _ _ pd;have pL:W.heap.size+2<w1.heap.size:=(Array.getElem?_eq_some_iff.1 pd).1;have pN:¬ W.heap.size+2=w1.heap.size:=(by omega);clear pd;have qd:w1.heap[W.heap.size+3]?=some (.cells #[.string ⟨#[]⟩,.string ⟨#[]⟩,.int .i64 0,.int .i64 0,.int .i64 0,.slice none 0 0,.int .i64 0,.int .i64 0,.pointer none] 128 (0,0)):=(hb.block (W.heap.size+3) (by first|omega|(simp;try omega))).trans (by first|exact qB.out|exact hkeep qB.out|exact hkeep (hkeep qB.out)|exact halloc2 _ _ rfl|exact heap_alloc2_old _ _ _|exact heap_alloc2_new _ _ _|exact hkeep (halloc2 _ _ rfl)|exact hkeep (hkeep (halloc2 _ _ rfl))|exact halloc2 _ _ (by simp;done));(try clear qB qL qN q0 q1 q2 q3 q4 q5 q6 q7 q8 qf0 qf1 qf2 qf3 qf4 qf5 qf6 qf7 qf8);have qB:Hid (w1.heap[W.heap.size+3]?=some (.cells #[.string ⟨#[]⟩,.string ⟨#[]⟩,.int .i64 0,.int .i64 0,.int .i64 0,.slice none 0 0,.int .i64 0,.int .i64 0,.pointer none] 128 (0,0))):=qd;have q0:w1.cell? ⟨W.heap.size+3,0,none⟩=some (.string ⟨#[]⟩):=(cell_of_row w1 (W.heap.size+3) 0 _ _ _ qd).trans rfl;have qf0:=frozen_of_row w1 (W.heap.size+3) 0 _ _ qd;have q1:w1.cell? ⟨W.heap.size+3,1,none⟩=some (.string ⟨#[]⟩):=(cell_of_row w1 (W.heap.size+3) 1 _ _ _ qd).trans rfl;have qf1:=frozen_of_row w1 (W.heap.size+3) 1 _ _ qd;have q2:w1.cell? ⟨W.heap.size+3,2,none⟩=some (.int .i64 0):=(cell_of_row w1 (W.heap.size+3) 2 _ _ _ qd).trans rfl;have qf2:=frozen_of_row w1 (W.heap.size+3) 2 _ _ qd;have q3:w1.cell? ⟨W.heap.size+3,3,none⟩=some (.int .i64 0):=(cell_of_row w1 (W.heap.size+3) 3 _ _ _ qd).trans rfl;have qf3:=frozen_of_row w1 (W.heap.size+3) 3 _ _ qd;have q4:w1.cell? ⟨W.heap.size+3,4,none⟩=some (.int .i64 0):=(cell_of_row w1 (W.heap.size+3) 4 _ _ _ qd).trans rfl;have qf4:=frozen_of_row w1 (W.heap.size+3) 4 _ _ qd;have q5:w1.cell? ⟨W.heap.size+3,5,none⟩=some (.slice none 0 0):=(cell_of_row w1 (W.heap.size+3) 5 _ _ _ qd).trans rfl;have qf5:=frozen_of_row w1 (W.heap.size+3) 5 _ _ qd;have q6:w1.cell? ⟨W.heap.size+3,6,none⟩=some (.int .i64 0):=(cell_of_row w1 (W.heap.size+3) 6 _ _ _ qd).trans rfl;have qf6:=frozen_of_row w1 (W.heap.size+3) 6 _ _ qd;have q7:w1.cell? ⟨W.heap.size+3,7,none⟩=some (.int .i64 0):=(cell_of_row w1 (W.heap.size+3) 7 _ _ _ qd).trans rfl;have qf7:=frozen_of_row w1 (W.heap.size+3) 7 _ _ qd;have q8:w1.cell? ⟨W.heap.size+3,8,none⟩=some (.pointer none):=(cell_of_row w1 (W.heap.size+3) 8 _ _ _ qd).trans rfl;have qf8:=frozen_of_row w1 (W.heap.size+3) 8 _ _ qd;have qL:W.heap.size+3<w1.heap.size:=(Array.getElem?_eq_some_iff.1 qd).1;have qN:¬ W.heap.size+3=w1.heap.size:=(by omega);clear qd;have BB2:Below W.heap.size W w1:=bstep (by repeat (first|exact Below.refl _ _|refine Below.setCell ?_ (by simp;try omega) _|refine Below.alloc ?_ (by simp;try omega) _|refine Below.drew ?_)) hb;clear BB;have BB:Hid (Below W.heap.size W w1):=BB2;clear BB2 hb;clear HR))
  obtain ⟨U,hU,hd,hbel,hoth⟩:=store9 pB.out (.string ⟨#[]⟩) (.string ⟨#[]⟩) (.int .i64 0) (.int .i64 0) (.int .i64 0) (.slice none 0 0) (.int .i64 0) (.int .i64 0) (.pointer none)
  rw [← hU]
  have BU:Hid (Below W.heap.size W U):=BB.out.trans (hbel _ (by omega))
  have sd:U.heap[W.heap.size+2]?=some (.cells #[.string ⟨#[]⟩,.string ⟨#[]⟩,.int .i64 0,.int .i64 0,.int .i64 0,.slice none 0 0,.int .i64 0,.int .i64 0,.pointer none] 128 (0,0)):=hd
  have s0:U.cell? ⟨W.heap.size+2,0,none⟩=some (.string ⟨#[]⟩):=(cell_of_row U (W.heap.size+2) 0 _ _ _ sd).trans rfl
  have sf0:=frozen_of_row U (W.heap.size+2) 0 _ _ sd
  have s1:U.cell? ⟨W.heap.size+2,1,none⟩=some (.string ⟨#[]⟩):=(cell_of_row U (W.heap.size+2) 1 _ _ _ sd).trans rfl
  have sf1:=frozen_of_row U (W.heap.size+2) 1 _ _ sd
  have s2:U.cell? ⟨W.heap.size+2,2,none⟩=some (.int .i64 0):=(cell_of_row U (W.heap.size+2) 2 _ _ _ sd).trans rfl
  have sf2:=frozen_of_row U (W.heap.size+2) 2 _ _ sd
  have s3:U.cell? ⟨W.heap.size+2,3,none⟩=some (.int .i64 0):=(cell_of_row U (W.heap.size+2) 3 _ _ _ sd).trans rfl
  have sf3:=frozen_of_row U (W.heap.size+2) 3 _ _ sd
  have s4:U.cell? ⟨W.heap.size+2,4,none⟩=some (.int .i64 0):=(cell_of_row U (W.heap.size+2) 4 _ _ _ sd).trans rfl
  have sf4:=frozen_of_row U (W.heap.size+2) 4 _ _ sd
  have s5:U.cell? ⟨W.heap.size+2,5,none⟩=some (.slice none 0 0):=(cell_of_row U (W.heap.size+2) 5 _ _ _ sd).trans rfl
  have sf5:=frozen_of_row U (W.heap.size+2) 5 _ _ sd
  have s6:U.cell? ⟨W.heap.size+2,6,none⟩=some (.int .i64 0):=(cell_of_row U (W.heap.size+2) 6 _ _ _ sd).trans rfl
  have sf6:=frozen_of_row U (W.heap.size+2) 6 _ _ sd
  have s7:U.cell? ⟨W.heap.size+2,7,none⟩=some (.int .i64 0):=(cell_of_row U (W.heap.size+2) 7 _ _ _ sd).trans rfl
  have sf7:=frozen_of_row U (W.heap.size+2) 7 _ _ sd
  have s8:U.cell? ⟨W.heap.size+2,8,none⟩=some (.pointer none):=(cell_of_row U (W.heap.size+2) 8 _ _ _ sd).trans rfl
  have sf8:=frozen_of_row U (W.heap.size+2) 8 _ _ sd
  have td:U.heap[W.heap.size+3]?=some (.cells #[.string ⟨#[]⟩,.string ⟨#[]⟩,.int .i64 0,.int .i64 0,.int .i64 0,.slice none 0 0,.int .i64 0,.int .i64 0,.pointer none] 128 (0,0)):=(hoth _ (by omega)).trans qB.out
  have t0:U.cell? ⟨W.heap.size+3,0,none⟩=some (.string ⟨#[]⟩):=(cell_of_row U (W.heap.size+3) 0 _ _ _ td).trans rfl
  have tf0:=frozen_of_row U (W.heap.size+3) 0 _ _ td
  have t1:U.cell? ⟨W.heap.size+3,1,none⟩=some (.string ⟨#[]⟩):=(cell_of_row U (W.heap.size+3) 1 _ _ _ td).trans rfl
  have tf1:=frozen_of_row U (W.heap.size+3) 1 _ _ td
  have t2:U.cell? ⟨W.heap.size+3,2,none⟩=some (.int .i64 0):=(cell_of_row U (W.heap.size+3) 2 _ _ _ td).trans rfl
  have tf2:=frozen_of_row U (W.heap.size+3) 2 _ _ td
  have t3:U.cell? ⟨W.heap.size+3,3,none⟩=some (.int .i64 0):=(cell_of_row U (W.heap.size+3) 3 _ _ _ td).trans rfl
  have tf3:=frozen_of_row U (W.heap.size+3) 3 _ _ td
  have t4:U.cell? ⟨W.heap.size+3,4,none⟩=some (.int .i64 0):=(cell_of_row U (W.heap.size+3) 4 _ _ _ td).trans rfl
  have tf4:=frozen_of_row U (W.heap.size+3) 4 _ _ td
  have t5:U.cell? ⟨W.heap.size+3,5,none⟩=some (.slice none 0 0):=(cell_of_row U (W.heap.size+3) 5 _ _ _ td).trans rfl
  have tf5:=frozen_of_row U (W.heap.size+3) 5 _ _ td
  have t6:U.cell? ⟨W.heap.size+3,6,none⟩=some (.int .i64 0):=(cell_of_row U (W.heap.size+3) 6 _ _ _ td).trans rfl
  have tf6:=frozen_of_row U (W.heap.size+3) 6 _ _ td
  have t7:U.cell? ⟨W.heap.size+3,7,none⟩=some (.int .i64 0):=(cell_of_row U (W.heap.size+3) 7 _ _ _ td).trans rfl
  have tf7:=frozen_of_row U (W.heap.size+3) 7 _ _ td
  have t8:U.cell? ⟨W.heap.size+3,8,none⟩=some (.pointer none):=(cell_of_row U (W.heap.size+3) 8 _ _ _ td).trans rfl
  have tf8:=frozen_of_row U (W.heap.size+3) 8 _ _ td
  clear hU hd hbel hoth sd td BB pB pL pN p0 p1 p2 p3 p4 p5 p6 p7 p8 pf0 pf1 pf2 pf3 pf4 pf5 pf6 pf7 pf8 qB qL qN q0 q1 q2 q3 q4 q5 q6 q7 q8 qf0 qf1 qf2 qf3 qf4 qf5 qf6 qf7 qf8
  go_wp2
  exact bodyPost_ret (v:=.tuple #[.agg #[.string ⟨#[]⟩,.string ⟨#[]⟩,.int .i64 0,.int .i64 0,.int .i64 0,.slice none 0 0,.int .i64 0,.int .i64 0,.pointer none],.agg #[.string ⟨#[]⟩,.string ⟨#[]⟩,.int .i64 0,.int .i64 0,.int .i64 0,.slice none 0 0,.int .i64 0,.int .i64 0,.pointer none],.int .i64 2]) (by simp [results,Tryz.results83,go_sem, *]) rfl ⟨rfl,(by repeat (first|refine Below.setCell ?_ (by simp;try omega) _|refine Below.alloc ?_ (by have:=BU.out.size;simp;try omega) _|refine Below.drew ?_|exact BU.out))⟩
set_option maxHeartbeats 4000000 in
theorem plan_c (W:World) (c i a j:Int):Calls Tryz.prog 37 #[.pointer none,.agg #[.int .i64 c,.int .i64 i],.agg #[.int .i64 a,.int .i64 j]] W fun e w'=>e=.returned (.tuple #[.bool false,.int .i64 2])∧Below W.heap.size W w':=by
  have HR:Hid (∀ w,Below W.heap.size W w→Calls Tryz.prog 83 #[.pointer none,.agg #[.int .i64 c,.int .i64 i],.agg #[.int .i64 a,.int .i64 j]] w fun e w'=>e=.returned (.tuple #[.agg #[.string ⟨#[]⟩,.string ⟨#[]⟩,.int .i64 0,.int .i64 0,.int .i64 0,.slice none 0 0,.int .i64 0,.int .i64 0,.pointer none],.agg #[.string ⟨#[]⟩,.string ⟨#[]⟩,.int .i64 0,.int .i64 0,.int .i64 0,.slice none 0 0,.int .i64 0,.int .i64 0,.pointer none],.int .i64 2])∧Below w.heap.size w w'):=fun w _=>bothn_c w c i a j
  go_enter Tryz.func37,Tryz.ntmps37
  go_upto_region 2 with (go_at_call 83;refine (HR.out _ (by repeat (first|exact Below.refl _ _|refine Below.setCell ?_ (by simp;try omega) _|refine Below.alloc ?_ (by simp;try omega) _|refine Below.drew ?_))).mono ?_;rintro e w1 ⟨rfl,hb⟩;have B1:Hid (Below (W.heap.size+2) ((W.alloc (.cells #[.int .i64 c,.int .i64 i] 60)).alloc (.cells #[.int .i64 a,.int .i64 j] 60)) w1):=hb.mono (by simp);have hs1:W.heap.size+2≤w1.heap.size:=(by have:=hb.size;simpa using this);clear hb HR)
  obtain ⟨V,hV⟩:∃ V,V=(w1.alloc (.cells #[.string ⟨#[]⟩,.string ⟨#[]⟩,.int .i64 0,.int .i64 0,.int .i64 0,.slice none 0 0,.int .i64 0,.int .i64 0,.pointer none] 128)).alloc (.cells #[.string ⟨#[]⟩,.string ⟨#[]⟩,.int .i64 0,.int .i64 0,.int .i64 0,.slice none 0 0,.int .i64 0,.int .i64 0,.pointer none] 128):=⟨_,rfl⟩
  have fd:V.heap[w1.heap.size]?=some (.cells #[.string ⟨#[]⟩,.string ⟨#[]⟩,.int .i64 0,.int .i64 0,.int .i64 0,.slice none 0 0,.int .i64 0,.int .i64 0,.pointer none] 128 (0,0)):=by rw [hV];exact hkeep (halloc1 _ _)
  have hd2:V.heap[w1.heap.size+1]?=some (.cells #[.string ⟨#[]⟩,.string ⟨#[]⟩,.int .i64 0,.int .i64 0,.int .i64 0,.slice none 0 0,.int .i64 0,.int .i64 0,.pointer none] 128 (0,0)):=by rw [hV];exact halloc2 _ _ (by simp)
  have BV:Hid (Below (W.heap.size+2) ((W.alloc (.cells #[.int .i64 c,.int .i64 i] 60)).alloc (.cells #[.int .i64 a,.int .i64 j] 60)) V):=by rw [hV];exact (B1.out.alloc hs1 _).alloc (by simp;omega) _
  rw [← hV]
  obtain ⟨x0,x1,x2,x3,x4,x5,x6,x7,x8,xL⟩:=row9 fd
  obtain ⟨y0,y1,y2,y3,y4,y5,y6,y7,y8,yL⟩:=row9 hd2
  have HF9:Hid (V.heap[w1.heap.size]?=some (.cells #[.string ⟨#[]⟩,.string ⟨#[]⟩,.int .i64 0,.int .i64 0,.int .i64 0,.slice none 0 0,.int .i64 0,.int .i64 0,.pointer none] 128 (0,0))):=fd
  have HG9:Hid (V.heap[w1.heap.size+1]?=some (.cells #[.string ⟨#[]⟩,.string ⟨#[]⟩,.int .i64 0,.int .i64 0,.int .i64 0,.slice none 0 0,.int .i64 0,.int .i64 0,.pointer none] 128 (0,0))):=hd2
  clear hV hd2 fd
  go_wp2
  exact bodyPost_ret (v:=.tuple #[.bool false,.int .i64 2]) (by simp [results,Tryz.results37,go_sem, *]) rfl ⟨rfl,(by have hbw:Below W.heap.size W V:=(((Below.refl _ W).alloc (Nat.le_refl _) _).alloc (by simp) _).trans (BV.out.mono (by omega));exact hbw)⟩
set_option maxHeartbeats 4000000 in
theorem ovrn_c (W:World) (c i a j:Int):Calls Tryz.prog 38 #[.pointer none,.agg #[.int .i64 c,.int .i64 i],.agg #[.int .i64 a,.int .i64 j]] W fun e w'=>e=.returned (.tuple #[.bool false,.int .i64 2])∧Below W.heap.size W w':=by
  have HR:Hid (∀ w,Below W.heap.size W w→Calls Tryz.prog 83 #[.pointer none,.agg #[.int .i64 c,.int .i64 i],.agg #[.int .i64 a,.int .i64 j]] w fun e w'=>e=.returned (.tuple #[.agg #[.string ⟨#[]⟩,.string ⟨#[]⟩,.int .i64 0,.int .i64 0,.int .i64 0,.slice none 0 0,.int .i64 0,.int .i64 0,.pointer none],.agg #[.string ⟨#[]⟩,.string ⟨#[]⟩,.int .i64 0,.int .i64 0,.int .i64 0,.slice none 0 0,.int .i64 0,.int .i64 0,.pointer none],.int .i64 2])∧Below w.heap.size w w'):=fun w _=>bothn_c w c i a j
  go_enter Tryz.func38,Tryz.ntmps38
  go_upto_region 2 with (go_at_call 83;refine (HR.out _ (by repeat (first|exact Below.refl _ _|refine Below.setCell ?_ (by simp;try omega) _|refine Below.alloc ?_ (by simp;try omega) _|refine Below.drew ?_))).mono ?_;rintro e w1 ⟨rfl,hb⟩;have B1:Hid (Below (W.heap.size+2) ((W.alloc (.cells #[.int .i64 c,.int .i64 i] 60)).alloc (.cells #[.int .i64 a,.int .i64 j] 60)) w1):=hb.mono (by simp);have hs1:W.heap.size+2≤w1.heap.size:=(by have:=hb.size;simpa using this);clear hb HR)
  obtain ⟨V,hV⟩:∃ V,V=(w1.alloc (.cells #[.string ⟨#[]⟩,.string ⟨#[]⟩,.int .i64 0,.int .i64 0,.int .i64 0,.slice none 0 0,.int .i64 0,.int .i64 0,.pointer none] 128)).alloc (.cells #[.string ⟨#[]⟩,.string ⟨#[]⟩,.int .i64 0,.int .i64 0,.int .i64 0,.slice none 0 0,.int .i64 0,.int .i64 0,.pointer none] 128):=⟨_,rfl⟩
  have fd:V.heap[w1.heap.size]?=some (.cells #[.string ⟨#[]⟩,.string ⟨#[]⟩,.int .i64 0,.int .i64 0,.int .i64 0,.slice none 0 0,.int .i64 0,.int .i64 0,.pointer none] 128 (0,0)):=by rw [hV];exact hkeep (halloc1 _ _)
  have hd2:V.heap[w1.heap.size+1]?=some (.cells #[.string ⟨#[]⟩,.string ⟨#[]⟩,.int .i64 0,.int .i64 0,.int .i64 0,.slice none 0 0,.int .i64 0,.int .i64 0,.pointer none] 128 (0,0)):=by rw [hV];exact halloc2 _ _ (by simp)
  have BV:Hid (Below (W.heap.size+2) ((W.alloc (.cells #[.int .i64 c,.int .i64 i] 60)).alloc (.cells #[.int .i64 a,.int .i64 j] 60)) V):=by rw [hV];exact (B1.out.alloc hs1 _).alloc (by simp;omega) _
  rw [← hV]
  obtain ⟨x0,x1,x2,x3,x4,x5,x6,x7,x8,xL⟩:=row9 fd
  obtain ⟨y0,y1,y2,y3,y4,y5,y6,y7,y8,yL⟩:=row9 hd2
  have HF9:Hid (V.heap[w1.heap.size]?=some (.cells #[.string ⟨#[]⟩,.string ⟨#[]⟩,.int .i64 0,.int .i64 0,.int .i64 0,.slice none 0 0,.int .i64 0,.int .i64 0,.pointer none] 128 (0,0))):=fd
  have HG9:Hid (V.heap[w1.heap.size+1]?=some (.cells #[.string ⟨#[]⟩,.string ⟨#[]⟩,.int .i64 0,.int .i64 0,.int .i64 0,.slice none 0 0,.int .i64 0,.int .i64 0,.pointer none] 128 (0,0))):=hd2
  clear hV hd2 fd
  go_wp2
  exact bodyPost_ret (v:=.tuple #[.bool false,.int .i64 2]) (by simp [results,Tryz.results38,go_sem, *]) rfl ⟨rfl,(by have hbw:Below W.heap.size W V:=(((Below.refl _ W).alloc (Nat.le_refl _) _).alloc (by simp) _).trans (BV.out.mono (by omega));exact hbw)⟩
set_option maxHeartbeats 1000000 in
theorem firstn_c (W:World) (r c i:Int):Calls Tryz.prog 39 #[.pointer none,.int .i64 r,.agg #[.int .i64 c,.int .i64 i]] W fun e w'=>e=.returned (idE ((0,0),2))∧Below W.heap.size W w':=by
  have HR:Hid (∀ w,Below W.heap.size W w→Calls Tryz.prog 78 #[.pointer none,.agg #[.int .i64 c,.int .i64 i]] w fun e w'=>e=.returned (.tuple #[.agg #[.string ⟨#[]⟩,.string ⟨#[]⟩,.int .i64 0,.int .i64 0,.int .i64 0,.slice none 0 0,.int .i64 0,.int .i64 0,.pointer none],.int .i64 2])∧Below w.heap.size w w'):=fun w _=>readn_c w c i
  have HZ2:Hid (((W.alloc (.cells #[.int .i64 c,.int .i64 i] 60)).alloc (.cells #[.int .i64 0,.int .i64 0] 60)).heap[W.heap.size+1]?=some (.cells #[.int .i64 0,.int .i64 0] 60 (0,0))):=halloc2 _ _ (by simp)
  go_enter Tryz.func39,Tryz.ntmps39
  go_wp2_with (go_at_call 78;refine (HR.out _ (by repeat (first|exact Below.refl _ _|refine Below.setCell ?_ (by simp;try omega) _|refine Below.alloc ?_ (by simp;try omega) _|refine Below.drew ?_))).mono ?_;rintro e w1 ⟨rfl,hb⟩;have Bw1:Hid (Below (W.heap.size+2) ((W.alloc (.cells #[.int .i64 c,.int .i64 i] 60)).alloc (.cells #[.int .i64 0,.int .i64 0] 60)) w1):=hb.mono (by simp);obtain ⟨z0,z1,f0,f1,zL⟩:=row2 ((Bw1.out.block (W.heap.size+1) (by omega)).trans HZ2.out);clear hb HR)
  exact bodyPost_ret (v:=idE ((0,0),2)) (by simp [results,Tryz.results39,go_sem,idE, *]) rfl ⟨rfl,(by have hbw:Below W.heap.size W w1:=(((Below.refl _ W).alloc (Nat.le_refl _) _).alloc (by simp) _).trans (Bw1.out.mono (by omega));repeat (first|refine Below.setCell ?_ (by simp;try omega) _|refine Below.alloc ?_ (by have:=hbw.size;simp;try omega) _|exact hbw))⟩
set_option maxHeartbeats 4000000 in
theorem alln_c (W:World) (c i:Int):Calls Tryz.prog 33 #[.pointer none,.agg #[.int .i64 c,.int .i64 i]] W fun e w'=>e=.returned (.tuple #[.slice none 0 0,.int .i64 2])∧Below W.heap.size W w':=by
  have HR:Hid (∀ w,Below W.heap.size W w→Calls Tryz.prog 78 #[.pointer none,.agg #[.int .i64 c,.int .i64 i]] w fun e w'=>e=.returned (.tuple #[.agg #[.string ⟨#[]⟩,.string ⟨#[]⟩,.int .i64 0,.int .i64 0,.int .i64 0,.slice none 0 0,.int .i64 0,.int .i64 0,.pointer none],.int .i64 2])∧Below w.heap.size w w'):=fun w _=>readn_c w c i
  go_enter Tryz.func33,Tryz.ntmps33
  go_wp2_with (go_at_call 78;refine (HR.out _ (by repeat (first|exact Below.refl _ _|refine Below.setCell ?_ (by simp;try omega) _|refine Below.alloc ?_ (by simp;try omega) _|refine Below.drew ?_))).mono ?_;rintro e w1 ⟨rfl,hb⟩;have B1:Hid (Below W.heap.size W w1):=bstep (by repeat (first|exact Below.refl _ _|refine Below.setCell ?_ (by simp;try omega) _|refine Below.alloc ?_ (by simp;try omega) _|refine Below.drew ?_)) hb;clear hb HR)
  exact bodyPost_ret (results_tmp2 rfl _ _ _) rfl ⟨rfl,(by repeat (first|refine Below.setCell ?_ (by simp;try omega) _|refine Below.alloc ?_ (by have:=B1.out.size;simp;try omega) _|refine Below.drew ?_|exact B1.out))⟩
theorem ovr3:ovrI P3 (0,1) (0,1)=(true,0):=by kernel_rfl
theorem awake9_c (W:World):Calls Tryz.prog 31 #[] W fun e w'=>e=.returned (.bool true)∧Below W.heap.size W w':=by
  have HN:Hid (∀ w:World,Calls Tryz.prog 9 #[] w fun e w'=>∃ b,e=.returned (.pointer (some ⟨b,0,none⟩))∧WAt b P3 w'∧Below w.heap.size w w'):=fun w=>(new_any w).mono fun e w' zz=>⟨_,zz.1,by obtain ⟨vp,pv,hw⟩:=zz.2.1;exact hw.wat,zz.2.2⟩
  have HM:Hid (∀ (w:World) (b:Nat),WAt b P3 w→Calls Tryz.prog 38 #[.pointer (some ⟨b,0,none⟩),.agg #[.int .i64 0,.int .i64 1],.agg #[.int .i64 0,.int .i64 1]] w fun e w'=>e=.returned (.tuple #[.bool true,.int .i64 0])∧Below w.heap.size w w'):=fun w b h=>(ovr_c h wi3 0 1 0 1).mono fun e w' zz=>⟨by rw [zz.1,ovr3],zz.2⟩
  have BB:Hid (Below W.heap.size W W):=Below.refl _ _
  go_enter Tryz.func31,Tryz.ntmps31
  go_wp2
  go_region_held3 (fun w'=>w'.cell? ⟨W.heap.size,0,none⟩=some (.int .i64 0)∧w'.cell? ⟨W.heap.size,1,none⟩=some (.int .i64 1)) (go_keep) (first
    | (go_at_call 9;refine (HN.out _).mono ?_;rintro e w1 ⟨b,rfl,hw,hb⟩;have iad:=kp2 (n:=W.heap.size) hb (by first|omega|(simp;try omega)) (halloc1 _ _);(try clear iaB ia0 ia1 iaf iaL iaN);obtain ⟨iaB,ia0,ia1,iaf,iaL,iaN⟩:=iad;have BB2:Below W.heap.size W w1:=bstep (by repeat (first|refine Below.setCell ?_ (by simp;try omega) _|refine Below.alloc ?_ (by have:=BB.out.size;simp;try omega) _|refine Below.drew ?_|exact BB.out)) hb;clear BB;have BB:Hid (Below W.heap.size W w1):=BB2;(try clear HH);have HH:Hid (WAt b P3 w1):=hw;clear hw hb BB2)
    | (go_at_call 38;refine (HM.out _ _ HH.out).mono ?_;rintro e w2 ⟨rfl,hb⟩;have iad:=kp2 (n:=W.heap.size) hb (by first|omega|(simp;try omega)) (iaB.out);(try clear iaB ia0 ia1 iaf iaL iaN);obtain ⟨iaB,ia0,ia1,iaf,iaL,iaN⟩:=iad;have BB2:=bstep BB.out hb;clear BB;have BB:Hid (Below W.heap.size W w2):=BB2;clear hb BB2 HM))
  all_goals go_wp2
  all_goals exact bodyPost_ret (results_tmp rfl _ _ _) rfl ⟨rfl,(by repeat (first|refine Below.setCell ?_ (by simp;try omega) _|refine Below.alloc ?_ (by have:=BB.out.size;simp;try omega) _|refine Below.drew ?_|exact BB.out))⟩
theorem oall_c {b:Nat} {ps:List Plc} {W:World} (h:WAt b ps W) (hi:WI ps) (hU:UnqM ps) (a1 a2:Int):Calls Tryz.prog 33 #[.pointer (some ⟨b,0,none⟩),.agg #[.int .i64 a1,.int .i64 a2]] W fun e w'=>(∃ v,e=.returned (.tuple #[v,.int .i64 (alvE ps (a1,a2)).2])∧w'.ownsRow W.heap.size 60 2 v (alvE ps (a1,a2)).1.length (flatD (alvE ps (a1,a2)).1))∧Below W.heap.size W w':=by
  cases ha:methI ps a1 a2 with
  | none =>
    have e:alvE ps (a1,a2)=([],3):=by simp [alvE,ha]
    rw [e]
    exact (all_no h hi a1 a2 ha).mono fun e w' zz=>⟨⟨_,zz.1,World.ownsRow_nil _ _ _ _⟩,zz.2⟩
  | some ma =>
    have e:alvE ps (a1,a2)=((allK ps ma.nm ma.ds (a1,a2)).map (gK ps ma.nm ma.ds),0):=by simp [alvE,ha]
    rw [e]
    obtain ⟨k,q,rfl,hq,_,_⟩:=meth_plc ha
    exact all_yes h hi k (List.getElem?_eq_some_iff.1 hq).1 a2 ma ha _ (all_canon hi hU (a:=((k:Int),a2)) ha rfl)
end Go.Proofs.YtfjekhmnjfcbeaaGreat
