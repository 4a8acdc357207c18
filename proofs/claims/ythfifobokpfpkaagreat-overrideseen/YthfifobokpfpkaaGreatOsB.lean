import Derived.Test.YthfifobokpfpkaaGreatOvI
import Derived.Test.YthfifobokpfpkaaGreatGrA
import Derived.Test.YthfifobokpfpkaaGreatRnK
import Derived.Test.YthfifobokpfpkaaGreatLwA
import Derived.Test.YthfifobokpfpkaaGreatOvR
import Derived.Test.YthfifobokpfpkaaGreatHrQ
import Derived.Test.YthfifobokpfpkaaGreatMxC
import Derived.Deep.RegionHeld3
import Derived.Deep.DeepCutAuto
set_option maxRecDepth 100000
namespace Go.Proofs.YthfifobokpfpkaaGreat
open Go.RowKit Go.Maps
theorem both_no {b:Nat} {ps:List Plc} {W:World} (h:WAt b ps W) (hi:WI ps) (c i a j:Int) (hm:methI ps c i=none∨methI ps a j=none) (w:World) (hb:Below W.heap.size W w):Calls Tryz.prog 85 #[.pointer (some ⟨b,0,none⟩),.agg #[.int .i64 c,.int .i64 i],.agg #[.int .i64 a,.int .i64 j]] w fun e w'=>e=.returned (.tuple #[.agg #[.string ⟨#[]⟩,.string ⟨#[]⟩,.int .i64 0,.int .i64 0,.int .i64 0,.slice none 0 0,.int .i64 0,.int .i64 0,.pointer none],.agg #[.string ⟨#[]⟩,.string ⟨#[]⟩,.int .i64 0,.int .i64 0,.int .i64 0,.slice none 0 0,.int .i64 0,.int .i64 0,.pointer none],.int .i64 3])∧Below w.heap.size w w':=by
  cases hc:methI ps c i with
  | none=>exact both_no1 (h.below hb) hi c i a j hc
  | some m =>
    rcases hm with hm|hm
    · rw [hm] at hc;cases hc
    · exact both_no2 (h.below hb) hi c i a j m hc hm
set_option maxHeartbeats 4000000 in
theorem ovr_no {b:Nat} {ps:List Plc} {W:World} (h:WAt b ps W) (hi:WI ps) (c i a j:Int) (hm:methI ps c i=none∨methI ps a j=none):Calls Tryz.prog 19 #[.pointer (some ⟨b,0,none⟩),.agg #[.int .i64 c,.int .i64 i],.agg #[.int .i64 a,.int .i64 j]] W fun e w'=>e=.returned (.tuple #[.bool false,.int .i64 3])∧Below W.heap.size W w':=by
  have HR:Hid (∀ w,Below W.heap.size W w→Calls Tryz.prog 85 #[.pointer (some ⟨b,0,none⟩),.agg #[.int .i64 c,.int .i64 i],.agg #[.int .i64 a,.int .i64 j]] w fun e w'=>e=.returned (.tuple #[.agg #[.string ⟨#[]⟩,.string ⟨#[]⟩,.int .i64 0,.int .i64 0,.int .i64 0,.slice none 0 0,.int .i64 0,.int .i64 0,.pointer none],.agg #[.string ⟨#[]⟩,.string ⟨#[]⟩,.int .i64 0,.int .i64 0,.int .i64 0,.slice none 0 0,.int .i64 0,.int .i64 0,.pointer none],.int .i64 3])∧Below w.heap.size w w'):=both_no h hi c i a j hm
  clear h hi hm
  go_enter Tryz.func19,Tryz.ntmps19
  go_upto_region 2 with (go_at_call 85;refine (HR.out _ (by repeat (first|exact Below.refl _ _|refine Below.setCell ?_ (by simp;try omega) _|refine Below.alloc ?_ (by simp;try omega) _|refine Below.drew ?_))).mono ?_;rintro e w1 ⟨rfl,hb⟩;have B1:Hid (Below (W.heap.size+2) ((W.alloc (.cells #[.int .i64 c,.int .i64 i] 24)).alloc (.cells #[.int .i64 a,.int .i64 j] 24)) w1):=hb.mono (by simp);have hs1:W.heap.size+2≤w1.heap.size:=(by have:=hb.size;simpa using this);clear hb HR)
  obtain ⟨V,hV⟩:∃ V,V=(w1.alloc (.cells #[.string ⟨#[]⟩,.string ⟨#[]⟩,.int .i64 0,.int .i64 0,.int .i64 0,.slice none 0 0,.int .i64 0,.int .i64 0,.pointer none] 119)).alloc (.cells #[.string ⟨#[]⟩,.string ⟨#[]⟩,.int .i64 0,.int .i64 0,.int .i64 0,.slice none 0 0,.int .i64 0,.int .i64 0,.pointer none] 119):=⟨_,rfl⟩
  have fd:V.heap[w1.heap.size]?=some (.cells #[.string ⟨#[]⟩,.string ⟨#[]⟩,.int .i64 0,.int .i64 0,.int .i64 0,.slice none 0 0,.int .i64 0,.int .i64 0,.pointer none] 119 (0,0)):=by rw [hV];exact hkeep (halloc1 _ _)
  have hd2:V.heap[w1.heap.size+1]?=some (.cells #[.string ⟨#[]⟩,.string ⟨#[]⟩,.int .i64 0,.int .i64 0,.int .i64 0,.slice none 0 0,.int .i64 0,.int .i64 0,.pointer none] 119 (0,0)):=by rw [hV];exact halloc2 _ _ (by simp)
  have BV:Hid (Below (W.heap.size+2) ((W.alloc (.cells #[.int .i64 c,.int .i64 i] 24)).alloc (.cells #[.int .i64 a,.int .i64 j] 24)) V):=by rw [hV];exact (B1.out.alloc hs1 _).alloc (by simp;omega) _
  rw [← hV]
  obtain ⟨x0,x1,x2,x3,x4,x5,x6,x7,x8,xL⟩:=row9 fd
  obtain ⟨y0,y1,y2,y3,y4,y5,y6,y7,y8,yL⟩:=row9 hd2
  have HF9:Hid (V.heap[w1.heap.size]?=some (.cells #[.string ⟨#[]⟩,.string ⟨#[]⟩,.int .i64 0,.int .i64 0,.int .i64 0,.slice none 0 0,.int .i64 0,.int .i64 0,.pointer none] 119 (0,0))):=fd
  have HG9:Hid (V.heap[w1.heap.size+1]?=some (.cells #[.string ⟨#[]⟩,.string ⟨#[]⟩,.int .i64 0,.int .i64 0,.int .i64 0,.slice none 0 0,.int .i64 0,.int .i64 0,.pointer none] 119 (0,0))):=hd2
  clear hV hd2 fd
  go_wp2
  exact bodyPost_ret (v:=.tuple #[.bool false,.int .i64 3]) (by simp [results,Tryz.results19,go_sem, *]) rfl ⟨rfl,(by have hbw:Below W.heap.size W V:=(((Below.refl _ W).alloc (Nat.le_refl _) _).alloc (by simp) _).trans (BV.out.mono (by omega));exact hbw)⟩
theorem callIs (vs:Array Value) (w:World):(callFunc 88 vs).run Tryz.prog w=.ok (.enter 88 vs) w:=by simp [go_sem]
theorem any_is {c:Int×Int}:∀ {l:List P9},l.any (fun y=>(c.1 == y.c)&&(c.2 == y.i))=(l.map P9.id).any (eqI c)
  | []=>rfl
  | y::r=>by rw [List.any_cons,List.map_cons,List.any_cons,any_is];rfl
set_option maxHeartbeats 8000000 in
theorem ovr_yes {b:Nat} {ps:List Plc} {W:World} (h:WAt b ps W) (hi:WI ps) (ck:Nat) (q:Plc) (hq:ps[ck]?=some q) (i a j:Int) (m k:HM) (hm:methI ps (ck:Int) i=some m) (hk:methI ps a j=some k):Calls Tryz.prog 19 #[.pointer (some ⟨b,0,none⟩),.agg #[.int .i64 (ck:Int),.int .i64 i],.agg #[.int .i64 a,.int .i64 j]] W fun e w'=>e=.returned (.tuple #[.bool ((gthL ps (a,j) (askL ps k (a,j) (chL (ps.map nd) ck).reverse)).any (eqI ((ck:Int),i))),.int .i64 0])∧Below W.heap.size W w':=by
  have HR:Hid (∀ w,Below W.heap.size W w→Calls Tryz.prog 85 #[.pointer (some ⟨b,0,none⟩),.agg #[.int .i64 (ck:Int),.int .i64 i],.agg #[.int .i64 a,.int .i64 j]] w fun e w'=>(∃ xa xk xo ya yk yo,e=.returned (.tuple #[.agg #[.string m.nm,.string m.ds,.int .i64 m.fl,.int .i64 m.lo,.int .i64 m.st,.slice xa xk xo,.int .i64 (ck:Int),.int .i64 i,.pointer (some ⟨b,0,none⟩)],.agg #[.string k.nm,.string k.ds,.int .i64 k.fl,.int .i64 k.lo,.int .i64 k.st,.slice ya yk yo,.int .i64 a,.int .i64 j,.pointer (some ⟨b,0,none⟩)],.int .i64 0]))∧Below w.heap.size w w'):=fun w hb=>both_yes (h.below hb) hi (ck:Int) i a j m k hm hk
  have hKb:(chL (ps.map nd) ck).length≤300:=by
    have h1:=ch_len hi.wo ck (by simpa using (List.getElem?_eq_some_iff.1 hq).1)
    have h2:=hi.hi
    have h3:=(List.getElem?_eq_some_iff.1 hq).1
    omega
  have HD:Hid (∀ w,Below W.heap.size W w→Calls Tryz.prog 86 #[.pointer (some ⟨b,0,none⟩),.int .i64 (ck:Int)] w fun e w'=>∃ g cap,e=.returned (.tuple #[.slice (some ⟨g,0,none⟩) (chL (ps.map nd) ck).length cap,.int .i64 0])∧w'.ownsRow w.heap.size 3 1 (.slice (some ⟨g,0,none⟩) (chL (ps.map nd) ck).length cap) (chL (ps.map nd) ck).length ((chL (ps.map nd) ck).reverse.map numV)∧Below w.heap.size w w'):=fun w hb=>down_c (h.below hb) hi ck q hq
  obtain ⟨G,hG⟩:∃ G,gthL ps (a,j) (askL ps k (a,j) (chL (ps.map nd) ck).reverse)=G:=⟨_,rfl⟩
  rw [hG]
  have hGb:G.length≤301:=by
    rw [← hG]
    refine Nat.le_trans (gthL_len _ _ _) ?_
    have:=nskL_len ps k.nm k.ds (a,j).1 (chL (ps.map nd) ck).reverse
    rw [List.length_reverse] at this
    rw [askL,List.length_cons]
    omega
  have HG:Hid (∀ w (x:P9) (v:Value),Below W.heap.size W w→OkP ps x→x.id=(a,j)→(x.nm,x.ds,x.c)=(k.nm,k.ds,a)→Rds w v (chL (ps.map nd) ck).length 1 ((chL (ps.map nd) ck).reverse.map numV)→Calls Tryz.prog 84 #[x.agg b,v] w fun e w'=>∃ (L:List P9) (g cap:Nat),e=.returned (.slice (some ⟨g,0,none⟩) L.length cap)∧(∀ y∈L,OkP ps y)∧L.map P9.id=G∧w'.ownsRow w.heap.size 119 9 (.slice (some ⟨g,0,none⟩) L.length cap) L.length (flat9 b L)∧Below w.heap.size w w'):=fun w x v hb ho hid hnd hv=>by
    have:=gth_c (h.below hb) hi x ho v (chL (ps.map nd) ck).reverse (by rw [List.length_reverse];exact hv) (by rw [List.length_reverse];exact hKb)
    simp only [Prod.mk.injEq] at hnd
    rw [hid,hnd.1,hnd.2.1,hnd.2.2] at this
    rw [askL] at hG
    rw [hG] at this
    exact this
  have HN:Hid (∀ (w:World) (L:List P9) (v:Value) (N0:Nat) (x:P9),w.ownsRow N0 119 9 v L.length (flat9 b L)→L.map P9.id=G→x.id=((ck:Int),i)→Calls Tryz.prog 87 #[v,.func (.func 88) #[x.agg b] #[]] w fun e w'=>e=.returned (.bool (G.any (eqI ((ck:Int),i))))∧Below w.heap.size w w'):=fun w L v N0 x ho hid hx=>by
    have hl:L.length≤1000000:=by
      have:=congrArg List.length hid
      rw [List.length_map] at this
      omega
    have:=con9_any 88 callIs (x.agg b) (fun y=>(x.c == y.c)&&(x.i == y.i)) N0 b L v w ho hl (fun y _ w2 _=>is_c b x.nm x.ds x.fl x.lo x.st x.sa x.sk x.so x.c x.i y.nm y.ds y.fl y.lo y.st y.sa y.sk y.so y.c y.i w2)
    have e:L.any (fun y=>(x.c == y.c)&&(x.i == y.i))=G.any (eqI ((ck:Int),i)):=by
      rw [← hid,← hx]
      exact any_is (c:=x.id)
    rw [e] at this
    exact this
  have HM:Hid (methI ps a j=some k):=hk
  generalize G.any (eqI ((ck:Int),i))=R at *
  generalize chL (ps.map nd) ck=l at *
  obtain ⟨K,hK⟩:∃ K,l.length=K:=⟨_,rfl⟩
  rw [hK] at HD HG hKb
  clear h hi hm hk hq hG hK hGb
  simp only [P9.agg] at HG HN
  go_enter Tryz.func19,Tryz.ntmps19
  go_upto_region 2 with (go_at_call 85;refine (HR.out _ (by repeat (first|exact Below.refl _ _|refine Below.setCell ?_ (by simp;try omega) _|refine Below.alloc ?_ (by simp;try omega) _|refine Below.drew ?_))).mono ?_;rintro e w1 ⟨⟨xa,xk,xo,ya,yk,yo,rfl⟩,hb⟩;have B1:Hid (Below (W.heap.size+2) ((W.alloc (.cells #[.int .i64 (ck:Int),.int .i64 i] 24)).alloc (.cells #[.int .i64 a,.int .i64 j] 24)) w1):=hb.mono (by simp);have hs1:W.heap.size+2≤w1.heap.size:=(by have:=hb.size;simpa using this);clear hb HR)
  obtain ⟨V,hV⟩:∃ V,V=(w1.alloc (.cells #[.string m.nm,.string m.ds,.int .i64 m.fl,.int .i64 m.lo,.int .i64 m.st,.slice xa xk xo,.int .i64 (ck:Int),.int .i64 i,.pointer (some ⟨b,0,none⟩)] 119)).alloc (.cells #[.string k.nm,.string k.ds,.int .i64 k.fl,.int .i64 k.lo,.int .i64 k.st,.slice ya yk yo,.int .i64 a,.int .i64 j,.pointer (some ⟨b,0,none⟩)] 119):=⟨_,rfl⟩
  have fd:V.heap[w1.heap.size]?=some (.cells #[.string m.nm,.string m.ds,.int .i64 m.fl,.int .i64 m.lo,.int .i64 m.st,.slice xa xk xo,.int .i64 (ck:Int),.int .i64 i,.pointer (some ⟨b,0,none⟩)] 119 (0,0)):=by rw [hV];exact hkeep (halloc1 _ _)
  have hd2:V.heap[w1.heap.size+1]?=some (.cells #[.string k.nm,.string k.ds,.int .i64 k.fl,.int .i64 k.lo,.int .i64 k.st,.slice ya yk yo,.int .i64 a,.int .i64 j,.pointer (some ⟨b,0,none⟩)] 119 (0,0)):=by rw [hV];exact halloc2 _ _ (by simp)
  have BV:Hid (Below (W.heap.size+2) ((W.alloc (.cells #[.int .i64 (ck:Int),.int .i64 i] 24)).alloc (.cells #[.int .i64 a,.int .i64 j] 24)) V):=by rw [hV];exact (B1.out.alloc hs1 _).alloc (by simp;omega) _
  rw [← hV]
  obtain ⟨x0,x1,x2,x3,x4,x5,x6,x7,x8,xL⟩:=row9 fd
  obtain ⟨y0,y1,y2,y3,y4,y5,y6,y7,y8,yL⟩:=row9 hd2
  have HF9:Hid (V.heap[w1.heap.size]?=some (.cells #[.string m.nm,.string m.ds,.int .i64 m.fl,.int .i64 m.lo,.int .i64 m.st,.slice xa xk xo,.int .i64 (ck:Int),.int .i64 i,.pointer (some ⟨b,0,none⟩)] 119 (0,0))):=fd
  have HG9:Hid (V.heap[w1.heap.size+1]?=some (.cells #[.string k.nm,.string k.ds,.int .i64 k.fl,.int .i64 k.lo,.int .i64 k.st,.slice ya yk yo,.int .i64 a,.int .i64 j,.pointer (some ⟨b,0,none⟩)] 119 (0,0))):=hd2
  clear hV hd2 fd
  obtain ⟨ccB,cc0,cc1,ccf,ccL,ccN⟩:=kp2 (n:=W.heap.size) BV.out (by omega) (hkeep (halloc1 _ _))
  have BW:Hid (Below W.heap.size W V):=(((Below.refl _ W).alloc (Nat.le_refl _) _).alloc (by simp) _).trans (BV.out.mono (by omega))
  clear B1
  go_wp2_with (go_at_call 86;refine (HD.out _ BW.out).mono ?_;rintro e w2 ⟨dg,dc,rfl,ho,hb⟩;have D2:Hid (Rds w2 (.slice (some ⟨dg,0,none⟩) K dc) K 1 (l.reverse.map numV)):=own_rds ho;have HF9b:Hid (w2.heap[w1.heap.size]?=some (.cells #[.string m.nm,.string m.ds,.int .i64 m.fl,.int .i64 m.lo,.int .i64 m.st,.slice xa xk xo,.int .i64 (ck:Int),.int .i64 i,.pointer (some ⟨b,0,none⟩)] 119 (0,0))):=(hb.block w1.heap.size (by first|omega|(simp;omega))).trans HF9.out;have HG9b:Hid (w2.heap[w1.heap.size+1]?=some (.cells #[.string k.nm,.string k.ds,.int .i64 k.fl,.int .i64 k.lo,.int .i64 k.st,.slice ya yk yo,.int .i64 a,.int .i64 j,.pointer (some ⟨b,0,none⟩)] 119 (0,0))):=(hb.block (w1.heap.size+1) (by first|omega|(simp;omega))).trans HG9.out;clear x0 x1 x2 x3 x4 x5 x6 x7 x8 xL y0 y1 y2 y3 y4 y5 y6 y7 y8 yL;clear HF9 HG9;have HF9:=HF9b;have HG9:=HG9b;clear HF9b HG9b;obtain ⟨x0,x1,x2,x3,x4,x5,x6,x7,x8,xL⟩:=row9 HF9.out;obtain ⟨y0,y1,y2,y3,y4,y5,y6,y7,y8,yL⟩:=row9 HG9.out;have B2:Hid (Below W.heap.size W w2):=bstep BW.out hb;clear hb ho HD BW)
  go_region_held3 (fun w'=>w'.cell? ⟨w1.heap.size,0,none⟩=some (.string m.nm)∧w'.cell? ⟨w1.heap.size,1,none⟩=some (.string m.ds)∧w'.cell? ⟨w1.heap.size,2,none⟩=some (.int .i64 m.fl)∧w'.cell? ⟨w1.heap.size,3,none⟩=some (.int .i64 m.lo)∧w'.cell? ⟨w1.heap.size,4,none⟩=some (.int .i64 m.st)∧w'.cell? ⟨w1.heap.size,5,none⟩=some (.slice xa xk xo)∧w'.cell? ⟨w1.heap.size,6,none⟩=some (.int .i64 (ck:Int))∧w'.cell? ⟨w1.heap.size,7,none⟩=some (.int .i64 i)∧w'.cell? ⟨w1.heap.size,8,none⟩=some (.pointer (some ⟨b,0,none⟩))∧w'.cell? ⟨w1.heap.size+1,0,none⟩=some (.string k.nm)∧w'.cell? ⟨w1.heap.size+1,1,none⟩=some (.string k.ds)∧w'.cell? ⟨w1.heap.size+1,2,none⟩=some (.int .i64 k.fl)∧w'.cell? ⟨w1.heap.size+1,3,none⟩=some (.int .i64 k.lo)∧w'.cell? ⟨w1.heap.size+1,4,none⟩=some (.int .i64 k.st)∧w'.cell? ⟨w1.heap.size+1,5,none⟩=some (.slice ya yk yo)∧w'.cell? ⟨w1.heap.size+1,6,none⟩=some (.int .i64 a)∧w'.cell? ⟨w1.heap.size+1,7,none⟩=some (.int .i64 j)∧w'.cell? ⟨w1.heap.size+1,8,none⟩=some (.pointer (some ⟨b,0,none⟩))) (go_keep) (first
    | (go_at_call 84;refine (HG.out _ ⟨k.nm,k.ds,k.fl,k.lo,k.st,ya,yk,yo,a,j⟩ (.slice (some ⟨dg,0,none⟩) K dc) B2.out.drew ⟨k,HM.out,rfl,rfl,rfl⟩ rfl rfl (D2.out.keep ((Below.refl _ w2).drew))).mono ?_;rintro e w3 ⟨L,g,cap,rfl,hok,hid,ho,hb⟩;have O3:Hid (w3.ownsRow w2.heap.size 119 9 (.slice (some ⟨g,0,none⟩) L.length cap) L.length (flat9 b L)):=ho;have ID3:Hid (L.map P9.id=G):=hid;have HF9b:Hid (w3.heap[w1.heap.size]?=some (.cells #[.string m.nm,.string m.ds,.int .i64 m.fl,.int .i64 m.lo,.int .i64 m.st,.slice xa xk xo,.int .i64 (ck:Int),.int .i64 i,.pointer (some ⟨b,0,none⟩)] 119 (0,0))):=(hb.block w1.heap.size (by first|omega|(simp;omega))).trans HF9.out;have HG9b:Hid (w3.heap[w1.heap.size+1]?=some (.cells #[.string k.nm,.string k.ds,.int .i64 k.fl,.int .i64 k.lo,.int .i64 k.st,.slice ya yk yo,.int .i64 a,.int .i64 j,.pointer (some ⟨b,0,none⟩)] 119 (0,0))):=(hb.block (w1.heap.size+1) (by first|omega|(simp;omega))).trans HG9.out;clear x0 x1 x2 x3 x4 x5 x6 x7 x8 xL y0 y1 y2 y3 y4 y5 y6 y7 y8 yL;clear HF9 HG9;have HF9:=HF9b;have HG9:=HG9b;clear HF9b HG9b;obtain ⟨x0,x1,x2,x3,x4,x5,x6,x7,x8,xL⟩:=row9 HF9.out;obtain ⟨y0,y1,y2,y3,y4,y5,y6,y7,y8,yL⟩:=row9 HG9.out;have B3:Hid (Below W.heap.size W w3):=bstep B2.out.drew hb;clear hb ho hok hid HG)
    | (go_at_call 87;refine (HN.out _ L (.slice (some ⟨g,0,none⟩) L.length cap) _ ⟨m.nm,m.ds,m.fl,m.lo,m.st,xa,xk,xo,(ck:Int),i⟩ O3.out ID3.out rfl).mono ?_;rintro e w4 ⟨rfl,hb⟩;have HF9b:Hid (w4.heap[w1.heap.size]?=some (.cells #[.string m.nm,.string m.ds,.int .i64 m.fl,.int .i64 m.lo,.int .i64 m.st,.slice xa xk xo,.int .i64 (ck:Int),.int .i64 i,.pointer (some ⟨b,0,none⟩)] 119 (0,0))):=(hb.block w1.heap.size (by first|omega|(simp;omega))).trans HF9.out;have HG9b:Hid (w4.heap[w1.heap.size+1]?=some (.cells #[.string k.nm,.string k.ds,.int .i64 k.fl,.int .i64 k.lo,.int .i64 k.st,.slice ya yk yo,.int .i64 a,.int .i64 j,.pointer (some ⟨b,0,none⟩)] 119 (0,0))):=(hb.block (w1.heap.size+1) (by first|omega|(simp;omega))).trans HG9.out;clear x0 x1 x2 x3 x4 x5 x6 x7 x8 xL y0 y1 y2 y3 y4 y5 y6 y7 y8 yL;clear HF9 HG9;have HF9:=HF9b;have HG9:=HG9b;clear HF9b HG9b;obtain ⟨x0,x1,x2,x3,x4,x5,x6,x7,x8,xL⟩:=row9 HF9.out;obtain ⟨y0,y1,y2,y3,y4,y5,y6,y7,y8,yL⟩:=row9 HG9.out;have B4:Hid (Below W.heap.size W w4):=bstep B3.out hb;clear hb HN))
  all_goals go_wp2
  all_goals exact bodyPost_ret (v:=.tuple #[.bool R,.int .i64 0]) (by simp [results,Tryz.results19,go_sem, *]) rfl ⟨rfl,B4.out⟩
theorem ovr_c {b:Nat} {ps:List Plc} {W:World} (h:WAt b ps W) (hi:WI ps) (c i a j:Int):Calls Tryz.prog 19 #[.pointer (some ⟨b,0,none⟩),.agg #[.int .i64 c,.int .i64 i],.agg #[.int .i64 a,.int .i64 j]] W fun e w'=>e=.returned (.tuple #[.bool (ovrI ps (c,i) (a,j)).1,.int .i64 (ovrI ps (c,i) (a,j)).2])∧Below W.heap.size W w':=by
  cases hm:methI ps c i with
  | none =>
    have e:ovrI ps (c,i) (a,j)=(false,3):=by simp only [ovrI,hm]
    rw [e];exact ovr_no h hi c i a j (.inl hm)
  | some m =>
    cases hk:methI ps a j with
    | none =>
      have e:ovrI ps (c,i) (a,j)=(false,3):=by simp only [ovrI,hm,hk]
      rw [e];exact ovr_no h hi c i a j (.inr hk)
    | some k =>
      obtain ⟨ck,q,rfl,hq,_,_⟩:=meth_plc hm
      have e:ovrI ps ((ck:Int),i) (a,j)=((gthL ps (a,j) (askL ps k (a,j) (chL (ps.map nd) ck).reverse)).any (eqI ((ck:Int),i)),0):=by simp only [ovrI,hm,hk,Int.toNat_natCast]
      rw [e];exact ovr_yes h hi ck q hq i a j m k hm hk
theorem ovr3:ovrI P3 (0,1) (0,1)=(true,0):=by kernel_rfl
theorem awake9_c (W:World):Calls Tryz.prog 15 #[] W fun e w'=>e=.returned (.bool true)∧Below W.heap.size W w':=by
  have HN:Hid (∀ w:World,Calls Tryz.prog 27 #[] w fun e w'=>∃ b,e=.returned (.pointer (some ⟨b,0,none⟩))∧WAt b P3 w'∧Below w.heap.size w w'):=fun w=>(new_any w).mono fun e w' zz=>⟨_,zz.1,by obtain ⟨vp,pv,hw⟩:=zz.2.1;exact hw.wat,zz.2.2⟩
  have HM:Hid (∀ (w:World) (b:Nat),WAt b P3 w→Calls Tryz.prog 19 #[.pointer (some ⟨b,0,none⟩),.agg #[.int .i64 0,.int .i64 1],.agg #[.int .i64 0,.int .i64 1]] w fun e w'=>e=.returned (.tuple #[.bool true,.int .i64 0])∧Below w.heap.size w w'):=fun w b h=>(ovr_c h wi3 0 1 0 1).mono fun e w' zz=>⟨by rw [zz.1,ovr3],zz.2⟩
  have BB:Hid (Below W.heap.size W W):=Below.refl _ _
  go_enter Tryz.func15,Tryz.ntmps15
  go_wp2
  go_region_held3 (fun w'=>w'.cell? ⟨W.heap.size,0,none⟩=some (.int .i64 0)∧w'.cell? ⟨W.heap.size,1,none⟩=some (.int .i64 1)) (go_keep) (first
    | (go_at_call 27;refine (HN.out _).mono ?_;rintro e w1 ⟨b,rfl,hw,hb⟩;have iad:=kp2 (n:=W.heap.size) hb (by first|omega|(simp;try omega)) (halloc1 _ _);(try clear iaB ia0 ia1 iaf iaL iaN);obtain ⟨iaB,ia0,ia1,iaf,iaL,iaN⟩:=iad;have BB2:Below W.heap.size W w1:=bstep (by repeat (first|refine Below.setCell ?_ (by simp;try omega) _|refine Below.alloc ?_ (by have:=BB.out.size;simp;try omega) _|refine Below.drew ?_|exact BB.out)) hb;clear BB;have BB:Hid (Below W.heap.size W w1):=BB2;(try clear HH);have HH:Hid (WAt b P3 w1):=hw;clear hw hb BB2)
    | (go_at_call 19;refine (HM.out _ _ HH.out).mono ?_;rintro e w2 ⟨rfl,hb⟩;have iad:=kp2 (n:=W.heap.size) hb (by first|omega|(simp;try omega)) (iaB.out);(try clear iaB ia0 ia1 iaf iaL iaN);obtain ⟨iaB,ia0,ia1,iaf,iaL,iaN⟩:=iad;have BB2:=bstep BB.out hb;clear BB;have BB:Hid (Below W.heap.size W w2):=BB2;clear hb BB2 HM))
  all_goals go_wp2
  all_goals exact bodyPost_ret (results_tmp rfl _ _ _) rfl ⟨rfl,(by repeat (first|refine Below.setCell ?_ (by simp;try omega) _|refine Below.alloc ?_ (by have:=BB.out.size;simp;try omega) _|refine Below.drew ?_|exact BB.out))⟩
theorem oall_c {b:Nat} {ps:List Plc} {W:World} (h:WAt b ps W) (hi:WI ps) (hU:UnqM ps) (a1 a2:Int):Calls Tryz.prog 18 #[.pointer (some ⟨b,0,none⟩),.agg #[.int .i64 a1,.int .i64 a2]] W fun e w'=>(∃ v,e=.returned (.tuple #[v,.int .i64 (alvE ps (a1,a2)).2])∧w'.ownsRow W.heap.size 24 2 v (alvE ps (a1,a2)).1.length (flatD (alvE ps (a1,a2)).1))∧Below W.heap.size W w':=by
  cases ha:methI ps a1 a2 with
  | none =>
    have e:alvE ps (a1,a2)=([],3):=by simp [alvE,ha]
    rw [e]
    exact (all_no h hi a1 a2 ha).mono fun e w' zz=>⟨⟨_,zz.1,World.ownsRow_nil _ _ _ _⟩,zz.2⟩
  | some ma =>
    have e:alvE ps (a1,a2)=((allK ps ma.nm ma.ds (a1,a2)).map (gK ps ma.nm ma.ds),0):=by simp [alvE,ha]
    rw [e]
    obtain ⟨k,q,rfl,hq,_,_⟩:=meth_plc ha
    exact all_yes h hi k (List.getElem?_eq_some_iff.1 hq).1 a2 ma ha _ (all_canon hi hU (a:=((k:Int),a2)) ha rfl)
set_option maxHeartbeats 64000000 in
theorem osn_1 (ps:List Plc) (W:World) (v:Value) (r a1 a2:Int) (xn xd:ByteArray) (xf xl xs:Int) (A:List (Int×Int)) (n:Nat) (hn:n=0) (HB:Hid (∀ w:World,Below W.heap.size W w→Calls Tryz.prog 16 #[v] w fun e w'=>(∃ b,e=.returned (.pointer (some ⟨b,0,none⟩))∧WAt b ps w')∧Below w.heap.size w w')) (HMt:Hid (∀ b w,WAt b ps w→Calls Tryz.prog 17 #[.pointer (some ⟨b,0,none⟩),.agg #[.int .i64 a1,.int .i64 a2]] w fun e w'=>(∃ sa sk so,e=.returned (.tuple #[.agg #[.string xn,.string xd,.int .i64 xf,.int .i64 xl,.int .i64 xs,.slice sa sk so],.int .i64 3]))∧Below w.heap.size w w')) (HAl:Hid (∀ b w,WAt b ps w→Calls Tryz.prog 18 #[.pointer (some ⟨b,0,none⟩),.agg #[.int .i64 a1,.int .i64 a2]] w fun e w'=>(∃ v,e=.returned (.tuple #[v,.int .i64 3])∧w'.ownsRow w.heap.size 24 2 v n (flatD A))∧Below w.heap.size w w')):Calls Tryz.prog 3 #[v,.int .i64 r,.agg #[.int .i64 a1,.int .i64 a2]] W fun e w'=>e=.returned (.bool true)∧Below W.heap.size W w':=by
  have HA:Hid (∀ w:World,Calls Tryz.prog 15 #[] w fun e w'=>e=.returned (.bool true)∧Below w.heap.size w w'):=awake9_c
  have BB:Hid (Below W.heap.size W W):=Below.refl _ _
  subst hn
  go_enter Tryz.func3,Tryz.ntmps3
  go_wp2_with (first
    | (go_at_call 15;refine (HA.out _).mono ?_;rintro e w1 ⟨rfl,hb⟩;have aad:=kp2 (n:=W.heap.size) hb;(try clear aaB aa0 aa1 aaf aaL aaN);obtain ⟨aaB,aa0,aa1,aaf,aaL,aaN⟩:=aad;have BB2:Below W.heap.size W w1:=bstep (by repeat (first|refine Below.setCell ?_ (by simp;try omega) _|refine Below.alloc ?_ (by have:=BB.out.size;simp;try omega) _|refine Below.drew ?_|exact BB.out)) hb;clear BB;have BB:Hid (Below W.heap.size W w1):=BB2;clear BB2;clear hb HA)
    | (go_at_call 16;refine (HB.out _ BB.out).mono ?_;rintro e w2 ⟨⟨b,rfl,hw⟩,hb⟩;have HH:Hid (WAt b ps w2):=hw;have aad:=kp2 (n:=W.heap.size) hb;(try clear aaB aa0 aa1 aaf aaL aaN);obtain ⟨aaB,aa0,aa1,aaf,aaL,aaN⟩:=aad;have BB2:Below W.heap.size W w2:=bstep (by repeat (first|refine Below.setCell ?_ (by simp;try omega) _|refine Below.alloc ?_ (by have:=BB.out.size;simp;try omega) _|refine Below.drew ?_|exact BB.out)) hb;clear BB;have BB:Hid (Below W.heap.size W w2):=BB2;clear BB2;clear hb HB hw)
    | (go_at_call 17;refine (HMt.out _ _ HH.out).mono ?_;rintro e w3 ⟨⟨sa,sk,so,rfl⟩,hb⟩;have aad:=kp2 (n:=W.heap.size) hb;(try clear aaB aa0 aa1 aaf aaL aaN);obtain ⟨aaB,aa0,aa1,aaf,aaL,aaN⟩:=aad;have BB2:Below W.heap.size W w3:=bstep (by repeat (first|refine Below.setCell ?_ (by simp;try omega) _|refine Below.alloc ?_ (by have:=BB.out.size;simp;try omega) _|refine Below.drew ?_|exact BB.out)) hb;clear BB;have BB:Hid (Below W.heap.size W w3):=BB2;clear BB2;have HH2:=HH.out.below hb;clear HH;have HH:Hid (WAt b ps w3):=HH2;clear HH2;clear hb HMt)
    | (go_at_call 18;refine (HAl.out _ _ (HH.out.below (by repeat (first|refine Below.setCell ?_ (by simp;try omega) _|refine Below.alloc ?_ (by simp;try omega) _|exact Below.refl _ _)))).mono ?_;rintro e w4 ⟨⟨vo,rfl,ho⟩,hb⟩;obtain ⟨x1,x2,rfl⟩:=ownv ho;have OA:Hid (w4.ownsRow w3.heap.size 24 2 (.slice x1 0 x2) 0 (flatD A)):=Go.Joins.ownsRow_le ho (by simp);have aad:=kp2 (n:=W.heap.size) hb;(try clear aaB aa0 aa1 aaf aaL aaN);obtain ⟨aaB,aa0,aa1,aaf,aaL,aaN⟩:=aad;have xxd:=kp6 (n:=w3.heap.size) hb;(try clear xxB xx0 xx1 xx2 xx3 xx4 xx5 xxf xxL xxN);obtain ⟨xxB,xx0,xx1,xx2,xx3,xx4,xx5,xxf,xxL,xxN⟩:=xxd;have BB2:Below W.heap.size W w4:=bstep (by repeat (first|refine Below.setCell ?_ (by simp;try omega) _|refine Below.alloc ?_ (by have:=BB.out.size;simp;try omega) _|refine Below.drew ?_|exact BB.out)) hb;clear BB;have BB:Hid (Below W.heap.size W w4):=BB2;clear BB2;have HH2:=(HH.out.below (by repeat (first|refine Below.setCell ?_ (by simp;try omega) _|refine Below.alloc ?_ (by simp;try omega) _|exact Below.refl _ _))).below hb;clear HH;have HH:Hid (WAt b ps w4):=HH2;clear HH2;clear hb HAl ho))
  all_goals go_ret
  all_goals exact ⟨retB (by simp),BB.out⟩
set_option maxHeartbeats 64000000 in
theorem osn_2 (ps:List Plc) (W:World) (v:Value) (r a1 a2:Int) (xn xd:ByteArray) (xf xl xs:Int) (A:List (Int×Int)) (n:Nat) (HAn:Hid (A.length=n)) (hn:n≤300) (HRI:Hid (∀ (i j:Nat) (x y:Int×Int),i<j→A[i]?=some x→A[j]?=some y→x.1<y.1)) (hpr:(bits .and .i64 xf 2 != 0)=false∨((bits .and .i64 xf 2 != 0)=true∧(bits .and .i64 xf 8 == 0)=false)∨((bits .and .i64 xf 2 != 0)=true∧(bits .and .i64 xf 8 == 0)=true∧n=1∧A[0]?=some (a1,a2))) (HB:Hid (∀ w:World,Below W.heap.size W w→Calls Tryz.prog 16 #[v] w fun e w'=>(∃ b,e=.returned (.pointer (some ⟨b,0,none⟩))∧WAt b ps w')∧Below w.heap.size w w'))
    (HMt:Hid (∀ b w,WAt b ps w→Calls Tryz.prog 17 #[.pointer (some ⟨b,0,none⟩),.agg #[.int .i64 a1,.int .i64 a2]] w fun e w'=>(∃ sa sk so,e=.returned (.tuple #[.agg #[.string xn,.string xd,.int .i64 xf,.int .i64 xl,.int .i64 xs,.slice sa sk so],.int .i64 0]))∧Below w.heap.size w w'))
    (HAl:Hid (∀ b w,WAt b ps w→Calls Tryz.prog 18 #[.pointer (some ⟨b,0,none⟩),.agg #[.int .i64 a1,.int .i64 a2]] w fun e w'=>(∃ v,e=.returned (.tuple #[v,.int .i64 0])∧w'.ownsRow w.heap.size 24 2 v n (flatD A))∧Below w.heap.size w w'))
    (HOv:Hid (∀ x∈A,∀ b w,WAt b ps w→Calls Tryz.prog 19 #[.pointer (some ⟨b,0,none⟩),.agg #[.int .i64 x.1,.int .i64 x.2],.agg #[.int .i64 a1,.int .i64 a2]] w fun e w'=>e=.returned (.tuple #[.bool true,.int .i64 0])∧Below w.heap.size w w'))
    (HC:Hid (∀ b w,WAt b ps w→Calls Tryz.prog 21 #[.pointer (some ⟨b,0,none⟩),.int .i64 r] w fun e w'=>(∃ cv,e=.returned (.tuple #[cv,.int .i64 3]))∧Below w.heap.size w w')) (HFi:Hid (∀ b w,WAt b ps w→Calls Tryz.prog 22 #[.pointer (some ⟨b,0,none⟩),.int .i64 r,.agg #[.int .i64 a1,.int .i64 a2]] w fun e w'=>(e=.returned (.tuple #[.agg #[.int .i64 0,.int .i64 0],.int .i64 3]))∧Below w.heap.size w w')):Calls Tryz.prog 3 #[v,.int .i64 r,.agg #[.int .i64 a1,.int .i64 a2]] W fun e w'=>e=.returned (.bool true)∧Below W.heap.size W w':=by
  have HA:Hid (∀ w:World,Calls Tryz.prog 15 #[] w fun e w'=>e=.returned (.bool true)∧Below w.heap.size w w'):=awake9_c
  have BB:Hid (Below W.heap.size W W):=Below.refl _ _
  have SI:Hid (∀ (a1 a2:Int) (w:World),Calls Tryz.prog 20 #[.agg #[.int .i64 a1,.int .i64 a2],.agg #[.int .i64 a1,.int .i64 a2]] w fun e w'=>e=.returned (.bool true)∧Below w.heap.size w w'):=fun a1 a2 w=>(sameID_c (a1,a2) (a1,a2) w).mono fun e w' zz=>⟨by rw [zz.1];simp,zz.2⟩
  go_enter Tryz.func3,Tryz.ntmps3
  go_wp2_with (first
    | (go_at_call 15;refine (HA.out _).mono ?_;rintro e w1 ⟨rfl,hb⟩;have aad:=kp2 (n:=W.heap.size) hb;(try clear aaB aa0 aa1 aaf aaL aaN);obtain ⟨aaB,aa0,aa1,aaf,aaL,aaN⟩:=aad;have BB2:Below W.heap.size W w1:=bstep (by repeat (first|refine Below.setCell ?_ (by simp;try omega) _|refine Below.alloc ?_ (by have:=BB.out.size;simp;try omega) _|refine Below.drew ?_|exact BB.out)) hb;clear BB;have BB:Hid (Below W.heap.size W w1):=BB2;clear BB2;clear hb HA)
    | (go_at_call 16;refine (HB.out _ BB.out).mono ?_;rintro e w2 ⟨⟨b,rfl,hw⟩,hb⟩;have HH:Hid (WAt b ps w2):=hw;have aad:=kp2 (n:=W.heap.size) hb;(try clear aaB aa0 aa1 aaf aaL aaN);obtain ⟨aaB,aa0,aa1,aaf,aaL,aaN⟩:=aad;have BB2:Below W.heap.size W w2:=bstep (by repeat (first|refine Below.setCell ?_ (by simp;try omega) _|refine Below.alloc ?_ (by have:=BB.out.size;simp;try omega) _|refine Below.drew ?_|exact BB.out)) hb;clear BB;have BB:Hid (Below W.heap.size W w2):=BB2;clear BB2;clear hb HB hw)
    | (go_at_call 17;refine (HMt.out _ _ HH.out).mono ?_;rintro e w3 ⟨⟨sa,sk,so,rfl⟩,hb⟩;have aad:=kp2 (n:=W.heap.size) hb;(try clear aaB aa0 aa1 aaf aaL aaN);obtain ⟨aaB,aa0,aa1,aaf,aaL,aaN⟩:=aad;have BB2:Below W.heap.size W w3:=bstep (by repeat (first|refine Below.setCell ?_ (by simp;try omega) _|refine Below.alloc ?_ (by have:=BB.out.size;simp;try omega) _|refine Below.drew ?_|exact BB.out)) hb;clear BB;have BB:Hid (Below W.heap.size W w3):=BB2;clear BB2;have HH2:=HH.out.below hb;clear HH;have HH:Hid (WAt b ps w3):=HH2;clear HH2;clear hb HMt)
    | (go_at_call 18;refine (HAl.out _ _ (HH.out.below (by repeat (first|refine Below.setCell ?_ (by simp;try omega) _|refine Below.alloc ?_ (by simp;try omega) _|exact Below.refl _ _)))).mono ?_;rintro e w4 ⟨⟨vo,rfl,ho⟩,hb⟩;obtain ⟨x1,x2,rfl⟩:=ownv ho;have OA:Hid (w4.ownsRow w3.heap.size 24 2 (.slice x1 n x2) n (flatD A)):=Go.Joins.ownsRow_le ho (by simp);have aad:=kp2 (n:=W.heap.size) hb;(try clear aaB aa0 aa1 aaf aaL aaN);obtain ⟨aaB,aa0,aa1,aaf,aaL,aaN⟩:=aad;have xxd:=kp6 (n:=w3.heap.size) hb;(try clear xxB xx0 xx1 xx2 xx3 xx4 xx5 xxf xxL xxN);obtain ⟨xxB,xx0,xx1,xx2,xx3,xx4,xx5,xxf,xxL,xxN⟩:=xxd;have BB2:Below W.heap.size W w4:=bstep (by repeat (first|refine Below.setCell ?_ (by simp;try omega) _|refine Below.alloc ?_ (by have:=BB.out.size;simp;try omega) _|refine Below.drew ?_|exact BB.out)) hb;clear BB;have BB:Hid (Below W.heap.size W w4):=BB2;clear BB2;have HH2:=(HH.out.below (by repeat (first|refine Below.setCell ?_ (by simp;try omega) _|refine Below.alloc ?_ (by simp;try omega) _|exact Below.refl _ _))).below hb;clear HH;have HH:Hid (WAt b ps w4):=HH2;clear HH2;clear hb HAl ho))
  have aaW0:Hid (w4.cell? ⟨W.heap.size,0,none⟩=some (.int .i64 a1)):=aa0
  have HW4:Hid (∀ w',Below w4.heap.size w4 w'→WAt b ps w'):=fun w' hb=>HH.out.below hb
  obtain ⟨σ,V,hne,V1,V2⟩:=class_of' (fun w'=>Below w4.heap.size w4 w') ⟨_,Below.refl _ _⟩
  have aV0:∀ s,(V s).cell? ⟨W.heap.size,0,none⟩=some (.int .i64 a1):=fun s=>((V1.out s).cell (p:=⟨W.heap.size,0,none⟩) aaL).trans aa0
  have aV1:∀ s,(V s).cell? ⟨W.heap.size,1,none⟩=some (.int .i64 a2):=fun s=>((V1.out s).cell (p:=⟨W.heap.size,1,none⟩) aaL).trans aa1
  have xV2:∀ s,(V s).cell? ⟨w3.heap.size,2,none⟩=some (.int .i64 xf):=fun s=>((V1.out s).cell (p:=⟨w3.heap.size,2,none⟩) xxL).trans xx2
  go_loopw [12] (fun kv wr=>∃ (k:Nat),kv=.int .i64 k∧k≤n∧Hid (Below w4.heap.size w4 wr)) (fun kv _=>n - (intOf kv).toNat)
  case atStart=>exact ⟨0,rfl,Nat.zero_le _,Below.refl _ _⟩
  case round =>
    obtain ⟨k,rfl,hk,hB⟩:=hrel
    by_cases hlt:k<n
    · have hkI:(k:Int)<(n:Int):=by omega
      obtain ⟨x,hx⟩:∃ x,A[k]?=some x:=⟨_,List.getElem?_eq_getElem (by rw [HAn.out];exact hlt)⟩
      obtain ⟨g,c2,hform⟩:=Go.Joins.ownsRow_form OA.out (by omega)
      have hrow:=OA.out
      rw [hform] at hrow
      obtain ⟨e0,e1,hgl⟩:=rowD_cells (l:=A) (by rw [HAn.out];exact hrow) hx
      injection hform with hca _ hcc
      subst hca hcc
      have hOv:=HOv.out x (List.mem_of_getElem? hx)
      have HPR:Hid (∀ j y,k=j+1→A[j]?=some y→y.1<x.1):=fun j y hj hy=>HRI.out j k y x (by omega) hy hx
      obtain ⟨b1,b2⟩:=x
      simp only at e0 e1
      have tV0:∀ s,(V s).cell? ⟨g,k * 2,none⟩=some (.int .i64 b1):=fun s=>((V1.out s).cell (p:=⟨g,k * 2,none⟩) hgl).trans e0
      have tV1:∀ s,(V s).cell? ⟨g,k * 2+1,none⟩=some (.int .i64 b2):=fun s=>((V1.out s).cell (p:=⟨g,k * 2+1,none⟩) hgl).trans e1
      have HO1:Hid (∀ s,Calls Tryz.prog 19 #[.pointer (some ⟨b,0,none⟩),.agg #[.int .i64 b1,.int .i64 b2],.agg #[.int .i64 a1,.int .i64 a2]] (V s) fun e w''=>e=.returned (.tuple #[.bool true,.int .i64 0])∧∃ s',w''=V s'):=fun s=>(hOv b _ (HW4.out _ (V1.out s))).mono fun e w'' zz=>⟨zz.1,V2.out _ (bstep (V1.out s) zz.2)⟩
      go_wp2
      refine wp_region_class (C:=fun w'=>∃ s,w'=V s) (by kernel_rfl) (by kernel_rfl) (V2.out _ (hB.out.drew)) ?_
      repeat (go_big_quiet_step (first|(go_at_call 19;exact HO1.out _)))
      refine wpQuiet_nil ?_
      intro w9 hw9
      obtain ⟨s9,hw9⟩:=hw9
      have B9:Hid (Below w4.heap.size w4 w9):=by rw [hw9];exact V1.out s9
      clear hw9
      cases k with
      | zero =>
        clear hx hOv hrow HOv HRI HPR
        go_wp2
        refine wp_region_class (C:=fun w'=>∃ s,w'=V s) (by kernel_rfl) (by kernel_rfl) (V2.out _ (B9.out.drew)) ?_
        repeat (go_big_quiet_step (first|fail))
        refine wpQuiet_nil ?_
        intro w10 hw9
        obtain ⟨s9,hw9⟩:=hw9
        have B10:Hid (Below w4.heap.size w4 w10):=by rw [hw9];exact V1.out s9
        clear hw9
        go_wp2
        go_roundw
        case rel=>exact ⟨0+1,by go_num,by omega,B10⟩
        case measure=>simp [intOf];omega
      | succ j =>
        obtain ⟨y,hy⟩:∃ y,A[j]?=some y:=⟨_,List.getElem?_eq_getElem (by rw [HAn.out];omega)⟩
        obtain ⟨y0,_,_⟩:=rowD_cells (l:=A) (by rw [HAn.out];exact hrow) hy
        have hlt2:=HPR.out j y rfl hy
        obtain ⟨d1,d2⟩:=y
        simp only at y0 hlt2
        have uV0:∀ s,(V s).cell? ⟨g,j * 2,none⟩=some (.int .i64 d1):=fun s=>((V1.out s).cell (p:=⟨g,j * 2,none⟩) hgl).trans y0
        have hle:¬ b1≤d1:=by omega
        have hled:decide (b1≤d1)=false:=by simp;omega
        have hjI:(j:Int)<(n:Int):=by omega
        have hj0:(0:Int)<(j:Int)+1:=by omega
        have hsub:((j:Int)+1 - 1)=(j:Int):=by omega
        clear hx hOv hrow HOv HRI HPR hy
        go_wp2
        refine wp_region_class (C:=fun w'=>∃ s,w'=V s) (by kernel_rfl) (by kernel_rfl) (V2.out _ (B9.out.drew)) ?_
        repeat (go_big_quiet_step (first|fail))
        refine wpQuiet_nil ?_
        intro w10 hw9
        obtain ⟨s9,hw9⟩:=hw9
        have B10:Hid (Below w4.heap.size w4 w10):=by rw [hw9];exact V1.out s9
        clear hw9
        go_wp2
        go_roundw
        case rel=>exact ⟨j+1+1,by go_num,by omega,B10⟩
        case measure=>simp [intOf];omega
    · have e:n=k:=by omega
      subst e
      clear HOv HRI
      go_upto_region 16 with (fail)
      have HQ:Hid (∀ (a1 a2:Int) s,Calls Tryz.prog 20 #[.agg #[.int .i64 a1,.int .i64 a2],.agg #[.int .i64 a1,.int .i64 a2]] (V s) fun e w''=>e=.returned (.bool true)∧∃ s',w''=V s'):=fun a1 a2 s=>(SI.out a1 a2 (V s)).mono fun e w'' zz=>⟨zz.1,V2.out _ (bstep (V1.out s) zz.2)⟩
      rcases hpr with h2|⟨h2,h8⟩|⟨h2,h8,hn1,hA1⟩
      case' inr.inr =>
        obtain ⟨g,c2,hform⟩:=Go.Joins.ownsRow_form OA.out (by omega)
        have hrow:=OA.out
        rw [hform] at hrow
        obtain ⟨e0,e1,hgl⟩:=rowD_cells (l:=A) (i:=0) (by rw [HAn.out];exact hrow) hA1
        injection hform with hca _ hcc
        subst hca hcc
        have tV0:∀ s,(V s).cell? ⟨g,0,none⟩=some (.int .i64 a1):=fun s=>((V1.out s).cell (p:=⟨g,0,none⟩) hgl).trans e0
        have tV1:∀ s,(V s).cell? ⟨g,1,none⟩=some (.int .i64 a2):=fun s=>((V1.out s).cell (p:=⟨g,1,none⟩) hgl).trans e1
        have hn1I:(n:Int)=1:=by omega
        have hn1d:((n:Int) == 1)=true:=by simp [hn1]
        have hn0I:(0:Int)<(n:Int):=by omega
        clear hrow hA1 e0 e1 hgl
      all_goals
        refine wp_region_class (C:=fun w'=>∃ s,w'=V s) (by kernel_rfl) (by kernel_rfl) (V2.out _ (hB.out.drew)) ?_
        repeat (go_big_quiet_step (first|(go_at_call 20;exact HQ.out _ _ _)))
        refine wpQuiet_nil ?_
        intro w11 hw9
        obtain ⟨s9,hw9⟩:=hw9
        have B11:Hid (Below w4.heap.size w4 w11):=by rw [hw9];exact V1.out s9
        clear hw9
        have aa0:=(B11.out.cell (p:=⟨W.heap.size,0,none⟩) aaL).trans aa0
        have aa1:=(B11.out.cell (p:=⟨W.heap.size,1,none⟩) aaL).trans aa1
        go_wp2_with (first
          | (go_at_call 21;refine (HC.out _ _ (HW4.out _ B11.out)).mono ?_;rintro e w5 ⟨⟨cv,rfl⟩,hb⟩;have B5:Hid (Below w4.heap.size w4 w5):=bstep B11.out hb;have aa0:=(hb.cell (p:=⟨W.heap.size,0,none⟩) (Nat.lt_of_lt_of_le aaL B11.out.size)).trans aa0;have aa1:=(hb.cell (p:=⟨W.heap.size,1,none⟩) (Nat.lt_of_lt_of_le aaL B11.out.size)).trans aa1;clear hb HC B11)
          | (go_at_call 22;refine (HFi.out _ _ (HW4.out _ B5.out)).mono ?_;rintro e w6 ⟨rfl,hb⟩;have B6:Hid (Below w4.heap.size w4 w6):=bstep B5.out hb;clear hb HFi B5))
        all_goals go_ret
        all_goals exact ⟨retB (by simp),BB.out.trans ((B6.out.alloc B6.out.size _).mono BB.out.size)⟩
end Go.Proofs.YthfifobokpfpkaaGreat
