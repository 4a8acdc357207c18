import Derived.Test.YtmafkabjjibcbaaGreatRfJ
set_option maxHeartbeats 4000000
set_option maxRecDepth 100000
namespace Go.Proofs.YtmafkabjjibcbaaGreat
open Go.RowKit Go.Maps
structure TwW (cs:List Cls) (ps:List Plc):Prop where
 tw:Twin cs ps
 nm:NmW ps
 sp:SpW ps
 wi:WI ps
theorem twW (l:List Cls) (hl:∀ c∈l,ClsW c):TwW (wldC l) (wld l):=⟨twin_all l hl,nmW l hl,spW l hl,Zjy l hl⟩
theorem TwW.super {cs:List Cls} {ps:List Plc} (h:TwW cs ps) {k:Nat} {c:Cls} (hk:cs[k]?=some c) (h0:0<k):nmdI c.su.toList cs 0=((spO (ps.map nd) k:Nat):Int):=by
 obtain ⟨q,hq,hc⟩:=h.tw.at hk
 rw [J0 h.tw h.nm,Lib.toList_data]
 have:=h.sp k q h0 hq
 rw [hc] at this
 have e:(hcOf c).su=c.su:=rfl
 rw [e] at this
 rw [this,lkI,spO,nd_at' hq];rfl
theorem Zam {b:Nat} {cs:List Cls} {ps:List Plc} {W:World} (h:RAt b cs W) (ht:TwW cs ps) (k:Nat) (hk:k<ps.length):Calls Tryz.prog 50 #[.pointer (some ⟨b,0,none⟩),.int .i64 (k:Int)] W fun e w'=>(∃ v,e=.returned (.tuple #[v,.int .i64 0])∧w'.ownsRow W.heap.size 3 1 v (chL (ps.map nd) k).length ((chL (ps.map nd) k).map numV))∧Bw W w':=by
 obtain ⟨i0,hi0,hz0,hz1,hz2⟩:=info_parts Tryz.hinfo3
 have hlen:=ht.tw.len
 have h3:=ht.wi.hi
 have HR:Hid (RAt b cs W):=h
 have HT:Hid (TwW cs ps):=ht
 obtain ⟨L,hL⟩:∃ L,cs.length=L:=⟨_,rfl⟩
 have HL:Hid (cs.length=L):=hL
 have HI:Hid (∀ w,Bw W w→Calls Tryz.prog 68 #[.pointer (some ⟨b,0,none⟩),.int .i64 (k:Int)] w fun e w'=>e=.returned (.bool true)∧w'=w):=fun w hb=>by
  have:=rIn_c (h.below hb) (k:Int)
  rw [Xq,List.getElem?_eq_getElem (by omega)] at this
  exact this
 have HN:Hid (∀ w (c:Cls),Bw W w→Calls Tryz.prog 104 #[.pointer (some ⟨b,0,none⟩),.string c.su] w fun e w'=>e=.returned (.int .i64 (nmdI c.su.toList cs 0))∧w'=w):=fun w c hb=>Zd1 (h.below hb) c.su (by omega)
 have hkL:k<L:=by omega
 have hL3:L≤300:=by omega
 clear h ht hlen h3 hk hL
 go_enter Tryz.func50,Tryz.ntmps50
 go_wp2_with (go_at_call 68;refine (HI.out _ (Below.refl _ _)).mono ?_;rintro e w9 ⟨rfl,hw9⟩;rw [hw9];clear hw9 w9)
 go_loopw [1,6] (fun kv lv wr=>∃ (cur:Nat) (P:List Nat),kv=.int .i64 (cur:Int)∧cur<L∧P.length+cur≤300∧Hid (chL (ps.map nd) k=P++chL (ps.map nd) cur)∧Hid (wr.ownsRow W.heap.size 3 1 lv (P++[cur]).length ((P++[cur]).map numV))∧Hid (Bw W wr)) (fun kv _ _=>(intOf kv).toNat)
 case atStart=>exact ⟨k,[],rfl,hkL,by simp;omega,rfl,Zc8 W _ rfl _ _ _ _ _ (Nat.le_refl _) (by unfold maxLen;omega) rfl,(Below.refl _ _).alloc (Nat.le_refl _) _⟩
 case round =>
  obtain ⟨cur,P,rfl,hcur,hPc,hch,hO,hB⟩:=hrel
  by_cases h0:cur=0
  ·subst h0
   have HE:Hid (chL (ps.map nd) k=P++[0]):=hch.out
   obtain ⟨va,vn,rfl⟩:=ownv hO.out
   clear hch
   go_wp2
   refine bodyPost_ret (results_tmp2 rfl _ _ _) rfl ⟨⟨.slice va (P++[0]).length vn,rfl,?_⟩,hB.out⟩
   rw [HE.out];exact hO.out
  ·have h0I:¬ (cur:Int)=0:=by omega
   obtain ⟨c,hc⟩:∃ c,cs[cur]?=some c:=⟨_,List.getElem?_eq_getElem (by rw [HL.out];exact hcur)⟩
   have hsu:=HT.out.super hc (by omega)
   have hcurp:cur<(ps.map nd).length:=by rw [List.length_map,← HT.out.tw.len,HL.out];exact hcur
   have hsl:=HT.out.wi.wo.spLt hcurp (by omega)
   have hcons:=Yp HT.out.wi.wo hcurp (by omega)
   have HNX:Hid (chL (ps.map nd) k=(P++[cur])++chL (ps.map nd) (spO (ps.map nd) cur)):=by rw [Hid,hch.out,hcons];simp
   obtain ⟨g,cap,vi,vm,b0,hlt,hgl,c0,c1,c2,c3,c4,c5,_,_⟩:=(HR.out.below hB.out).cells hc
   have HN1:Hid (Calls Tryz.prog 104 #[.pointer (some ⟨b,0,none⟩),.string c.su] wr fun e w'=>e=.returned (.int .i64 ((spO (ps.map nd) cur:Nat):Int))∧w'=wr):=by rw [← hsu];exact HN.out wr c hB.out
   rw [HL.out] at b0
   generalize spO (ps.map nd) cur=s at *
   have hcI:(cur:Int)<(L:Int):=by omega
   obtain ⟨va,vn,rfl⟩:=ownv hO.out
   have hPl:(P++[cur]).length=P.length+1:=by simp
   rw [hPl] at hO
   clear hcons hch hsu hc HN HI c0 c2 c3 c4 c5
   go_wp2_with (first
    | (go_at_call 104;refine HN1.out.mono ?_;rintro e w9 ⟨rfl,hw9⟩;rw [hw9];clear hw9 w9 HN1)
    | (at_builtin;refine wpList_append_own _ rfl _ _ 92 rfl W.heap.size 3 i0 (.int .i64 0) 1 8 Tryz.underlying92 hi0 hz0 hz1 hz2 rfl (by decide) (.slice va (P++[cur]).length vn) (P.length+1) ((P++[cur]).map numV) (by first|rfl|(rw [hPl];rfl)) (by rw [hPl];exact hO.out.alloc _) ⟨wr.heap.size,0,none⟩ 1 1 [.int .i64 (s:Int)] rfl rfl ?c1 ?c2 ?c3 ?c4 ?c5 ?_))
   case c1=>intro jj u hj;rw [addr_add];cases jj with
    | zero=>simp at hj;subst hj;simp [go_sem]
    | succ jj=>simp at hj
   case c2=>intro u hu;simp at hu;subst hu;rfl
   case c3=>unfold maxLen;omega
   case c4=>omega
   case c5=>have:=hB.out.size;simp;omega
   intro v' w2 hown hgrow _
   obtain ⟨va2,vn2,rfl⟩:=ownv hown
   have B2:Hid (Bw W w2):=by
    have hb1:Bw W (wr.alloc (.cells #[.int .i64 (s:Int)] 3)):=hB.out.alloc hB.out.size _
    refine hb1.grown hgrow hb1.size (fun x hx=>?_)
    have:=(hO.out.lt x hx).1
    omega
   have O2:Hid (w2.ownsRow W.heap.size 3 1 (.slice va2 (P.length+1+1) vn2) ((P++[cur])++[s]).length (((P++[cur])++[s]).map numV)):=by
    have e:((P++[cur])++[s]).map numV=P.map numV++[numV cur,.int .i64 (s:Int)]:=by simp [numV]
    have e2:((P++[cur])++[s]).length=P.length+1+1:=by simp
    rw [Hid,e,e2];simpa [numV] using hown
   clear hown hgrow
   go_wp2
   go_roundw
   case rel=>exact ⟨s,P++[cur],rfl,by omega,by omega,HNX,O2,B2⟩
   case measure=>simp [intOf];omega
theorem Zj6 {a b:List (List UInt8)} (h:Qe a=Qe b):a=b:=by
 induction a generalizing b with
 | nil=>cases b with
   | nil=>rfl
   | cons y t=>simp [Qe] at h
 | cons x r ih=>cases b with
   | nil=>simp [Qe] at h
   | cons y t =>
     simp only [Qe,List.map_cons,List.cons.injEq,Value.string.injEq,ByteArray.mk.injEq] at h
     have e1:x=y:=by have:=congrArg Array.toList h.1;simpa using this
     rw [e1,ih h.2]
theorem TwW.ifaces {cs:List Cls} {ps:List Plc} (h:TwW cs ps) (hJ:WJ ps) {k:Nat} {c:Cls} (hk:cs[k]?=some c):∃ ks:List Nat,ks.length=c.ifs.length∧(∀ (i:Nat) (p:List UInt8),c.ifs[i]?=some p→∃ j,ks[i]?=some j∧nmdI p cs 0=((j:Nat):Int)∧j<k)∧clO (ps.map nd) k=Yf (ps.map Plc.cl) (spO (ps.map nd) k) ks:=by
 obtain ⟨q,hq,hc⟩:=h.tw.at hk
 obtain ⟨names,ks,h1,_,_,h4,h5,h6,h7⟩:=hJ k q hq
 have e:names=c.ifs:=by
  rw [hc] at h1
  exact (Zj6 h1).symm
 subst e
 refine ⟨ks,h4,fun i p hp=>?_,?_⟩
 ·obtain ⟨j,hj,hl⟩:=h5 i p hp
  exact ⟨j,hj,by rw [J0 h.tw h.nm,hl,lkI],h6 j (List.mem_of_getElem? hj)⟩
 ·have e1:clO (ps.map nd) k=q.cl:=by rw [clO,nd_at' hq];rfl
  have e2:spO (ps.map nd) k=q.sp:=by rw [spO,nd_at' hq];rfl
  rw [e1,e2];exact h7
structure ClL (ps:List Plc) (l:List Nat):Prop where
 up:∀ x∈l,∀ y∈clO (ps.map nd) x,y∈l
 nod:l.Nodup
 lt:∀ x∈l,x<ps.length
theorem ClL.nil (ps:List Plc):ClL ps []:=⟨fun x hx=>by simp at hx,List.nodup_nil,fun x hx=>by simp at hx⟩
theorem ClL.len {ps:List Plc} {l:List Nat} (h:ClL ps l):l.length≤ps.length:=Zt _ _ h.nod h.lt
theorem ClL.take {ps:List Plc} {l:List Nat} (hW:WI ps) (h:ClL ps l) (k:Nat) (hk:k<ps.length):ClL ps (Zn l (clO (ps.map nd) k)):=by
 refine ⟨fun x hx y hy=>?_,Yr _ _ h.nod,fun x hx=>?_⟩
 ·rcases (Yj _ _ _).1 hx with hx|hx
  ·exact (Yj _ _ _).2 (.inl (h.up x hx y hy))
  ·obtain ⟨_,_,p,hp,_,h3⟩:=Yh hW.wo hx
   exact (Yj _ _ _).2 (.inr (h3 y (by rw [clO,hp] at hy;exact hy)))
 ·rcases (Yj _ _ _).1 hx with hx|hx
  ·exact h.lt x hx
  ·have:=(Yh hW.wo hx).1
   omega
theorem Zf3 {ps:List Plc} {l:List Nat} (h:ClL ps l) {k:Nat} (hk:k∈l):gathF (ps.map Plc.cl) l k=l:=by
 rw [gathF,Zeg,Ze4 (h.up k hk)]
 exact Ze4 (fun x hx=>by simp at hx;rw [hx];exact hk)
theorem Zid {ps:List Plc} (hW:WI ps) {l:List Nat} {k:Nat} (hk:¬ k∈l):gathF (ps.map Plc.cl) l k=Zn l (clO (ps.map nd) k)++[k]:=by
 rw [gathF,Zeg]
 have hn:¬ k∈Zn l (clO (ps.map nd) k):=fun hm=>by
  rcases (Yj _ _ _).1 hm with hm|hm
  ·exact hk hm
  ·have:=(Yh hW.wo hm).1
   omega
 have hc:(Zn l (clO (ps.map nd) k)).contains k=false:=by simpa using hn
 rw [Zn,Zn,hc];rfl
theorem ClL.gathF {ps:List Plc} {l:List Nat} (hW:WI ps) (h:ClL ps l) (k:Nat) (hk:k<ps.length):ClL ps (gathF (ps.map Plc.cl) l k):=by
 by_cases hm:k∈l
 ·rw [Zf3 h hm];exact h
 ·rw [Zid hW hm]
  have h1:=h.take hW k hk
  have hn:¬ k∈Zn l (clO (ps.map nd) k):=fun hm2=>by
   rcases (Yj _ _ _).1 hm2 with hm2|hm2
   ·exact hm hm2
   ·have:=(Yh hW.wo hm2).1
    omega
  refine ⟨fun x hx y hy=>?_,?_,fun x hx=>?_⟩
  ·rcases List.mem_append.1 hx with hx|hx
   ·exact List.mem_append_left _ (h1.up x hx y hy)
   ·simp at hx
    subst hx
    exact List.mem_append_left _ ((Yj _ _ _).2 (.inr hy))
  ·refine List.nodup_append.2 ⟨h1.nod,by simp,fun a ha b hb hab=>?_⟩
   simp at hb
   rw [hab,hb] at ha
   exact hn ha
  ·rcases List.mem_append.1 hx with hx|hx
   ·exact h1.lt x hx
   ·simp at hx;omega
theorem Zlm {ps:List Plc} (l:List Nat) (k:Nat) (ks:List Nat) (h:clO (ps.map nd) k=Yf (ps.map Plc.cl) (spO (ps.map nd) k) ks):Zn l (clO (ps.map nd) k)=ks.foldl (gathF (ps.map Plc.cl)) (Zn l (clO (ps.map nd) (spO (ps.map nd) k))):=by
 rw [h,Yf,Zb7,Jc,Zeg];rfl
theorem Zbu {b:Nat} {cs:List Cls} {ps:List Plc} {W:World} (h:RAt b cs W) (ht:TwW cs ps) (hJ:WJ ps):∀ (id:Nat),id<ps.length→∀ (w:World) (v:Value) (l:List Nat),Bw W w→w.ownsRow W.heap.size 3 1 v l.length (l.map numV)→ClL ps l→Calls Tryz.prog 114 #[.pointer (some ⟨b,0,none⟩),.int .i64 (id:Int),v] w fun e w'=>(∃ v',e=.returned v'∧w'.ownsRow W.heap.size 3 1 v' (Zn l (clO (ps.map nd) id)).length ((Zn l (clO (ps.map nd) id)).map numV))∧Bw W w':=by
 intro id
 induction id using Nat.strongRecOn with
 | _ id ih =>
 intro hid w v l hw hrow hcl
 obtain ⟨i0,hi0,hz0,hz1,hz2⟩:=info_parts Tryz.hinfo3
 have hlen:=ht.tw.len
 have h3:=ht.wi.hi
 obtain ⟨c,hc⟩:∃ c,cs[id]?=some c:=⟨_,List.getElem?_eq_getElem (by omega)⟩
 obtain ⟨ks,hk1,hk2,hk3⟩:=ht.ifaces hJ hc
 have hgt:=Zlm (ps:=ps) l id ks hk3
 have HR:Hid (RAt b cs W):=h
 have HTW:Hid (TwW cs ps):=ht
 have HW3:Hid (ps.length≤300):=h3
 have HCC:Hid (cs[id]?=some c):=hc
 have HKS:Hid (∀ (i:Nat) (p:List UInt8),c.ifs[i]?=some p→∃ j,ks[i]?=some j∧nmdI p cs 0=((j:Nat):Int)∧j<id):=hk2
 have HN:Hid (∀ (w':World) (s:ByteArray),Bw W w'→Calls Tryz.prog 104 #[.pointer (some ⟨b,0,none⟩),.string s] w' fun e w''=>e=.returned (.int .i64 (nmdI s.toList cs 0))∧w''=w'):=fun w' s hb=>Zd1 (h.below hb) s (by omega)
 have HIH:Hid (∀ (j:Nat),j<id→∀ (w:World) (v:Value) (l:List Nat),Bw W w→w.ownsRow W.heap.size 3 1 v l.length (l.map numV)→ClL ps l→Calls Tryz.prog 114 #[.pointer (some ⟨b,0,none⟩),.int .i64 (j:Int),v] w fun e w'=>(∃ v',e=.returned v'∧w'.ownsRow W.heap.size 3 1 v' (Zn l (clO (ps.map nd) j)).length ((Zn l (clO (ps.map nd) j)).map numV))∧Bw W w'):=fun j hj=>ih j hj (by omega)
 have HHA:Hid (∀ (v:Value) (l:List Nat) (p:Nat) (w:World),w.ownsRow W.heap.size 3 1 v l.length (l.map numV)→l.length≤1000000→Calls Tryz.prog 140 #[v,.int .i64 (p:Int)] w fun e w'=>e=.returned (.bool (l.contains p))∧Bw w w'):=fun v l p w hr hl=>Zd2 v l p w (Ya hr) hl
 obtain ⟨n,hn⟩:∃ n,c.ifs.length=n:=⟨_,rfl⟩
 have HNI:Hid (c.ifs.length=n):=hn
 have HKL:Hid (ks.length=n):=hk1.trans hn
 obtain ⟨L,hL⟩:∃ L,cs.length=L:=⟨_,rfl⟩
 have HL:Hid (cs.length=L):=hL
 have hidL:id<L:=by omega
 have hidI:(id:Int)<(L:Int):=by omega
 have HCL:Hid (ClL ps l):=hcl
 have HRW:Hid (w.ownsRow W.heap.size 3 1 v l.length (l.map numV)):=hrow
 have HBW:Hid (Bw W w):=hw
 have hnb:n≤1000000:=by
  obtain ⟨q,hq,hqc⟩:=ht.tw.at hc
  have h1:=(ht.wi.pb q (List.mem_of_getElem? hq)).ni
  rw [hqc] at h1
  rw [← hn];exact h1
 obtain ⟨va0,vn0,rfl⟩:=ownv hrow
 by_cases h0:id=0
 ·have hks:ks=[]:=by
   cases hcs:c.ifs with
   | nil=>exact List.length_eq_zero_iff.1 (by rw [hk1,hcs];rfl)
   | cons p r =>
     obtain ⟨j,_,_,hj⟩:=hk2 0 p (by rw [hcs];rfl)
     omega
  have hz:clO (ps.map nd) id=[]:=by
   obtain ⟨n0,h1,_,h2,_⟩:=ht.wi.wo.top
   rw [h0,clO,h1];exact h2
  have HX1:Hid (Zn l (clO (ps.map nd) id)=l):=by rw [Hid,hz];rfl
  have hn0:n=0:=by rw [← HKL.out,hks];rfl
  subst hn0
  subst h0
  obtain ⟨g,cap,vi,vm,b0,hlt0,hgl,c0,c1,c2,c3,c4,c5,hst,_⟩:=(h.below hw).cells hc
  rw [hL] at b0
  obtain ⟨ao,icap,rfl,_,_,_⟩:=hst
  rw [hn] at c2
  have hL0:(0:Int)<(L:Int):=by omega
  clear hlen h3 hc hk1 hk2 hk3 hgt h ht hJ ih hn hL hcl hrow hw hks hz HIH HHA HN HKS c0 c1 c3 c4 c5
  go_enter Tryz.func114,Tryz.ntmps114
  go_wp2
  go_loopw [2,7] (fun lv iv wr=>lv=.slice va0 l.length vn0∧iv=.int .i64 0∧wr=w) (fun _ _ _=>0)
  case atStart=>exact ⟨rfl,rfl,rfl⟩
  case round =>
   obtain ⟨rfl,rfl,rfl⟩:=hrel
   go_wp2
   refine bodyPost_ret (results_tmp rfl _ _ _) rfl ⟨⟨.slice va0 l.length vn0,rfl,?_⟩,HBW.out⟩
   rw [HX1.out];exact HRW.out
 ·obtain ⟨l1,hl1⟩:∃ l1,l1=Zn l (clO (ps.map nd) (spO (ps.map nd) id)):=⟨_,rfl⟩
  have HX1:Hid (ks.foldl (gathF (ps.map Plc.cl)) l1=Zn l (clO (ps.map nd) id)):=by rw [Hid,hl1];exact hgt.symm
  have hidp:id<(ps.map nd).length:=by rw [List.length_map];exact hid
  have hsl:=ht.wi.wo.spLt hidp (by omega)
  have hsu:=ht.super hc (by omega)
  have HCL1:Hid (ClL ps l1):=by rw [Hid,hl1];exact hcl.take ht.wi _ (by omega)
  have HS1:Hid (∀ w',Bw W w'→Calls Tryz.prog 104 #[.pointer (some ⟨b,0,none⟩),.string c.su] w' fun e w''=>e=.returned (.int .i64 ((spO (ps.map nd) id:Nat):Int))∧w''=w'):=fun w' hb=>by rw [← hsu];exact HN.out w' c.su hb
  have HS2:Hid (Calls Tryz.prog 114 #[.pointer (some ⟨b,0,none⟩),.int .i64 ((spO (ps.map nd) id:Nat):Int),.slice va0 l.length vn0] w fun e w'=>(∃ v',e=.returned v'∧w'.ownsRow W.heap.size 3 1 v' l1.length (l1.map numV))∧Bw W w'):=by rw [hl1];exact HIH.out _ hsl w _ l hw hrow hcl
  obtain ⟨g0,cap0,vi0,vm0,b00,hlt00,hgl0,_,c10,_,_,_,_,_,_⟩:=(h.below hw).cells hc
  rw [hL] at b00
  generalize spO (ps.map nd) id=sp at *
  have h0I:¬ (id:Int)=0:=by omega
  clear hlen h3 hc hk1 hk2 hk3 hgt h ht hJ ih hn hL hcl hrow hw hl1 hsu
  go_enter Tryz.func114,Tryz.ntmps114
  go_wp2_with (first
   | (go_at_call 104;refine (HS1.out _ HBW.out).mono ?_;rintro e w9 ⟨rfl,hw9⟩;rw [hw9];clear hw9 w9 HS1)
   | (go_at_call 114;refine HS2.out.mono ?_;rintro e w1 ⟨⟨v1,rfl,ho⟩,hb⟩;obtain ⟨va1,vn1,rfl⟩:=ownv ho;have O1:Hid (w1.ownsRow W.heap.size 3 1 (.slice va1 l1.length vn1) l1.length (l1.map numV)):=ho;have B1:Hid (Bw W w1):=hb;clear hb ho HS2))
  go_loopw [2,7] (fun lv iv wr=>∃ (i:Nat),iv=.int .i64 (i:Int)∧i≤n∧Hid (wr.ownsRow W.heap.size 3 1 lv ((ks.take i).foldl (gathF (ps.map Plc.cl)) l1).length (((ks.take i).foldl (gathF (ps.map Plc.cl)) l1).map numV))∧Hid (ClL ps ((ks.take i).foldl (gathF (ps.map Plc.cl)) l1))∧Hid (Bw W wr)) (fun _ iv _=>n - (intOf iv).toNat)
  case atStart=>exact ⟨0,rfl,Nat.zero_le _,O1,HCL1,B1⟩
  case round =>
   obtain ⟨i,rfl,hi,hO,hC,hB⟩:=hrel
   obtain ⟨g,cap,vi,vm,b0,hlt0,hgl,c0,c1,c2,c3,c4,c5,hst,_⟩:=(HR.out.below hB.out).cells HCC.out
   rw [HL.out] at b0
   obtain ⟨ao,icap,rfl,hq1,hq2,hq3⟩:=hst
   rw [HNI.out] at c2 hq1
   have HQ3:Hid _:=hq3
   clear c0 c1 c3 c4 c5 hq3
   by_cases hlt:i<n
   ·have hltI:(i:Int)<(n:Int):=by omega
    obtain ⟨p,hp⟩:∃ p,c.ifs[i]?=some p:=⟨_,List.getElem?_eq_getElem (by rw [HNI.out];exact hlt)⟩
    obtain ⟨k,hk,hkn,hkl⟩:=HKS.out i p hp
    obtain ⟨bk,o,rfl,hbk,hcs⟩:=HQ3.out (fun e=>by rw [e] at hp;simp at hp)
    have hce:=hcs i p hp
    have hfold:(ks.take (i+1)).foldl (gathF (ps.map Plc.cl)) l1=gathF (ps.map Plc.cl) ((ks.take i).foldl (gathF (ps.map Plc.cl)) l1) k:=by
     rw [List.take_add_one,hk,List.foldl_append];rfl
    have HN1:Hid (Calls Tryz.prog 104 #[.pointer (some ⟨b,0,none⟩),.string ⟨p.toArray⟩] wr fun e w''=>e=.returned (.int .i64 (k:Int))∧w''=wr):=by
     have:=HN.out wr ⟨p.toArray⟩ hB.out
     rw [show (ByteArray.mk p.toArray).toList=p from by rw [Lib.toList_data],hkn] at this
     exact this
    obtain ⟨Lc,hLc⟩:∃ Lc,(ks.take i).foldl (gathF (ps.map Plc.cl)) l1=Lc:=⟨_,rfl⟩
    rw [hLc] at hO hC hfold
    have HFO:Hid _:=hfold
    have hLb:Lc.length≤300:=Nat.le_trans hC.out.len HW3.out
    have HA1:Hid (∀ (v:Value),wr.ownsRow W.heap.size 3 1 v Lc.length (Lc.map numV)→Calls Tryz.prog 140 #[v,.int .i64 (k:Int)] wr fun e w'=>e=.returned (.bool (Lc.contains k))∧Bw wr w'):=fun v hr=>HHA.out v Lc k wr hr (by omega)
    have HG1:Hid (∀ (w:World) (v:Value),Bw W w→w.ownsRow W.heap.size 3 1 v Lc.length (Lc.map numV)→Calls Tryz.prog 114 #[.pointer (some ⟨b,0,none⟩),.int .i64 (k:Int),v] w fun e w'=>(∃ v',e=.returned v'∧w'.ownsRow W.heap.size 3 1 v' (Zn Lc (clO (ps.map nd) k)).length ((Zn Lc (clO (ps.map nd) k)).map numV))∧Bw W w'):=fun w v hb hr=>HIH.out k hkl w v Lc hb hr hC.out
    have HCN:Hid (ClL ps (gathF (ps.map Plc.cl) Lc k)):=hC.out.gathF HTW.out.wi k (by omega)
    have HG2:Hid (Lc.contains k=true→gathF (ps.map Plc.cl) Lc k=Lc):=fun he=>Zf3 hC.out (by simpa using he)
    have HG3:Hid (Lc.contains k=false→gathF (ps.map Plc.cl) Lc k=Zn Lc (clO (ps.map nd) k)++[k]∧(Zn Lc (clO (ps.map nd) k)).length≤300):=fun he=>⟨Zid HTW.out.wi (by simpa using he),Nat.le_trans (hC.out.take HTW.out.wi k (by omega)).len HW3.out⟩
    obtain ⟨va,vn,rfl⟩:=ownv hO.out
    clear hcs hp hk hkn hfold hLc HX1 HN HIH HHA HQ3
    cases hz:Lc.contains k with
    | true =>
      rw [hz] at HA1
      have he:=HG2.out hz
      rw [he] at HFO HCN
      clear HG1 HG2 HG3 hz he
      go_wp2_with (first
       | (go_at_call 104;refine HN1.out.mono ?_;rintro e w9 ⟨rfl,hw9⟩;rw [hw9];clear hw9 w9 HN1)
       | (go_at_call 140;refine (HA1.out _ hO.out).mono ?_;rintro e w2 ⟨rfl,hb⟩;have O2:Hid (w2.ownsRow W.heap.size 3 1 (.slice va Lc.length vn) Lc.length (Lc.map numV)):=Zd hO.out hb;have B2:Hid (Bw W w2):=Zb hB.out hb;clear hb HA1))
      go_roundw
      case rel=>exact ⟨i+1,by go_num,by omega,by rw [HFO.out];exact O2,by rw [HFO.out];exact HCN,B2⟩
      case measure=>simp [intOf];omega
    | false =>
      rw [hz] at HA1
      obtain ⟨he,hlb⟩:=HG3.out hz
      rw [he] at HFO HCN
      generalize Zn Lc (clO (ps.map nd) k)=T at *
      clear HG2 HG3 hz he
      go_wp2_with (first
       | (go_at_call 104;refine HN1.out.mono ?_;rintro e w9 ⟨rfl,hw9⟩;rw [hw9];clear hw9 w9 HN1)
       | (go_at_call 140;refine (HA1.out _ hO.out).mono ?_;rintro e w2 ⟨rfl,hb⟩;have O2:Hid (w2.ownsRow W.heap.size 3 1 (.slice va Lc.length vn) Lc.length (Lc.map numV)):=Zd hO.out hb;have B2:Hid (Bw W w2):=Zb hB.out hb;clear hb HA1)
       | (go_at_call 114;refine (HG1.out _ _ B2.out O2.out).mono ?_;rintro e w3 ⟨⟨v3,rfl,ho⟩,hb⟩;obtain ⟨va3,vn3,rfl⟩:=ownv ho;have O3:Hid (w3.ownsRow W.heap.size 3 1 (.slice va3 T.length vn3) T.length (T.map numV)):=ho;have B3:Hid (Bw W w3):=hb;clear hb ho HG1)
       | (at_builtin;refine wpList_append_own _ rfl _ _ 92 rfl W.heap.size 3 i0 (.int .i64 0) 1 8 Tryz.underlying92 hi0 hz0 hz1 hz2 rfl (by decide) (.slice va3 T.length vn3) T.length (T.map numV) rfl (O3.out.alloc _) ⟨w3.heap.size,0,none⟩ 1 1 [.int .i64 (k:Int)] rfl rfl ?c1 ?c2 ?c3 ?c4 ?c5 ?_))
      case c1=>intro jj u hj;rw [addr_add];cases jj with
       | zero=>simp at hj;subst hj;simp [go_sem]
       | succ jj=>simp at hj
      case c2=>intro u hu;simp at hu;subst hu;rfl
      case c3=>unfold maxLen;omega
      case c4=>omega
      case c5=>have:=B3.out.size;simp;omega
      intro v' w4 hown hgrow _
      obtain ⟨va4,vn4,rfl⟩:=ownv hown
      have B4:Hid (Bw W w4):=by
       have hb1:Bw W (w3.alloc (.cells #[.int .i64 (k:Int)] 3)):=B3.out.alloc B3.out.size _
       refine hb1.grown hgrow hb1.size (fun x hx=>?_)
       have:=(O3.out.lt x hx).1
       omega
      have O4:Hid (w4.ownsRow W.heap.size 3 1 (.slice va4 (T.length+1) vn4) (T++[k]).length ((T++[k]).map numV)):=by
       rw [Hid,List.length_append,List.map_append];exact hown
      clear hown hgrow
      go_wp2
      go_roundw
      case rel=>exact ⟨i+1,by go_num,by omega,by rw [HFO.out];exact O4,by rw [HFO.out];exact HCN,B4⟩
      case measure=>simp [intOf];omega
   ·have e:i=n:=by omega
    have HT:Hid ((ks.take i).foldl (gathF (ps.map Plc.cl)) l1=Zn l (clO (ps.map nd) id)):=by
     rw [Hid,e,← HKL.out,List.take_of_length_le (Nat.le_refl _)]
     exact HX1.out
    rw [HT.out] at hO
    subst e
    obtain ⟨va,vn,rfl⟩:=ownv hO.out
    clear HT HX1
    go_wp2
    refine bodyPost_ret (results_tmp rfl _ _ _) rfl ⟨⟨_,rfl,?_⟩,hB.out⟩
    exact hO.out
theorem Zbt {b:Nat} {cs:List Cls} {ps:List Plc} {W:World} (h:RAt b cs W) (ht:TwW cs ps) (i:Int):Calls Tryz.prog 68 #[.pointer (some ⟨b,0,none⟩),.int .i64 i] W fun e w'=>e=.returned (.bool (plcI ps i).isSome)∧w'=W:=by
 have:=rIn_c h i
 rcases ht.tw.clsI i with ⟨h1,h2⟩|⟨k,c,q,rfl,_,_,_,h1,h2⟩
 ·rw [h1] at this;rw [h2];exact this
 ·rw [h1] at this;rw [h2];exact this
theorem Zcy {b:Nat} {cs:List Cls} {ps:List Plc} {W:World} (h:RAt b cs W) (ht:TwW cs ps) (hJ:WJ ps) (x y:Int):Calls Tryz.prog 84 #[.pointer (some ⟨b,0,none⟩),.int .i64 x,.int .i64 y] W fun e w'=>e=.returned (.bool (extI ps x y))∧Bw W w':=by
 have HI:Hid (∀ i z w,Bw W w→(plcI ps i).isSome=z→Calls Tryz.prog 68 #[.pointer (some ⟨b,0,none⟩),.int .i64 i] w fun e w'=>e=.returned (.bool z)∧w'=w):=fun i z w hb hz=>by rw [← hz];exact Zbt (h.below hb) ht i
 rcases Zl ps x with ⟨h1,_⟩|⟨k,p,rfl,h2,h1⟩
 ·have e:extI ps x y=false:=by rw [extI,h1];rfl
  rw [e]
  have HX:Hid (∀ i w,Bw W w→i=x→Calls Tryz.prog 68 #[.pointer (some ⟨b,0,none⟩),.int .i64 i] w fun e w'=>e=.returned (.bool false)∧w'=w):=fun i w hb hi=>by rw [hi];exact HI.out x false w hb (by rw [h1];rfl)
  clear h ht hJ HI h1 e
  go_enter Tryz.func84,Tryz.ntmps84
  go_wp2_with (go_at_call 68;refine (HX.out _ _ (Below.refl _ _) (by rfl)).mono ?_;rintro e w9 ⟨rfl,hw9⟩;rw [hw9];clear hw9 w9)
  exact bodyPost_ret (results_tmp rfl _ _ _) rfl ⟨rfl,Below.refl _ _⟩
 ·have HX:Hid (∀ i w,Bw W w→i=(k:Int)→Calls Tryz.prog 68 #[.pointer (some ⟨b,0,none⟩),.int .i64 i] w fun e w'=>e=.returned (.bool true)∧w'=w):=fun i w hb hi=>by rw [hi];exact HI.out k true w hb (by rw [h1];rfl)
  rcases Zl ps y with ⟨g1,_⟩|⟨j,q,rfl,g2,g1⟩
  ·have e:extI ps k y=false:=by rw [extI,h1,g1];rfl
   rw [e]
   have HY:Hid (∀ i w,Bw W w→i=y→Calls Tryz.prog 68 #[.pointer (some ⟨b,0,none⟩),.int .i64 i] w fun e w'=>e=.returned (.bool false)∧w'=w):=fun i w hb hi=>by rw [hi];exact HI.out y false w hb (by rw [g1];rfl)
   clear h ht hJ HI h1 g1 e
   go_enter Tryz.func84,Tryz.ntmps84
   go_wp2_with (first
    | (go_at_call 68;refine (HX.out _ _ (Below.refl _ _) (by rfl)).mono ?_;rintro e w9 ⟨rfl,hw9⟩;rw [hw9];clear hw9 w9)
    | (go_at_call 68;refine (HY.out _ _ (Below.refl _ _) (by rfl)).mono ?_;rintro e w9 ⟨rfl,hw9⟩;rw [hw9];clear hw9 w9))
   exact bodyPost_ret (results_tmp rfl _ _ _) rfl ⟨rfl,Below.refl _ _⟩
  ·have hkl:=(List.getElem?_eq_some_iff.1 h2).1
   have e:extI ps k j=((chL (ps.map nd) k).contains j||(clO (ps.map nd) k).contains j):=by rw [extI,h1,g1];rfl
   rw [e]
   have HY:Hid (∀ i w,Bw W w→i=(j:Int)→Calls Tryz.prog 68 #[.pointer (some ⟨b,0,none⟩),.int .i64 i] w fun e w'=>e=.returned (.bool true)∧w'=w):=fun i w hb hi=>by rw [hi];exact HI.out j true w hb (by rw [g1];rfl)
   have HC:Hid (Calls Tryz.prog 50 #[.pointer (some ⟨b,0,none⟩),.int .i64 (k:Int)] W fun e w'=>(∃ v,e=.returned (.tuple #[v,.int .i64 0])∧w'.ownsRow W.heap.size 3 1 v (chL (ps.map nd) k).length ((chL (ps.map nd) k).map numV))∧Bw W w'):=Zam h ht k hkl
   have hcb:(chL (ps.map nd) k).length≤1000000:=by
    have hkn:k<(ps.map nd).length:=by rw [List.length_map];exact hkl
    have:=Zt (k+1) _ (ch_nodup ht.wi.wo k hkn) (fun i hi=>Nat.lt_succ_of_le (Zjq ht.wi.wo k hkn i hi))
    have:=ht.wi.hi
    omega
   have hclb:(clO (ps.map nd) k).length≤1000000:=by
    have:=Zt k _ (J7 ht.wi.wo k) (fun i hi=>(Yh ht.wi.wo hi).1)
    have:=ht.wi.hi
    omega
   have HG:Hid (∀ w,Bw W w→Calls Tryz.prog 114 #[.pointer (some ⟨b,0,none⟩),.int .i64 (k:Int),.slice none 0 0] w fun e w'=>(∃ v',e=.returned v'∧w'.ownsRow W.heap.size 3 1 v' (clO (ps.map nd) k).length ((clO (ps.map nd) k).map numV))∧Bw W w'):=fun w hb=>by
    have:=Zbu h ht hJ k hkl w (.slice none 0 0) [] hb (World.ownsRow_nil _ _ _ _) (ClL.nil ps)
    rw [Zhm _ (J7 ht.wi.wo k)] at this
    exact this
   have HH1:Hid (∀ (v:Value) (w:World),w.ownsRow W.heap.size 3 1 v (chL (ps.map nd) k).length ((chL (ps.map nd) k).map numV)→Calls Tryz.prog 140 #[v,.int .i64 (j:Int)] w fun e w'=>e=.returned (.bool ((chL (ps.map nd) k).contains j))∧Bw w w'):=fun v w hr=>Zd2 v _ j w (Ya hr) hcb
   have HH2:Hid (∀ (v:Value) (w:World),w.ownsRow W.heap.size 3 1 v (clO (ps.map nd) k).length ((clO (ps.map nd) k).map numV)→Calls Tryz.prog 140 #[v,.int .i64 (j:Int)] w fun e w'=>e=.returned (.bool ((clO (ps.map nd) k).contains j))∧Bw w w'):=fun v w hr=>Zd2 v _ j w (Ya hr) hclb
   generalize (chL (ps.map nd) k).contains j=z1 at *
   generalize (clO (ps.map nd) k).contains j=z2 at *
   generalize chL (ps.map nd) k=C at *
   generalize clO (ps.map nd) k=G at *
   clear h ht hJ HI h1 h2 g1 g2 e hcb hclb hkl
   cases z1
   all_goals
    go_enter Tryz.func84,Tryz.ntmps84
    go_wp2_with (first
     | (go_at_call 68;refine (HX.out _ _ (Below.refl _ _) (by rfl)).mono ?_;rintro e w9 ⟨rfl,hw9⟩;rw [hw9];clear hw9 w9)
     | (go_at_call 68;refine (HY.out _ _ (Below.refl _ _) (by rfl)).mono ?_;rintro e w9 ⟨rfl,hw9⟩;rw [hw9];clear hw9 w9)
     | (go_at_call 50;refine HC.out.mono ?_;rintro e w1 ⟨⟨v1,rfl,ho⟩,hb⟩;obtain ⟨va1,vn1,rfl⟩:=ownv ho;have O1:Hid (w1.ownsRow W.heap.size 3 1 (.slice va1 C.length vn1) C.length (C.map numV)):=ho;have B1:Hid (Bw W w1):=hb;clear hb ho HC)
     | (go_at_call 140;refine (HH1.out _ _ O1.out).mono ?_;rintro e w2 ⟨rfl,hb⟩;have B2:Hid (Bw W w2):=Zb B1.out hb;clear hb HH1 O1)
     | (go_at_call 114;refine (HG.out _ B2.out).mono ?_;rintro e w3 ⟨⟨v3,rfl,ho⟩,hb⟩;obtain ⟨va3,vn3,rfl⟩:=ownv ho;have O3:Hid (w3.ownsRow W.heap.size 3 1 (.slice va3 G.length vn3) G.length (G.map numV)):=ho;have B3:Hid (Bw W w3):=hb;clear hb ho HG)
     | (go_at_call 140;refine (HH2.out _ _ O3.out).mono ?_;rintro e w4 ⟨rfl,hb⟩;have B4:Hid (Bw W w4):=Zb B3.out hb;clear hb HH2 O3))
    first
     | exact bodyPost_ret (results_tmp rfl _ _ _) rfl ⟨rfl,B4.out⟩
     | exact bodyPost_ret (results_tmp rfl _ _ _) rfl ⟨rfl,B2.out⟩
theorem Zlz (nm ds:ByteArray):∀ (l:List Mth) (k:Nat),Yk nm ds l k=Z8 nm ds (l.map hmOf) k
 | [],_=>rfl
 | m::r,k=>by
   rw [Yk,List.map_cons,Z8,Zlz nm ds r (k+1)]
   rfl
theorem Zgy {b:Nat} {cs:List Cls} {ps:List Plc} {W:World} (h:RAt b cs W) (ht:TwW cs ps) (x:Int) (nm ds:ByteArray):Calls Tryz.prog 86 #[.pointer (some ⟨b,0,none⟩),.int .i64 x,.string nm,.string ds] W fun e w'=>e=.returned (.tuple #[.int .i64 (fndI ps x nm ds).1,.int .i64 (fndI ps x nm ds).2])∧Bw W w':=by
 have HI:Hid (Calls Tryz.prog 68 #[.pointer (some ⟨b,0,none⟩),.int .i64 x] W fun e w'=>e=.returned (.bool (plcI ps x).isSome)∧w'=W):=Zbt h ht x
 rcases ht.tw.clsI x with ⟨h1,h2⟩|⟨k,c,q,rfl,hc,hq,hcq,h1,h2⟩
 ·have e:fndI ps x nm ds=(0,3):=by rw [fndI,h2]
  rw [e]
  rw [h2] at HI
  clear h ht h1 h2 e
  go_enter Tryz.func86,Tryz.ntmps86
  go_wp2_with (go_at_call 68;refine HI.out.mono ?_;rintro e w9 ⟨rfl,hw9⟩;rw [hw9];clear hw9 w9)
  exact bodyPost_ret (results_tmp2 rfl _ _ _) rfl ⟨rfl,Below.refl _ _⟩
 ·have e:fndI ps k nm ds=if Yk nm ds c.ms 0<0 then (0,6) else (Yk nm ds c.ms 0,0):=by
   rw [fndI,h2]
   simp only
   have:q.c.ms=c.ms.map hmOf:=by rw [hcq];rfl
   rw [this,← Zlz]
  rw [e]
  rw [h2] at HI
  simp only [Option.isSome_some] at HI
  obtain ⟨g,cap,vi,vm,b0,hlt,hgl,c0,c1,c2,c3,c4,c5,hIs,hMs⟩:=RAt.cells h hc
  obtain ⟨ai,ci,rfl⟩:=Qv hIs
  have HF:Hid (∀ cn cu cf cl,Calls Tryz.prog 141 #[.agg #[.string cn,.string cu,.slice ai c.ifs.length ci,.int .i64 cf,.int .i64 cl,vm],.string nm,.string ds] W fun e w'=>e=.returned (.int .i64 (Yk nm ds c.ms 0))∧Bw W w'):=fun cn cu cf cl=>Zfi cn cu _ cf cl vm c.ms nm ds W hMs
  obtain ⟨am,cm,rfl⟩:=Xy hMs
  have hkI:(k:Int)<(cs.length:Int):=by have:=(List.getElem?_eq_some_iff.1 hc).1;omega
  generalize Yk nm ds c.ms 0=F at *
  clear h ht h1 h2 e hc hq hcq hIs hMs
  by_cases hF:F<0
  ·rw [if_pos hF]
   go_enter Tryz.func86,Tryz.ntmps86
   go_wp2_with (first
    | (go_at_call 68;refine HI.out.mono ?_;rintro e w9 ⟨rfl,hw9⟩;rw [hw9];clear hw9 w9)
    | (go_at_call 141;refine (HF.out _ _ _ _).mono ?_;rintro e w1 ⟨rfl,hb⟩;have B1:Hid (Bw W w1):=hb;clear hb HF))
   exact bodyPost_ret (results_tmp2 rfl _ _ _) rfl ⟨rfl,B1.out⟩
  ·rw [if_neg hF]
   have hF2:0≤F:=by omega
   go_enter Tryz.func86,Tryz.ntmps86
   go_wp2_with (first
    | (go_at_call 68;refine HI.out.mono ?_;rintro e w9 ⟨rfl,hw9⟩;rw [hw9];clear hw9 w9)
    | (go_at_call 141;refine (HF.out _ _ _ _).mono ?_;rintro e w1 ⟨rfl,hb⟩;have B1:Hid (Bw W w1):=hb;clear hb HF))
   exact bodyPost_ret (results_tmp2 rfl _ _ _) rfl ⟨rfl,B1.out⟩
theorem Za1 {b:Nat} {cs:List Cls} {ps:List Plc} {W:World} (h:RAt b cs W) (ht:TwW cs ps) (hJ:WJ ps) (k:Nat) (q:Plc) (hq:ps[k]?=some q):Calls Tryz.prog 51 #[.pointer (some ⟨b,0,none⟩),.int .i64 (k:Int)] W fun e w'=>(∃ v,e=.returned (.tuple #[v,.int .i64 0])∧w'.ownsRow W.heap.size 3 1 v q.cl.length (q.cl.map numV))∧Bw W w':=by
 have hkl:=(List.getElem?_eq_some_iff.1 hq).1
 have hcl:clO (ps.map nd) k=q.cl:=by rw [clO,nd_at' hq];rfl
 have HI:Hid (Calls Tryz.prog 68 #[.pointer (some ⟨b,0,none⟩),.int .i64 (k:Int)] W fun e w'=>e=.returned (.bool true)∧w'=W):=(Zbt h ht k).mono fun e w' zz=>⟨by rw [zz.1,Z5,hq];rfl,zz.2⟩
 have HG:Hid (∀ w,Bw W w→Calls Tryz.prog 114 #[.pointer (some ⟨b,0,none⟩),.int .i64 (k:Int),.slice none 0 0] w fun e w'=>(∃ v',e=.returned v'∧w'.ownsRow W.heap.size 3 1 v' q.cl.length (q.cl.map numV))∧Bw W w'):=fun w hb=>by
  have:=Zbu h ht hJ k hkl w (.slice none 0 0) [] hb (World.ownsRow_nil _ _ _ _) (ClL.nil ps)
  rw [Zhm _ (J7 ht.wi.wo k),hcl] at this
  exact this
 generalize q.cl.length=n at *
 generalize q.cl.map numV=xs at *
 clear h ht hJ hq hkl hcl
 go_enter Tryz.func51,Tryz.ntmps51
 go_wp2_with (first
  | (go_at_call 68;refine HI.out.mono ?_;rintro e w9 ⟨rfl,hw9⟩;rw [hw9];clear hw9 w9)
  | (go_at_call 114;refine (HG.out _ (Below.refl _ _)).mono ?_;rintro e w1 ⟨⟨v,rfl,ho⟩,hb⟩;obtain ⟨a1,c1,rfl⟩:=ownv ho;have O1:Hid (w1.ownsRow W.heap.size 3 1 (.slice a1 n c1) n xs):=ho;have B1:Hid (Bw W w1):=hb;clear ho hb HG))
 exact bodyPost_ret (results_tmp2 rfl _ _ _) rfl ⟨⟨_,rfl,O1.out⟩,B1.out⟩
theorem Zbv {b:Nat} {cs:List Cls} {ps:List Plc} {W:World} (h:RAt b cs W) (ht:TwW cs ps) (x:Int) (hx:plcI ps x=none):Calls Tryz.prog 51 #[.pointer (some ⟨b,0,none⟩),.int .i64 x] W fun e w'=>e=.returned (.tuple #[.slice none 0 0,.int .i64 3])∧Bw W w':=by
 have HI:Hid (Calls Tryz.prog 68 #[.pointer (some ⟨b,0,none⟩),.int .i64 x] W fun e w'=>e=.returned (.bool false)∧w'=W):=(Zbt h ht x).mono fun e w' zz=>⟨by rw [zz.1,hx];rfl,zz.2⟩
 clear h ht hx
 go_enter Tryz.func51,Tryz.ntmps51
 go_wp2_with (go_at_call 68;refine HI.out.mono ?_;rintro e w9 ⟨rfl,hw9⟩;rw [hw9];clear hw9 w9)
 exact bodyPost_ret (results_tmp2 rfl _ _ _) rfl ⟨rfl,Below.refl _ _⟩
theorem fnd_meth {ps:List Plc} {c:Int} {nm ds:ByteArray} (h:(fndI ps c nm ds).2=0):∃ x,Zm ps c (fndI ps c nm ds).1=some x:=by
 rcases Zl ps c with ⟨h1,h2⟩|⟨k,q,rfl,h2,h1⟩
 ·rw [fndI,h1] at h;exact absurd h (by show ¬ (3:Int)=0;decide)
 ·have e:fndI ps k nm ds=if Z8 nm ds q.c.ms 0<0 then (0,6) else (Z8 nm ds q.c.ms 0,0):=by rw [fndI,h1]
  rw [e] at h ⊢
  rcases Qb nm ds q.c.ms 0 with e2|⟨j,x,e2,hj,hn,hd⟩
  ·rw [e2,if_pos (by decide)] at h;exact absurd h (by decide)
  ·rw [e2,if_neg (by omega)]
   refine ⟨x,?_⟩
   rw [Zm,h1]
   show Y2 q ((0+j:Nat):Int)=some x
   rw [Y2,if_pos (Int.natCast_nonneg _)]
   simpa using hj
theorem has10 (f:Int):hasI f 10=(hasI f 2||hasI f 8):=by
 have e10:bits .and .i64 f 10=IntKind.wrap .i64 (((BitVec.ofInt 64 f).toNat &&& 10:Nat):Int):=rfl
 have e2:bits .and .i64 f 2=IntKind.wrap .i64 (((BitVec.ofInt 64 f).toNat &&& 2:Nat):Int):=rfl
 have e8:bits .and .i64 f 8=IntKind.wrap .i64 (((BitVec.ofInt 64 f).toNat &&& 8:Nat):Int):=rfl
 have h:(BitVec.ofInt 64 f).toNat &&& 10=((BitVec.ofInt 64 f).toNat &&& 2) ||| ((BitVec.ofInt 64 f).toNat &&& 8):=by
  rw [← Nat.and_or_distrib_left];rfl
 unfold hasI
 rw [e10,e2,e8,h]
 have h2:(BitVec.ofInt 64 f).toNat &&& 2≤2:=Nat.and_le_right
 have h2':((BitVec.ofInt 64 f).toNat &&& 2) &&& 2=(BitVec.ofInt 64 f).toNat &&& 2:=by rw [Nat.and_assoc,Nat.and_self]
 have h8:(BitVec.ofInt 64 f).toNat &&& 8≤8:=Nat.and_le_right
 have h8':((BitVec.ofInt 64 f).toNat &&& 8) &&& 8=(BitVec.ofInt 64 f).toNat &&& 8:=by rw [Nat.and_assoc,Nat.and_self]
 generalize (BitVec.ofInt 64 f).toNat &&& 2=a at *
 generalize (BitVec.ofInt 64 f).toNat &&& 8=b at *
 have ha:a=0∨a=2:=by
  have:a=0∨a=1∨a=2:=by omega
  rcases this with rfl|rfl|rfl
  ·exact .inl rfl
  ·exact absurd h2' (by decide)
  ·exact .inr rfl
 have hb:b=0∨b=8:=by
  have:b=0∨b=1∨b=2∨b=3∨b=4∨b=5∨b=6∨b=7∨b=8:=by omega
  rcases this with rfl|rfl|rfl|rfl|rfl|rfl|rfl|rfl|rfl
  ·exact .inl rfl
  all_goals first|exact .inr rfl|exact absurd h8' (by decide)
 rcases ha with rfl|rfl <;> rcases hb with rfl|rfl <;> decide
theorem RAt.flag {b:Nat} {cs:List Cls} {ps:List Plc} {w:World} (h:RAt b cs w) (ht:TwW cs ps) {k:Nat} {i:Int} {x:HM} (hx:Zm ps (k:Int) i=some x):∃ (g cap bk o n cm j:Nat),i=(j:Int)∧w.cell? ⟨b,0,none⟩=some (.slice (some ⟨g,0,none⟩) cs.length cap)∧b<w.heap.size∧g<w.heap.size∧(k:Int)<(cs.length:Int)∧w.cell? ⟨g,k * 6+5,none⟩=some (.slice (some ⟨bk,o,none⟩) n cm)∧bk<w.heap.size∧(j:Int)<(n:Int)∧w.cell? ⟨bk,o+j * 6+2,none⟩=some (.int .i64 x.fl):=by
 obtain ⟨k',q,hk,hq,_,hm⟩:=Yl hx
 have:k=k':=by omega
 subst this
 obtain ⟨c,hc,hcq⟩:=ht.tw.at' hq
 obtain ⟨g,cap,vi,vm,b0,hlt,hgl,c0,c1,c2,c3,c4,c5,hIs,hMs⟩:=RAt.cells h hc
 unfold Y2 at hm
 split at hm
 ·rename_i hi
  have hms:q.c.ms=c.ms.map hmOf:=by rw [hcq];rfl
  rw [hms,List.getElem?_map] at hm
  cases e:c.ms[i.toNat]? with
  | none=>rw [e] at hm;cases hm
  | some m =>
    rw [e] at hm
    cases hm
    have hil:=(List.getElem?_eq_some_iff.1 e).1
    obtain ⟨ao,cm,rfl,h1,h2,h3⟩:=hMs
    obtain ⟨bk,o,rfl,hbk,hat⟩:=h3 (by intro h0;rw [h0] at hil;simp at hil)
    have hM:=hat i.toNat m e
    have hkl:=(List.getElem?_eq_some_iff.1 hc).1
    exact ⟨g,cap,bk,o,c.ms.length,cm,i.toNat,by omega,b0,hlt,hgl,by omega,c5,hbk,by omega,hM.2.2.1⟩
 ·cases hm
theorem Zks {b:Nat} {cs:List Cls} {ps:List Plc} {W:World} (h:RAt b cs W) (ht:TwW cs ps) (hJ:WJ ps) (k:Nat) (q:Plc) (hq:ps[k]?=some q) (nm ds:ByteArray):Calls Tryz.prog 192 #[.pointer (some ⟨b,0,none⟩),.int .i64 (k:Int),.string nm,.string ds] W fun e w'=>(∃ v,e=.returned (.tuple #[v,.int .i64 0])∧w'.ownsRow W.heap.size 38 2 v (Zu ps nm ds q.cl).length (Zf (Zu ps nm ds q.cl)))∧Bw W w':=by
 obtain ⟨i0,hi0,hz0,hz1,hz2⟩:=info_parts Tryz.hinfoD
 have HW0:Hid (RAt b cs W):=h
 have HTW:Hid (TwW cs ps):=ht
 obtain ⟨K,hK⟩:∃ K,q.cl.length=K:=⟨_,rfl⟩
 have HK:Hid (q.cl.length=K):=hK
 have hKb:K≤300:=by
  have:=Zt k q.cl (by have:=J7 ht.wi.wo k;rw [clO,nd_at' hq] at this;exact this) (fun i hi=>(Yh ht.wi.wo (a:=k) (by rw [clO,nd_at' hq];exact hi)).1)
  have:=ht.wi.hi
  have:=(List.getElem?_eq_some_iff.1 hq).1
  omega
 have HC:Hid (∀ w,Bw W w→Calls Tryz.prog 51 #[.pointer (some ⟨b,0,none⟩),.int .i64 (k:Int)] w fun e w'=>(∃ v,e=.returned (.tuple #[v,.int .i64 0])∧w'.ownsRow w.heap.size 3 1 v q.cl.length (q.cl.map numV))∧Bw w w'):=fun w hb=>Za1 (h.below hb) ht hJ k q hq
 clear h ht hJ hq hK
 go_enter Tryz.func192,Tryz.ntmps192
 go_wp2_with (first
  | (go_at_call 51;refine (HC.out _ (Below.refl _ _)).mono ?_;rintro e w1 ⟨⟨v,rfl,ho⟩,hb⟩;rw [HK.out] at ho;obtain ⟨ca,cc,rfl⟩:=ownv ho;have O1:Hid (w1.ownsRow W.heap.size 3 1 (.slice ca K cc) K (q.cl.map numV)):=ho;have B1:Hid (Bw W w1):=hb;have HW1:Hid (RAt b cs w1):=HW0.out.below hb;clear ho hb HC))
 go_loopw [12,13] (fun sv kv wr=>∃ (j:Nat),kv=.int .i64 j∧j≤K∧Hid (wr.ownsRow w1.heap.size 38 2 sv (Zu ps nm ds (q.cl.take j)).length (Zf (Zu ps nm ds (q.cl.take j))))∧Hid (Bw w1 wr)) (fun _ kv _=>K - (intOf kv).toNat)
 case atStart=>exact ⟨0,rfl,Nat.zero_le _,World.ownsRow_nil _ _ _ _,Below.refl _ _⟩
 case round =>
  obtain ⟨j,rfl,hj,hO,hB⟩:=hrel
  by_cases hlt:j<K
  ·have hjl:j<q.cl.length:=by rw [HK.out];exact hlt
   obtain ⟨i,hi⟩:∃ i,q.cl[j]?=some i:=⟨_,List.getElem?_eq_getElem hjl⟩
   obtain ⟨g,c2,hform⟩:=Go.Joins.ownsRow_form O1.out (by omega)
   have hce:w1.cell? ⟨g,j,none⟩=some (.int .i64 (i:Int)):=by
    have hrow:=O1.out
    rw [hform] at hrow
    rw [hrow.cellAt j (by omega),List.getElem?_map,hi];rfl
   injection hform with hca _ hcc
   subst hca hcc
   have hgl:g<w1.heap.size:=World.block_lt_of_cell? w1 _ hce
   have hcr:=(hB.out.cell (p:=⟨g,j,none⟩) hgl).trans hce
   have hgr:g<wr.heap.size:=Nat.lt_of_lt_of_le hgl hB.out.size
   have hst:=Zdk (ps:=ps) (nm:=nm) (ds:=ds) hi
   have hal:(Zu ps nm ds (q.cl.take j)).length≤300:=by
    have:=Qt ps nm ds (q.cl.take j)
    rw [List.length_take] at this
    omega
   have HRr:Hid (RAt b cs wr):=HW1.out.below hB.out
   have HF:Hid (Calls Tryz.prog 86 #[.pointer (some ⟨b,0,none⟩),.int .i64 (i:Int),.string nm,.string ds] wr fun e w'=>e=.returned (.tuple #[.int .i64 (fndI ps i nm ds).1,.int .i64 (fndI ps i nm ds).2])∧Bw wr w'):=Zgy HRr.out HTW.out i nm ds
   have hfl:(fndI ps i nm ds).2=0→∃ x,Zm ps (i:Int) (fndI ps i nm ds).1=some x∧hasS ps i (fndI ps i nm ds).1 10=(hasI x.fl 2||hasI x.fl 8):=fun h0=>by
    obtain ⟨x,hx⟩:=fnd_meth h0
    exact ⟨x,hx,by rw [hasS,hx];exact has10 _⟩
   rw [Ze0] at hst
   obtain ⟨L,hL⟩:∃ L,Zu ps nm ds (q.cl.take j)=L:=⟨_,rfl⟩
   rw [hL] at hst hal hO
   obtain ⟨va,vn,rfl⟩:=ownv hO.out
   generalize fndI ps i nm ds=F at *
   obtain ⟨F1,F2⟩:=F
   simp only at hst HF hfl
   generalize hasS ps i F1 10=S at *
   clear hce hi hjl hL
   have HST:Hid (Zu ps nm ds (List.take (j+1) q.cl)=L++if F2=0∧S=false then [((i:Int),F1)] else []):=hst
   clear hst
   by_cases hF:F2=0
   ·subst hF
    obtain ⟨x,hx,hS⟩:=hfl rfl
    have H2:Hid (∀ w:World,Calls Tryz.prog 62 #[.int .i64 x.fl,.int .i64 2] w fun e w'=>e=.returned (.bool (hasI x.fl 2))∧w'=w):=Zv x.fl 2
    have H8:Hid (∀ w:World,Calls Tryz.prog 62 #[.int .i64 x.fl,.int .i64 8] w fun e w'=>e=.returned (.bool (hasI x.fl 8))∧w'=w):=Zv x.fl 8
    have HFL:Hid (∀ w,RAt b cs w→∃ (g cap bk o n cm j:Nat),F1=(j:Int)∧w.cell? ⟨b,0,none⟩=some (.slice (some ⟨g,0,none⟩) cs.length cap)∧b<w.heap.size∧g<w.heap.size∧(i:Int)<(cs.length:Int)∧w.cell? ⟨g,i * 6+5,none⟩=some (.slice (some ⟨bk,o,none⟩) n cm)∧bk<w.heap.size∧(j:Int)<(n:Int)∧w.cell? ⟨bk,o+j * 6+2,none⟩=some (.int .i64 x.fl)):=fun w hw=>hw.flag HTW.out hx
    generalize x.fl=fl at *
    generalize hasI fl 2=z2 at *
    generalize hasI fl 8=z8 at *
    clear hx hfl
    go_wp2_with (first
     | (go_at_call 86;refine HF.out.mono ?_;rintro e w2 ⟨rfl,hb⟩;have B2:Hid (Bw w1 w2):=Zb hB.out hb;have O2:Hid (w2.ownsRow w1.heap.size 38 2 (.slice va L.length vn) L.length (Zf L)):=Zd hO.out hb;have hcr2:w2.cell? ⟨g,j,none⟩=some (.int .i64 (i:Int)):=(hb.cell (p:=⟨g,j,none⟩) hgr).trans hcr;have HR2:Hid (RAt b cs w2):=HRr.out.below hb;clear hb HF hcr))
    obtain ⟨g9,cap9,bk9,o9,n9,cm9,j9,rfl,c91,c92,c93,c94,c95,c96,c97,c98⟩:=HFL.out _ HR2.out
    go_region
    have O3:Hid (w2.drew.ownsRow w1.heap.size 38 2 (.slice va L.length vn) L.length (Zf L)):=Zd O2.out ((Below.refl _ _).drew)
    have B3:Hid (Bw w1 w2.drew):=B2.out.drew
    have hcr3:w2.drew.cell? ⟨g,j,none⟩=some (.int .i64 (i:Int)):=(((Below.refl w2.heap.size w2).drew).cell (p:=⟨g,j,none⟩) (World.block_lt_of_cell? w2 _ hcr2)).trans hcr2
    have hgl3:g<w2.drew.heap.size:=World.block_lt_of_cell? _ _ hcr3
    generalize w2.drew=w3 at *
    have hgn3:¬ g=w3.heap.size:=by omega
    clear c91 c92 c93 c94 c95 c96 c97 c98 O2 B2 hcr2 HR2 HFL HRr
    cases z2 with
    | true =>
      have hst2:Zu ps nm ds (List.take (j+1) q.cl)=L:=by rw [HST.out,hS,if_neg (by simp)];simp
      clear HST
      go_wp2_with (first
       | (go_at_call 62;refine (H2.out _).mono ?_;rintro e w9 ⟨rfl,hw9⟩;rw [hw9];clear hw9 w9))
      refine ⟨⟨j+1,by simp,by omega,?_,B3⟩,by simp [intOf];omega⟩
      rw [hst2];exact O3
    | false=>cases z8 with
      | true =>
        have hst2:Zu ps nm ds (List.take (j+1) q.cl)=L:=by rw [HST.out,hS,if_neg (by simp)];simp
        clear HST
        go_wp2_with (first
         | (go_at_call 62;refine (H2.out _).mono ?_;rintro e w9 ⟨rfl,hw9⟩;rw [hw9];clear hw9 w9 H2)
         | (go_at_call 62;refine (H8.out _).mono ?_;rintro e w9 ⟨rfl,hw9⟩;rw [hw9];clear hw9 w9))
        refine ⟨⟨j+1,by simp,by omega,?_,B3⟩,by simp [intOf];omega⟩
        rw [hst2];exact O3
      | false =>
        have hst2:Zu ps nm ds (List.take (j+1) q.cl)=L++[((i:Int),(j9:Int))]:=by rw [HST.out,hS,if_pos (by simp)]
        clear HST
        go_wp2_with (first
         | (go_at_call 62;refine (H2.out _).mono ?_;rintro e w9 ⟨rfl,hw9⟩;rw [hw9];clear hw9 w9 H2)
         | (go_at_call 62;refine (H8.out _).mono ?_;rintro e w9 ⟨rfl,hw9⟩;rw [hw9];clear hw9 w9)
         | (at_builtin;refine wpList_append_own _ rfl _ _ 30 rfl w1.heap.size 38 i0 (.agg #[.int .i64 0,.int .i64 0]) 2 16 Tryz.underlying30 hi0 hz0 hz1 hz2 rfl (by decide) (.slice va L.length vn) L.length (Zf L) rfl (O3.out.alloc _) ⟨w3.heap.size,0,none⟩ 1 1 [.int .i64 (i:Int),.int .i64 (j9:Int)] rfl rfl ?c1 ?c2 ?c3 ?c4 ?c5 ?_))
        case c1=>intro jj u hj;rw [addr_add];match jj,hj with
         | 0,hj=>simp at hj;subst hj;simp [go_sem]
         | 1,hj=>simp at hj;subst hj;simp [go_sem]
         | (jj+2),hj=>simp at hj
        case c2=>intro u hu;simp at hu;rcases hu with rfl|rfl <;> rfl
        case c3=>unfold maxLen;omega
        case c4=>omega
        case c5=>have:=B3.out.size;simp;omega
        intro v' w4 hown hgrow _
        obtain ⟨va2,vn2,rfl⟩:=ownv hown
        have B4:Hid (Bw w1 w4):=by
         have hb1:Bw w1 (w3.alloc (.cells #[.int .i64 (i:Int),.int .i64 (j9:Int)] 38)):=B3.out.alloc B3.out.size _
         refine hb1.grown hgrow hb1.size (fun x hx=>?_)
         have:=(O3.out.lt x hx).1
         omega
        have O4:Hid (w4.ownsRow w1.heap.size 38 2 (.slice va2 (L.length+1) vn2) (L++[((i:Int),(j9:Int))]).length (Zf (L++[((i:Int),(j9:Int))]))):=by
         rw [Hid,List.length_append,Yw];exact hown
        go_wp2
        refine ⟨⟨j+1,by simp,by omega,?_,B4⟩,by simp [intOf];omega⟩
        rw [hst2];exact O4
   ·have hst2:Zu ps nm ds (List.take (j+1) q.cl)=L:=by rw [HST.out,if_neg (fun h=>hF h.1)];simp
    clear HST hfl
    go_wp2_with (first
     | (go_at_call 86;refine HF.out.mono ?_;rintro e w2 ⟨rfl,hb⟩;have B2:Hid (Bw w1 w2):=Zb hB.out hb;have O2:Hid (w2.ownsRow w1.heap.size 38 2 (.slice va L.length vn) L.length (Zf L)):=Zd hO.out hb;clear hb HF))
    refine ⟨⟨j+1,by simp,by omega,?_,B2⟩,by simp [intOf];omega⟩
    rw [hst2];exact O2
  ·have e:j=K:=by omega
   subst e
   have HE:Hid (Zu ps nm ds (q.cl.take j)=Zu ps nm ds q.cl):=by rw [Hid,List.take_of_length_le (by rw [HK.out];exact Nat.le_refl _)]
   rw [HE.out] at hO
   obtain ⟨va,vn,rfl⟩:=ownv hO.out
   go_wp2
   exact bodyPost_ret (results_tmp2 rfl _ _ _) rfl ⟨⟨_,rfl,Go.Joins.ownsRow_le hO.out B1.out.size⟩,B1.out.trans (hB.out.mono B1.out.size)⟩
theorem rCand_no {b:Nat} {cs:List Cls} {ps:List Plc} {W:World} (h:RAt b cs W) (ht:TwW cs ps) (c:Int) (hc:plcI ps c=none) (nm ds:ByteArray):Calls Tryz.prog 192 #[.pointer (some ⟨b,0,none⟩),.int .i64 c,.string nm,.string ds] W fun e w'=>e=.returned (.tuple #[.slice none 0 0,.int .i64 3])∧Bw W w':=by
 have HC:Hid (Calls Tryz.prog 51 #[.pointer (some ⟨b,0,none⟩),.int .i64 c] W fun e w'=>e=.returned (.tuple #[.slice none 0 0,.int .i64 3])∧Bw W w'):=Zbv h ht c hc
 clear h ht hc
 go_enter Tryz.func192,Tryz.ntmps192
 go_wp2_with (go_at_call 51;refine HC.out.mono ?_;rintro e w1 ⟨rfl,hb⟩;have B1:Hid (Bw W w1):=hb;clear hb HC)
 exact bodyPost_ret (results_tmp2 rfl _ _ _) rfl ⟨rfl,B1.out⟩
theorem RAt.meth {b:Nat} {cs:List Cls} {ps:List Plc} {w:World} (h:RAt b cs w) (ht:TwW cs ps) {k:Nat} {i:Int} {x:HM} (hx:Zm ps (k:Int) i=some x):∃ (g cap bk n cm j:Nat) (ac:Option Addr) (cc:Nat),i=(j:Int)∧w.cell? ⟨b,0,none⟩=some (.slice (some ⟨g,0,none⟩) cs.length cap)∧b<w.heap.size∧g<w.heap.size∧(k:Int)<(cs.length:Int)∧w.cell? ⟨g,k * 6+5,none⟩=some (.slice (some ⟨bk,0,none⟩) n cm)∧bk<w.heap.size∧(j:Int)<(n:Int)∧w.cell? ⟨bk,j * 6,none⟩=some (.string x.nm)∧w.cell? ⟨bk,j * 6+1,none⟩=some (.string x.ds)∧w.cell? ⟨bk,j * 6+2,none⟩=some (.int .i64 x.fl)∧w.cell? ⟨bk,j * 6+3,none⟩=some (.int .i64 x.lo)∧w.cell? ⟨bk,j * 6+4,none⟩=some (.int .i64 x.st)∧w.cell? ⟨bk,j * 6+5,none⟩=some (.slice ac x.n cc)∧Rds w (.slice ac x.n cc) x.n 7 x.xs∧(∀ u∈x.xs,u.oneCell'=true)∧x.n≤1000000:=by
 obtain ⟨k',q,hk,hq,_,hm⟩:=Yl hx
 have:k=k':=by omega
 subst this
 obtain ⟨c,hc,hcq⟩:=ht.tw.at' hq
 have hcd:=(ht.wi.pb q (List.mem_of_getElem? hq)).cd
 obtain ⟨N,v,rs,hW,hrc⟩:=h
 have hc2:=hc
 rw [← hrc,List.getElem?_map] at hc2
 cases er:rs[k]? with
 | none=>rw [er] at hc2;cases hc2
 | some r =>
   rw [er] at hc2
   have hrcc:r.c=c:=Option.some.inj hc2
   have hkl:=(List.getElem?_eq_some_iff.1 er).1
   obtain ⟨g,cap,rfl⟩:=Go.Joins.ownsRow_form hW.row (by omega)
   have hat:=(hW.row.cellAt (k * 6+5) (by omega)).trans (Zif rs k r er 5 (by omega))
   have b0:=cell_of_row w b 0 _ _ _ hW.hb
   simp only [List.getElem?_toArray,List.getElem?_cons_zero] at b0
   obtain ⟨qm,hqm,ho⟩:=hW.own r (List.mem_of_getElem? er)
   unfold Y2 at hm
   split at hm
   ·rename_i hi
    have hms:q.c.ms=qm.map Prod.fst:=by rw [hqm,hrcc,hcq];rfl
    have hxm:x∈q.c.ms:=List.mem_of_getElem? hm
    rw [hms,List.getElem?_map] at hm
    cases e:qm[i.toNat]? with
    | none=>rw [e] at hm;cases hm
    | some p =>
      rw [e] at hm
      have hpx:p.1=x:=Option.some.inj hm
      have hil:=(List.getElem?_eq_some_iff.1 e).1
      obtain ⟨bk,cm,hvm⟩:=Go.Joins.ownsRow_form ho.ms (by omega)
      have hmr:=ho.ms
      rw [hvm] at hmr
      have hcell:=fun j hj=>(hmr.cellAt (i.toNat * 6+j) (by omega)).trans (Zy qm i.toNat p e j hj)
      have hco:=ho.cod p (List.mem_of_getElem? e)
      obtain ⟨ac,cc,hp2⟩:=ownv hco
      have h0:w.cell? ⟨bk,i.toNat * 6,none⟩=some (.string x.nm):=by rw [← hpx];exact hcell 0 (by omega)
      have hgb:=World.block_lt_of_cell? w _ (show w.cell? ⟨g,k * 6+5,none⟩=some r.vm from hat)
      refine ⟨g,cap,bk,qm.length,cm,i.toNat,ac,cc,by omega,?_,(Array.getElem?_eq_some_iff.1 hW.hb).1,hgb,?_,?_,World.block_lt_of_cell? w _ h0,by omega,h0,?_,?_,?_,?_,?_,?_,(hcd x hxm).1,(hcd x hxm).2⟩
      ·rw [← hrc,List.length_map];exact b0
      ·rw [← hrc,List.length_map];omega
      ·rw [← hvm];exact hat
      ·rw [← hpx];exact hcell 1 (by omega)
      ·rw [← hpx];exact hcell 2 (by omega)
      ·rw [← hpx];exact hcell 3 (by omega)
      ·rw [← hpx];exact hcell 4 (by omega)
      ·have:=hcell 5 (by omega)
       rw [← hpx,← hp2];exact this
      ·rw [hp2] at hco
       rw [← hpx]
       exact Ya hco
   ·cases hm
theorem Zc4 {iface:Bool} {all:List Mth}:∀ {l:List Mth} {k:Nat},Yz iface all l k=true→∀ m∈l,mthB m iface=true
 | [],_,_,m,hm=>by cases hm
 | x::r,k,h,m,hm=>by
   rw [Yz,Bool.and_eq_true,Bool.and_eq_true] at h
   rcases List.mem_cons.1 hm with rfl|hm
   ·exact h.1.1
   ·exact Zc4 h.2 m hm
theorem Zk0 {f:Int} {i n:Bool} (h:chkM f i n=0) (h2:hasI f 2=true):Y6 f=2∧hasI f 1024=false:=by
 have hv:¬ 1<visN f:=by
  intro hv
  rw [chkM] at h
  simp [hv] at h
 have ha:hasI f 1024=false:=by
  cases e:hasI f 1024 with
  | false=>rfl
  | true =>
    rw [chkM] at h
    simp [e,h2] at h
 refine ⟨?_,ha⟩
 unfold visN at hv
 unfold Y6
 cases e1:hasI f 1 <;> cases e4:hasI f 4 <;> simp [e1,e4,h2] at hv ⊢
end Go.Proofs.YtmafkabjjibcbaaGreat
