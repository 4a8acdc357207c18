import Derived.Test.YtmafkabjjibcbaaGreatRfK
set_option maxHeartbeats 4000000
set_option maxRecDepth 100000
namespace Go.Proofs.YtmafkabjjibcbaaGreat
open Go.RowKit Go.Maps
theorem Zj8 {a b:List (List UInt8)} (h:Qe a=Qe b):a=b:=by
 induction a generalizing b with
 | nil=>cases b with
   | nil=>rfl
   | cons y t=>simp [Qe] at h
 | cons x r ih=>cases b with
   | nil=>simp [Qe] at h
   | cons y t =>
     simp only [Qe,List.map_cons,List.cons.injEq,Value.string.injEq,ByteArray.mk.injEq] at h
     have e1:x=y:=by have:=congrArg Array.toList h.1;simpa using this
     rw [e1,ih h.2]
theorem TwW.ifaces {cs:List Cls} {ps:List Plc} (h:TwW cs ps) (hJ:WJ ps) {k:Nat} {c:Cls} (hk:cs[k]?=some c):∃ ks:List Nat,ks.length=c.ifs.length∧(∀ (i:Nat) (p:List UInt8),c.ifs[i]?=some p→∃ j,ks[i]?=some j∧nmdI p cs 0=((j:Nat):Int)∧j<k)∧clO (ps.map nd) k=Yi (ps.map Plc.cl) (spO (ps.map nd) k) ks:=by
 obtain ⟨q,hq,hc⟩:=h.tw.at hk
 obtain ⟨names,ks,h1,_,_,h4,h5,h6,h7⟩:=hJ k q hq
 have e:names=c.ifs:=by
  rw [hc] at h1
  exact (Zj8 h1).symm
 subst e
 refine ⟨ks,h4,fun i p hp=>?_,?_⟩
 ·obtain ⟨j,hj,hl⟩:=h5 i p hp
  exact ⟨j,hj,by rw [Jz h.tw h.nm,hl,lkI],h6 j (List.mem_of_getElem? hj)⟩
 ·have e1:clO (ps.map nd) k=q.cl:=by rw [clO,nd_at' hq];rfl
  have e2:spO (ps.map nd) k=q.sp:=by rw [spO,nd_at' hq];rfl
  rw [e1,e2];exact h7
structure ClL (ps:List Plc) (l:List Nat):Prop where
 up:∀ x∈l,∀ y∈clO (ps.map nd) x,y∈l
 nod:l.Nodup
 lt:∀ x∈l,x<ps.length
theorem ClL.nil (ps:List Plc):ClL ps []:=⟨fun x hx=>by simp at hx,List.nodup_nil,fun x hx=>by simp at hx⟩
theorem ClL.len {ps:List Plc} {l:List Nat} (h:ClL ps l):l.length≤ps.length:=Zu _ _ h.nod h.lt
theorem ClL.take {ps:List Plc} {l:List Nat} (hW:WI ps) (h:ClL ps l) (k:Nat) (hk:k<ps.length):ClL ps (Zn l (clO (ps.map nd) k)):=by
 refine ⟨fun x hx y hy=>?_,Yv _ _ h.nod,fun x hx=>?_⟩
 ·rcases (Ym _ _ _).1 hx with hx|hx
  ·exact (Ym _ _ _).2 (.inl (h.up x hx y hy))
  ·obtain ⟨_,_,p,hp,_,h3⟩:=Yk hW.wo hx
   exact (Ym _ _ _).2 (.inr (h3 y (by rw [clO,hp] at hy;exact hy)))
 ·rcases (Ym _ _ _).1 hx with hx|hx
  ·exact h.lt x hx
  ·have:=(Yk hW.wo hx).1
   omega
theorem Zf2 {ps:List Plc} {l:List Nat} (h:ClL ps l) {k:Nat} (hk:k∈l):gathF (ps.map Plc.cl) l k=l:=by
 rw [gathF,Zed,Ze1 (h.up k hk)]
 exact Ze1 (fun x hx=>by simp at hx;rw [hx];exact hk)
theorem Zie {ps:List Plc} (hW:WI ps) {l:List Nat} {k:Nat} (hk:¬ k∈l):gathF (ps.map Plc.cl) l k=Zn l (clO (ps.map nd) k)++[k]:=by
 rw [gathF,Zed]
 have hn:¬ k∈Zn l (clO (ps.map nd) k):=fun hm=>by
  rcases (Ym _ _ _).1 hm with hm|hm
  ·exact hk hm
  ·have:=(Yk hW.wo hm).1
   omega
 have hc:(Zn l (clO (ps.map nd) k)).contains k=false:=by simpa using hn
 rw [Zn,Zn,hc];rfl
theorem ClL.gathF {ps:List Plc} {l:List Nat} (hW:WI ps) (h:ClL ps l) (k:Nat) (hk:k<ps.length):ClL ps (gathF (ps.map Plc.cl) l k):=by
 by_cases hm:k∈l
 ·rw [Zf2 h hm];exact h
 ·rw [Zie hW hm]
  have h1:=h.take hW k hk
  have hn:¬ k∈Zn l (clO (ps.map nd) k):=fun hm2=>by
   rcases (Ym _ _ _).1 hm2 with hm2|hm2
   ·exact hm hm2
   ·have:=(Yk hW.wo hm2).1
    omega
  refine ⟨fun x hx y hy=>?_,?_,fun x hx=>?_⟩
  ·rcases List.mem_append.1 hx with hx|hx
   ·exact List.mem_append_left _ (h1.up x hx y hy)
   ·simp at hx
    subst hx
    exact List.mem_append_left _ ((Ym _ _ _).2 (.inr hy))
  ·refine List.nodup_append.2 ⟨h1.nod,by simp,fun a ha b hb hab=>?_⟩
   simp at hb
   rw [hab,hb] at ha
   exact hn ha
  ·rcases List.mem_append.1 hx with hx|hx
   ·exact h1.lt x hx
   ·simp at hx;omega
theorem Zln {ps:List Plc} (l:List Nat) (k:Nat) (ks:List Nat) (h:clO (ps.map nd) k=Yi (ps.map Plc.cl) (spO (ps.map nd) k) ks):Zn l (clO (ps.map nd) k)=ks.foldl (gathF (ps.map Plc.cl)) (Zn l (clO (ps.map nd) (spO (ps.map nd) k))):=by
 rw [h,Yi,Zb5,Jb,Zed];rfl
theorem Zbt {b:Nat} {cs:List Cls} {ps:List Plc} {W:World} (h:RAt b cs W) (ht:TwW cs ps) (hJ:WJ ps):∀ (id:Nat),id<ps.length→∀ (w:World) (v:Value) (l:List Nat),Bw W w→w.ownsRow W.heap.size 3 1 v l.length (l.map numV)→ClL ps l→Calls Tryz.prog 114 #[.pointer (some ⟨b,0,none⟩),.int .i64 (id:Int),v] w fun e w'=>(∃ v',e=.returned v'∧w'.ownsRow W.heap.size 3 1 v' (Zn l (clO (ps.map nd) id)).length ((Zn l (clO (ps.map nd) id)).map numV))∧Bw W w':=by
 intro id
 induction id using Nat.strongRecOn with
 | _ id ih =>
 intro hid w v l hw hrow hcl
 obtain ⟨i0,hi0,hz0,hz1,hz2⟩:=info_parts Tryz.hinfo3
 have hlen:=ht.tw.len
 have h3:=ht.wi.hi
 obtain ⟨c,hc⟩:∃ c,cs[id]?=some c:=⟨_,List.getElem?_eq_getElem (by omega)⟩
 obtain ⟨ks,hk1,hk2,hk3⟩:=ht.ifaces hJ hc
 have hgt:=Zln (ps:=ps) l id ks hk3
 have HR:Hid (RAt b cs W):=h
 have HTW:Hid (TwW cs ps):=ht
 have HW3:Hid (ps.length≤300):=h3
 have HCC:Hid (cs[id]?=some c):=hc
 have HKS:Hid (∀ (i:Nat) (p:List UInt8),c.ifs[i]?=some p→∃ j,ks[i]?=some j∧nmdI p cs 0=((j:Nat):Int)∧j<id):=hk2
 have HN:Hid (∀ (w':World) (s:ByteArray),Bw W w'→Calls Tryz.prog 104 #[.pointer (some ⟨b,0,none⟩),.string s] w' fun e w''=>e=.returned (.int .i64 (nmdI s.toList cs 0))∧w''=w'):=fun w' s hb=>Zdy (h.below hb) s (by omega)
 have HIH:Hid (∀ (j:Nat),j<id→∀ (w:World) (v:Value) (l:List Nat),Bw W w→w.ownsRow W.heap.size 3 1 v l.length (l.map numV)→ClL ps l→Calls Tryz.prog 114 #[.pointer (some ⟨b,0,none⟩),.int .i64 (j:Int),v] w fun e w'=>(∃ v',e=.returned v'∧w'.ownsRow W.heap.size 3 1 v' (Zn l (clO (ps.map nd) j)).length ((Zn l (clO (ps.map nd) j)).map numV))∧Bw W w'):=fun j hj=>ih j hj (by omega)
 have HHA:Hid (∀ (v:Value) (l:List Nat) (p:Nat) (w:World),w.ownsRow W.heap.size 3 1 v l.length (l.map numV)→l.length≤1000000→Calls Tryz.prog 140 #[v,.int .i64 (p:Int)] w fun e w'=>e=.returned (.bool (l.contains p))∧Bw w w'):=fun v l p w hr hl=>Zdz v l p w (Yd hr) hl
 obtain ⟨n,hn⟩:∃ n,c.ifs.length=n:=⟨_,rfl⟩
 have HNI:Hid (c.ifs.length=n):=hn
 have HKL:Hid (ks.length=n):=hk1.trans hn
 obtain ⟨L,hL⟩:∃ L,cs.length=L:=⟨_,rfl⟩
 have HL:Hid (cs.length=L):=hL
 have hidL:id<L:=by omega
 have hidI:(id:Int)<(L:Int):=by omega
 have HCL:Hid (ClL ps l):=hcl
 have HRW:Hid (w.ownsRow W.heap.size 3 1 v l.length (l.map numV)):=hrow
 have HBW:Hid (Bw W w):=hw
 have hnb:n≤1000000:=by
  obtain ⟨q,hq,hqc⟩:=ht.tw.at hc
  have h1:=(ht.wi.pb q (List.mem_of_getElem? hq)).ni
  rw [hqc] at h1
  rw [← hn];exact h1
 obtain ⟨va0,vn0,rfl⟩:=ownv hrow
 by_cases h0:id=0
 ·have hks:ks=[]:=by
   cases hcs:c.ifs with
   | nil=>exact List.length_eq_zero_iff.1 (by rw [hk1,hcs];rfl)
   | cons p r =>
     obtain ⟨j,_,_,hj⟩:=hk2 0 p (by rw [hcs];rfl)
     omega
  have hz:clO (ps.map nd) id=[]:=by
   obtain ⟨n0,h1,_,h2,_⟩:=ht.wi.wo.top
   rw [h0,clO,h1];exact h2
  have HX1:Hid (Zn l (clO (ps.map nd) id)=l):=by rw [Hid,hz];rfl
  have hn0:n=0:=by rw [← HKL.out,hks];rfl
  subst hn0
  subst h0
  obtain ⟨g,cap,vi,vm,b0,hlt0,hgl,c0,c1,c2,c3,c4,c5,hst,_⟩:=(h.below hw).cells hc
  rw [hL] at b0
  obtain ⟨ao,icap,rfl,_,_,_⟩:=hst
  rw [hn] at c2
  have hL0:(0:Int)<(L:Int):=by omega
  clear hlen h3 hc hk1 hk2 hk3 hgt h ht hJ ih hn hL hcl hrow hw hks hz HIH HHA HN HKS c0 c1 c3 c4 c5
  go_enter Tryz.func114,Tryz.ntmps114
  go_wp2
  go_loopw [2,7] (fun lv iv wr=>lv=.slice va0 l.length vn0∧iv=.int .i64 0∧wr=w) (fun _ _ _=>0)
  case atStart=>exact ⟨rfl,rfl,rfl⟩
  case round =>
   obtain ⟨rfl,rfl,rfl⟩:=hrel
   go_wp2
   refine bodyPost_ret (results_tmp rfl _ _ _) rfl ⟨⟨.slice va0 l.length vn0,rfl,?_⟩,HBW.out⟩
   rw [HX1.out];exact HRW.out
 ·obtain ⟨l1,hl1⟩:∃ l1,l1=Zn l (clO (ps.map nd) (spO (ps.map nd) id)):=⟨_,rfl⟩
  have HX1:Hid (ks.foldl (gathF (ps.map Plc.cl)) l1=Zn l (clO (ps.map nd) id)):=by rw [Hid,hl1];exact hgt.symm
  have hidp:id<(ps.map nd).length:=by rw [List.length_map];exact hid
  have hsl:=ht.wi.wo.spLt hidp (by omega)
  have hsu:=ht.super hc (by omega)
  have HCL1:Hid (ClL ps l1):=by rw [Hid,hl1];exact hcl.take ht.wi _ (by omega)
  have HS1:Hid (∀ w',Bw W w'→Calls Tryz.prog 104 #[.pointer (some ⟨b,0,none⟩),.string c.su] w' fun e w''=>e=.returned (.int .i64 ((spO (ps.map nd) id:Nat):Int))∧w''=w'):=fun w' hb=>by rw [← hsu];exact HN.out w' c.su hb
  have HS2:Hid (Calls Tryz.prog 114 #[.pointer (some ⟨b,0,none⟩),.int .i64 ((spO (ps.map nd) id:Nat):Int),.slice va0 l.length vn0] w fun e w'=>(∃ v',e=.returned v'∧w'.ownsRow W.heap.size 3 1 v' l1.length (l1.map numV))∧Bw W w'):=by rw [hl1];exact HIH.out _ hsl w _ l hw hrow hcl
  obtain ⟨g0,cap0,vi0,vm0,b00,hlt00,hgl0,_,c10,_,_,_,_,_,_⟩:=(h.below hw).cells hc
  rw [hL] at b00
  generalize spO (ps.map nd) id=sp at *
  have h0I:¬ (id:Int)=0:=by omega
  clear hlen h3 hc hk1 hk2 hk3 hgt h ht hJ ih hn hL hcl hrow hw hl1 hsu
  go_enter Tryz.func114,Tryz.ntmps114
  go_wp2_with (first
   | (go_at_call 104;refine (HS1.out _ HBW.out).mono ?_;rintro e w9 ⟨rfl,hw9⟩;rw [hw9];clear hw9 w9 HS1)
   | (go_at_call 114;refine HS2.out.mono ?_;rintro e w1 ⟨⟨v1,rfl,ho⟩,hb⟩;obtain ⟨va1,vn1,rfl⟩:=ownv ho;have O1:Hid (w1.ownsRow W.heap.size 3 1 (.slice va1 l1.length vn1) l1.length (l1.map numV)):=ho;have B1:Hid (Bw W w1):=hb;clear hb ho HS2))
  go_loopw [2,7] (fun lv iv wr=>∃ (i:Nat),iv=.int .i64 (i:Int)∧i≤n∧Hid (wr.ownsRow W.heap.size 3 1 lv ((ks.take i).foldl (gathF (ps.map Plc.cl)) l1).length (((ks.take i).foldl (gathF (ps.map Plc.cl)) l1).map numV))∧Hid (ClL ps ((ks.take i).foldl (gathF (ps.map Plc.cl)) l1))∧Hid (Bw W wr)) (fun _ iv _=>n - (intOf iv).toNat)
  case atStart=>exact ⟨0,rfl,Nat.zero_le _,O1,HCL1,B1⟩
  case round =>
   obtain ⟨i,rfl,hi,hO,hC,hB⟩:=hrel
   obtain ⟨g,cap,vi,vm,b0,hlt0,hgl,c0,c1,c2,c3,c4,c5,hst,_⟩:=(HR.out.below hB.out).cells HCC.out
   rw [HL.out] at b0
   obtain ⟨ao,icap,rfl,hq1,hq2,hq3⟩:=hst
   rw [HNI.out] at c2 hq1
   have HQ3:Hid _:=hq3
   clear c0 c1 c3 c4 c5 hq3
   by_cases hlt:i<n
   ·have hltI:(i:Int)<(n:Int):=by omega
    obtain ⟨p,hp⟩:∃ p,c.ifs[i]?=some p:=⟨_,List.getElem?_eq_getElem (by rw [HNI.out];exact hlt)⟩
    obtain ⟨k,hk,hkn,hkl⟩:=HKS.out i p hp
    obtain ⟨bk,o,rfl,hbk,hcs⟩:=HQ3.out (fun e=>by rw [e] at hp;simp at hp)
    have hce:=hcs i p hp
    have hfold:(ks.take (i+1)).foldl (gathF (ps.map Plc.cl)) l1=gathF (ps.map Plc.cl) ((ks.take i).foldl (gathF (ps.map Plc.cl)) l1) k:=by
     rw [List.take_add_one,hk,List.foldl_append];rfl
    have HN1:Hid (Calls Tryz.prog 104 #[.pointer (some ⟨b,0,none⟩),.string ⟨p.toArray⟩] wr fun e w''=>e=.returned (.int .i64 (k:Int))∧w''=wr):=by
     have:=HN.out wr ⟨p.toArray⟩ hB.out
     rw [show (ByteArray.mk p.toArray).toList=p from by rw [Lib.toList_data],hkn] at this
     exact this
    obtain ⟨Lc,hLc⟩:∃ Lc,(ks.take i).foldl (gathF (ps.map Plc.cl)) l1=Lc:=⟨_,rfl⟩
    rw [hLc] at hO hC hfold
    have HFO:Hid _:=hfold
    have hLb:Lc.length≤300:=Nat.le_trans hC.out.len HW3.out
    have HA1:Hid (∀ (v:Value),wr.ownsRow W.heap.size 3 1 v Lc.length (Lc.map numV)→Calls Tryz.prog 140 #[v,.int .i64 (k:Int)] wr fun e w'=>e=.returned (.bool (Lc.contains k))∧Bw wr w'):=fun v hr=>HHA.out v Lc k wr hr (by omega)
    have HG1:Hid (∀ (w:World) (v:Value),Bw W w→w.ownsRow W.heap.size 3 1 v Lc.length (Lc.map numV)→Calls Tryz.prog 114 #[.pointer (some ⟨b,0,none⟩),.int .i64 (k:Int),v] w fun e w'=>(∃ v',e=.returned v'∧w'.ownsRow W.heap.size 3 1 v' (Zn Lc (clO (ps.map nd) k)).length ((Zn Lc (clO (ps.map nd) k)).map numV))∧Bw W w'):=fun w v hb hr=>HIH.out k hkl w v Lc hb hr hC.out
    have HCN:Hid (ClL ps (gathF (ps.map Plc.cl) Lc k)):=hC.out.gathF HTW.out.wi k (by omega)
    have HG2:Hid (Lc.contains k=true→gathF (ps.map Plc.cl) Lc k=Lc):=fun he=>Zf2 hC.out (by simpa using he)
    have HG3:Hid (Lc.contains k=false→gathF (ps.map Plc.cl) Lc k=Zn Lc (clO (ps.map nd) k)++[k]∧(Zn Lc (clO (ps.map nd) k)).length≤300):=fun he=>⟨Zie HTW.out.wi (by simpa using he),Nat.le_trans (hC.out.take HTW.out.wi k (by omega)).len HW3.out⟩
    obtain ⟨va,vn,rfl⟩:=ownv hO.out
    clear hcs hp hk hkn hfold hLc HX1 HN HIH HHA HQ3
    cases hz:Lc.contains k with
    | true =>
      rw [hz] at HA1
      have he:=HG2.out hz
      rw [he] at HFO HCN
      clear HG1 HG2 HG3 hz he
      go_wp2_with (first
       | (go_at_call 104;refine HN1.out.mono ?_;rintro e w9 ⟨rfl,hw9⟩;rw [hw9];clear hw9 w9 HN1)
       | (go_at_call 140;refine (HA1.out _ hO.out).mono ?_;rintro e w2 ⟨rfl,hb⟩;have O2:Hid (w2.ownsRow W.heap.size 3 1 (.slice va Lc.length vn) Lc.length (Lc.map numV)):=Zb hO.out hb;have B2:Hid (Bw W w2):=Za hB.out hb;clear hb HA1))
      go_roundw
      case rel=>exact ⟨i+1,by go_num,by omega,by rw [HFO.out];exact O2,by rw [HFO.out];exact HCN,B2⟩
      case measure=>simp [intOf];omega
    | false =>
      rw [hz] at HA1
      obtain ⟨he,hlb⟩:=HG3.out hz
      rw [he] at HFO HCN
      generalize Zn Lc (clO (ps.map nd) k)=T at *
      clear HG2 HG3 hz he
      go_wp2_with (first
       | (go_at_call 104;refine HN1.out.mono ?_;rintro e w9 ⟨rfl,hw9⟩;rw [hw9];clear hw9 w9 HN1)
       | (go_at_call 140;refine (HA1.out _ hO.out).mono ?_;rintro e w2 ⟨rfl,hb⟩;have O2:Hid (w2.ownsRow W.heap.size 3 1 (.slice va Lc.length vn) Lc.length (Lc.map numV)):=Zb hO.out hb;have B2:Hid (Bw W w2):=Za hB.out hb;clear hb HA1)
       | (go_at_call 114;refine (HG1.out _ _ B2.out O2.out).mono ?_;rintro e w3 ⟨⟨v3,rfl,ho⟩,hb⟩;obtain ⟨va3,vn3,rfl⟩:=ownv ho;have O3:Hid (w3.ownsRow W.heap.size 3 1 (.slice va3 T.length vn3) T.length (T.map numV)):=ho;have B3:Hid (Bw W w3):=hb;clear hb ho HG1)
       | (at_builtin;refine wpList_append_own _ rfl _ _ 92 rfl W.heap.size 3 i0 (.int .i64 0) 1 8 Tryz.underlying92 hi0 hz0 hz1 hz2 rfl (by decide) (.slice va3 T.length vn3) T.length (T.map numV) rfl (O3.out.alloc _) ⟨w3.heap.size,0,none⟩ 1 1 [.int .i64 (k:Int)] rfl rfl ?c1 ?c2 ?c3 ?c4 ?c5 ?_))
      case c1=>intro jj u hj;rw [addr_add];cases jj with
       | zero=>simp at hj;subst hj;simp [go_sem]
       | succ jj=>simp at hj
      case c2=>intro u hu;simp at hu;subst hu;rfl
      case c3=>unfold maxLen;omega
      case c4=>omega
      case c5=>have:=B3.out.size;simp;omega
      intro v' w4 hown hgrow _
      obtain ⟨va4,vn4,rfl⟩:=ownv hown
      have B4:Hid (Bw W w4):=by
       have hb1:Bw W (w3.alloc (.cells #[.int .i64 (k:Int)] 3)):=B3.out.alloc B3.out.size _
       refine hb1.grown hgrow hb1.size (fun x hx=>?_)
       have:=(O3.out.lt x hx).1
       omega
      have O4:Hid (w4.ownsRow W.heap.size 3 1 (.slice va4 (T.length+1) vn4) (T++[k]).length ((T++[k]).map numV)):=by
       rw [Hid,List.length_append,List.map_append];exact hown
      clear hown hgrow
      go_wp2
      go_roundw
      case rel=>exact ⟨i+1,by go_num,by omega,by rw [HFO.out];exact O4,by rw [HFO.out];exact HCN,B4⟩
      case measure=>simp [intOf];omega
   ·have e:i=n:=by omega
    have HT:Hid ((ks.take i).foldl (gathF (ps.map Plc.cl)) l1=Zn l (clO (ps.map nd) id)):=by
     rw [Hid,e,← HKL.out,List.take_of_length_le (Nat.le_refl _)]
     exact HX1.out
    rw [HT.out] at hO
    subst e
    obtain ⟨va,vn,rfl⟩:=ownv hO.out
    clear HT HX1
    go_wp2
    refine bodyPost_ret (results_tmp rfl _ _ _) rfl ⟨⟨_,rfl,?_⟩,hB.out⟩
    exact hO.out
theorem Zbs {b:Nat} {cs:List Cls} {ps:List Plc} {W:World} (h:RAt b cs W) (ht:TwW cs ps) (i:Int):Calls Tryz.prog 68 #[.pointer (some ⟨b,0,none⟩),.int .i64 i] W fun e w'=>e=.returned (.bool (plcI ps i).isSome)∧w'=W:=by
 have:=rIn_c h i
 rcases ht.tw.clsI i with ⟨h1,h2⟩|⟨k,c,q,rfl,_,_,_,h1,h2⟩
 ·rw [h1] at this;rw [h2];exact this
 ·rw [h1] at this;rw [h2];exact this
theorem Zcx {b:Nat} {cs:List Cls} {ps:List Plc} {W:World} (h:RAt b cs W) (ht:TwW cs ps) (hJ:WJ ps) (x y:Int):Calls Tryz.prog 84 #[.pointer (some ⟨b,0,none⟩),.int .i64 x,.int .i64 y] W fun e w'=>e=.returned (.bool (extI ps x y))∧Bw W w':=by
 have HI:Hid (∀ i z w,Bw W w→(plcI ps i).isSome=z→Calls Tryz.prog 68 #[.pointer (some ⟨b,0,none⟩),.int .i64 i] w fun e w'=>e=.returned (.bool z)∧w'=w):=fun i z w hb hz=>by rw [← hz];exact Zbs (h.below hb) ht i
 rcases Zl ps x with ⟨h1,_⟩|⟨k,p,rfl,h2,h1⟩
 ·have e:extI ps x y=false:=by rw [extI,h1];rfl
  rw [e]
  have HX:Hid (∀ i w,Bw W w→i=x→Calls Tryz.prog 68 #[.pointer (some ⟨b,0,none⟩),.int .i64 i] w fun e w'=>e=.returned (.bool false)∧w'=w):=fun i w hb hi=>by rw [hi];exact HI.out x false w hb (by rw [h1];rfl)
  clear h ht hJ HI h1 e
  go_enter Tryz.func84,Tryz.ntmps84
  go_wp2_with (go_at_call 68;refine (HX.out _ _ (Below.refl _ _) (by rfl)).mono ?_;rintro e w9 ⟨rfl,hw9⟩;rw [hw9];clear hw9 w9)
  exact bodyPost_ret (results_tmp rfl _ _ _) rfl ⟨rfl,Below.refl _ _⟩
 ·have HX:Hid (∀ i w,Bw W w→i=(k:Int)→Calls Tryz.prog 68 #[.pointer (some ⟨b,0,none⟩),.int .i64 i] w fun e w'=>e=.returned (.bool true)∧w'=w):=fun i w hb hi=>by rw [hi];exact HI.out k true w hb (by rw [h1];rfl)
  rcases Zl ps y with ⟨g1,_⟩|⟨j,q,rfl,g2,g1⟩
  ·have e:extI ps k y=false:=by rw [extI,h1,g1];rfl
   rw [e]
   have HY:Hid (∀ i w,Bw W w→i=y→Calls Tryz.prog 68 #[.pointer (some ⟨b,0,none⟩),.int .i64 i] w fun e w'=>e=.returned (.bool false)∧w'=w):=fun i w hb hi=>by rw [hi];exact HI.out y false w hb (by rw [g1];rfl)
   clear h ht hJ HI h1 g1 e
   go_enter Tryz.func84,Tryz.ntmps84
   go_wp2_with (first
    | (go_at_call 68;refine (HX.out _ _ (Below.refl _ _) (by rfl)).mono ?_;rintro e w9 ⟨rfl,hw9⟩;rw [hw9];clear hw9 w9)
    | (go_at_call 68;refine (HY.out _ _ (Below.refl _ _) (by rfl)).mono ?_;rintro e w9 ⟨rfl,hw9⟩;rw [hw9];clear hw9 w9))
   exact bodyPost_ret (results_tmp rfl _ _ _) rfl ⟨rfl,Below.refl _ _⟩
  ·have hkl:=(List.getElem?_eq_some_iff.1 h2).1
   have e:extI ps k j=((chL (ps.map nd) k).contains j||(clO (ps.map nd) k).contains j):=by rw [extI,h1,g1];rfl
   rw [e]
   have HY:Hid (∀ i w,Bw W w→i=(j:Int)→Calls Tryz.prog 68 #[.pointer (some ⟨b,0,none⟩),.int .i64 i] w fun e w'=>e=.returned (.bool true)∧w'=w):=fun i w hb hi=>by rw [hi];exact HI.out j true w hb (by rw [g1];rfl)
   have HC:Hid (Calls Tryz.prog 50 #[.pointer (some ⟨b,0,none⟩),.int .i64 (k:Int)] W fun e w'=>(∃ v,e=.returned (.tuple #[v,.int .i64 0])∧w'.ownsRow W.heap.size 3 1 v (chL (ps.map nd) k).length ((chL (ps.map nd) k).map numV))∧Bw W w'):=Zak h ht k hkl
   have hcb:(chL (ps.map nd) k).length≤1000000:=by
    have hkn:k<(ps.map nd).length:=by rw [List.length_map];exact hkl
    have:=Zu (k+1) _ (ch_nodup ht.wi.wo k hkn) (fun i hi=>Nat.lt_succ_of_le (Zjs ht.wi.wo k hkn i hi))
    have:=ht.wi.hi
    omega
   have hclb:(clO (ps.map nd) k).length≤1000000:=by
    have:=Zu k _ (J6 ht.wi.wo k) (fun i hi=>(Yk ht.wi.wo hi).1)
    have:=ht.wi.hi
    omega
   have HG:Hid (∀ w,Bw W w→Calls Tryz.prog 114 #[.pointer (some ⟨b,0,none⟩),.int .i64 (k:Int),.slice none 0 0] w fun e w'=>(∃ v',e=.returned v'∧w'.ownsRow W.heap.size 3 1 v' (clO (ps.map nd) k).length ((clO (ps.map nd) k).map numV))∧Bw W w'):=fun w hb=>by
    have:=Zbt h ht hJ k hkl w (.slice none 0 0) [] hb (World.ownsRow_nil _ _ _ _) (ClL.nil ps)
    rw [Zhm _ (J6 ht.wi.wo k)] at this
    exact this
   have HH1:Hid (∀ (v:Value) (w:World),w.ownsRow W.heap.size 3 1 v (chL (ps.map nd) k).length ((chL (ps.map nd) k).map numV)→Calls Tryz.prog 140 #[v,.int .i64 (j:Int)] w fun e w'=>e=.returned (.bool ((chL (ps.map nd) k).contains j))∧Bw w w'):=fun v w hr=>Zdz v _ j w (Yd hr) hcb
   have HH2:Hid (∀ (v:Value) (w:World),w.ownsRow W.heap.size 3 1 v (clO (ps.map nd) k).length ((clO (ps.map nd) k).map numV)→Calls Tryz.prog 140 #[v,.int .i64 (j:Int)] w fun e w'=>e=.returned (.bool ((clO (ps.map nd) k).contains j))∧Bw w w'):=fun v w hr=>Zdz v _ j w (Yd hr) hclb
   generalize (chL (ps.map nd) k).contains j=z1 at *
   generalize (clO (ps.map nd) k).contains j=z2 at *
   generalize chL (ps.map nd) k=C at *
   generalize clO (ps.map nd) k=G at *
   clear h ht hJ HI h1 h2 g1 g2 e hcb hclb hkl
   cases z1
   all_goals
    go_enter Tryz.func84,Tryz.ntmps84
    go_wp2_with (first
     | (go_at_call 68;refine (HX.out _ _ (Below.refl _ _) (by rfl)).mono ?_;rintro e w9 ⟨rfl,hw9⟩;rw [hw9];clear hw9 w9)
     | (go_at_call 68;refine (HY.out _ _ (Below.refl _ _) (by rfl)).mono ?_;rintro e w9 ⟨rfl,hw9⟩;rw [hw9];clear hw9 w9)
     | (go_at_call 50;refine HC.out.mono ?_;rintro e w1 ⟨⟨v1,rfl,ho⟩,hb⟩;obtain ⟨va1,vn1,rfl⟩:=ownv ho;have O1:Hid (w1.ownsRow W.heap.size 3 1 (.slice va1 C.length vn1) C.length (C.map numV)):=ho;have B1:Hid (Bw W w1):=hb;clear hb ho HC)
     | (go_at_call 140;refine (HH1.out _ _ O1.out).mono ?_;rintro e w2 ⟨rfl,hb⟩;have B2:Hid (Bw W w2):=Za B1.out hb;clear hb HH1 O1)
     | (go_at_call 114;refine (HG.out _ B2.out).mono ?_;rintro e w3 ⟨⟨v3,rfl,ho⟩,hb⟩;obtain ⟨va3,vn3,rfl⟩:=ownv ho;have O3:Hid (w3.ownsRow W.heap.size 3 1 (.slice va3 G.length vn3) G.length (G.map numV)):=ho;have B3:Hid (Bw W w3):=hb;clear hb ho HG)
     | (go_at_call 140;refine (HH2.out _ _ O3.out).mono ?_;rintro e w4 ⟨rfl,hb⟩;have B4:Hid (Bw W w4):=Za B3.out hb;clear hb HH2 O3))
    first
     | exact bodyPost_ret (results_tmp rfl _ _ _) rfl ⟨rfl,B4.out⟩
     | exact bodyPost_ret (results_tmp rfl _ _ _) rfl ⟨rfl,B2.out⟩
theorem Zl0 (nm ds:ByteArray):∀ (l:List Mth) (k:Nat),Yn nm ds l k=Yb nm ds (l.map hmOf) k
 | [],_=>rfl
 | m::r,k=>by
   rw [Yn,List.map_cons,Yb,Zl0 nm ds r (k+1)]
   rfl
theorem Zgy {b:Nat} {cs:List Cls} {ps:List Plc} {W:World} (h:RAt b cs W) (ht:TwW cs ps) (x:Int) (nm ds:ByteArray):Calls Tryz.prog 86 #[.pointer (some ⟨b,0,none⟩),.int .i64 x,.string nm,.string ds] W fun e w'=>e=.returned (.tuple #[.int .i64 (fndI ps x nm ds).1,.int .i64 (fndI ps x nm ds).2])∧Bw W w':=by
 have HI:Hid (Calls Tryz.prog 68 #[.pointer (some ⟨b,0,none⟩),.int .i64 x] W fun e w'=>e=.returned (.bool (plcI ps x).isSome)∧w'=W):=Zbs h ht x
 rcases ht.tw.clsI x with ⟨h1,h2⟩|⟨k,c,q,rfl,hc,hq,hcq,h1,h2⟩
 ·have e:fndI ps x nm ds=(0,3):=by rw [fndI,h2]
  rw [e]
  rw [h2] at HI
  clear h ht h1 h2 e
  go_enter Tryz.func86,Tryz.ntmps86
  go_wp2_with (go_at_call 68;refine HI.out.mono ?_;rintro e w9 ⟨rfl,hw9⟩;rw [hw9];clear hw9 w9)
  exact bodyPost_ret (results_tmp2 rfl _ _ _) rfl ⟨rfl,Below.refl _ _⟩
 ·have e:fndI ps k nm ds=if Yn nm ds c.ms 0<0 then (0,6) else (Yn nm ds c.ms 0,0):=by
   rw [fndI,h2]
   simp only
   have:q.c.ms=c.ms.map hmOf:=by rw [hcq];rfl
   rw [this,← Zl0]
  rw [e]
  rw [h2] at HI
  simp only [Option.isSome_some] at HI
  obtain ⟨g,cap,vi,vm,b0,hlt,hgl,c0,c1,c2,c3,c4,c5,hIs,hMs⟩:=RAt.cells h hc
  obtain ⟨ai,ci,rfl⟩:=Qv hIs
  have HF:Hid (∀ cn cu cf cl,Calls Tryz.prog 141 #[.agg #[.string cn,.string cu,.slice ai c.ifs.length ci,.int .i64 cf,.int .i64 cl,vm],.string nm,.string ds] W fun e w'=>e=.returned (.int .i64 (Yn nm ds c.ms 0))∧Bw W w'):=fun cn cu cf cl=>Zfg cn cu _ cf cl vm c.ms nm ds W hMs
  obtain ⟨am,cm,rfl⟩:=X0 hMs
  have hkI:(k:Int)<(cs.length:Int):=by have:=(List.getElem?_eq_some_iff.1 hc).1;omega
  generalize Yn nm ds c.ms 0=F at *
  clear h ht h1 h2 e hc hq hcq hIs hMs
  by_cases hF:F<0
  ·rw [if_pos hF]
   go_enter Tryz.func86,Tryz.ntmps86
   go_wp2_with (first
    | (go_at_call 68;refine HI.out.mono ?_;rintro e w9 ⟨rfl,hw9⟩;rw [hw9];clear hw9 w9)
    | (go_at_call 141;refine (HF.out _ _ _ _).mono ?_;rintro e w1 ⟨rfl,hb⟩;have B1:Hid (Bw W w1):=hb;clear hb HF))
   exact bodyPost_ret (results_tmp2 rfl _ _ _) rfl ⟨rfl,B1.out⟩
  ·rw [if_neg hF]
   have hF2:0≤F:=by omega
   go_enter Tryz.func86,Tryz.ntmps86
   go_wp2_with (first
    | (go_at_call 68;refine HI.out.mono ?_;rintro e w9 ⟨rfl,hw9⟩;rw [hw9];clear hw9 w9)
    | (go_at_call 141;refine (HF.out _ _ _ _).mono ?_;rintro e w1 ⟨rfl,hb⟩;have B1:Hid (Bw W w1):=hb;clear hb HF))
   exact bodyPost_ret (results_tmp2 rfl _ _ _) rfl ⟨rfl,B1.out⟩
theorem Za0 {b:Nat} {cs:List Cls} {ps:List Plc} {W:World} (h:RAt b cs W) (ht:TwW cs ps) (hJ:WJ ps) (k:Nat) (q:Plc) (hq:ps[k]?=some q):Calls Tryz.prog 51 #[.pointer (some ⟨b,0,none⟩),.int .i64 (k:Int)] W fun e w'=>(∃ v,e=.returned (.tuple #[v,.int .i64 0])∧w'.ownsRow W.heap.size 3 1 v q.cl.length (q.cl.map numV))∧Bw W w':=by
 have hkl:=(List.getElem?_eq_some_iff.1 hq).1
 have hcl:clO (ps.map nd) k=q.cl:=by rw [clO,nd_at' hq];rfl
 have HI:Hid (Calls Tryz.prog 68 #[.pointer (some ⟨b,0,none⟩),.int .i64 (k:Int)] W fun e w'=>e=.returned (.bool true)∧w'=W):=(Zbs h ht k).mono fun e w' zz=>⟨by rw [zz.1,Z6,hq];rfl,zz.2⟩
 have HG:Hid (∀ w,Bw W w→Calls Tryz.prog 114 #[.pointer (some ⟨b,0,none⟩),.int .i64 (k:Int),.slice none 0 0] w fun e w'=>(∃ v',e=.returned v'∧w'.ownsRow W.heap.size 3 1 v' q.cl.length (q.cl.map numV))∧Bw W w'):=fun w hb=>by
  have:=Zbt h ht hJ k hkl w (.slice none 0 0) [] hb (World.ownsRow_nil _ _ _ _) (ClL.nil ps)
  rw [Zhm _ (J6 ht.wi.wo k),hcl] at this
  exact this
 generalize q.cl.length=n at *
 generalize q.cl.map numV=xs at *
 clear h ht hJ hq hkl hcl
 go_enter Tryz.func51,Tryz.ntmps51
 go_wp2_with (first
  | (go_at_call 68;refine HI.out.mono ?_;rintro e w9 ⟨rfl,hw9⟩;rw [hw9];clear hw9 w9)
  | (go_at_call 114;refine (HG.out _ (Below.refl _ _)).mono ?_;rintro e w1 ⟨⟨v,rfl,ho⟩,hb⟩;obtain ⟨a1,c1,rfl⟩:=ownv ho;have O1:Hid (w1.ownsRow W.heap.size 3 1 (.slice a1 n c1) n xs):=ho;have B1:Hid (Bw W w1):=hb;clear ho hb HG))
 exact bodyPost_ret (results_tmp2 rfl _ _ _) rfl ⟨⟨_,rfl,O1.out⟩,B1.out⟩
theorem Zbu {b:Nat} {cs:List Cls} {ps:List Plc} {W:World} (h:RAt b cs W) (ht:TwW cs ps) (x:Int) (hx:plcI ps x=none):Calls Tryz.prog 51 #[.pointer (some ⟨b,0,none⟩),.int .i64 x] W fun e w'=>e=.returned (.tuple #[.slice none 0 0,.int .i64 3])∧Bw W w':=by
 have HI:Hid (Calls Tryz.prog 68 #[.pointer (some ⟨b,0,none⟩),.int .i64 x] W fun e w'=>e=.returned (.bool false)∧w'=W):=(Zbs h ht x).mono fun e w' zz=>⟨by rw [zz.1,hx];rfl,zz.2⟩
 clear h ht hx
 go_enter Tryz.func51,Tryz.ntmps51
 go_wp2_with (go_at_call 68;refine HI.out.mono ?_;rintro e w9 ⟨rfl,hw9⟩;rw [hw9];clear hw9 w9)
 exact bodyPost_ret (results_tmp2 rfl _ _ _) rfl ⟨rfl,Below.refl _ _⟩
theorem fnd_meth {ps:List Plc} {c:Int} {nm ds:ByteArray} (h:(fndI ps c nm ds).2=0):∃ x,Zo ps c (fndI ps c nm ds).1=some x:=by
 rcases Zl ps c with ⟨h1,h2⟩|⟨k,q,rfl,h2,h1⟩
 ·rw [fndI,h1] at h;exact absurd h (by show ¬ (3:Int)=0;decide)
 ·have e:fndI ps k nm ds=if Yb nm ds q.c.ms 0<0 then (0,6) else (Yb nm ds q.c.ms 0,0):=by rw [fndI,h1]
  rw [e] at h ⊢
  rcases Qb nm ds q.c.ms 0 with e2|⟨j,x,e2,hj,hn,hd⟩
  ·rw [e2,if_pos (by decide)] at h;exact absurd h (by decide)
  ·rw [e2,if_neg (by omega)]
   refine ⟨x,?_⟩
   rw [Zo,h1]
   show Y6 q ((0+j:Nat):Int)=some x
   rw [Y6,if_pos (Int.natCast_nonneg _)]
   simpa using hj
theorem has10 (f:Int):hasI f 10=(hasI f 2||hasI f 8):=by
 have e10:bits .and .i64 f 10=IntKind.wrap .i64 (((BitVec.ofInt 64 f).toNat &&& 10:Nat):Int):=rfl
 have e2:bits .and .i64 f 2=IntKind.wrap .i64 (((BitVec.ofInt 64 f).toNat &&& 2:Nat):Int):=rfl
 have e8:bits .and .i64 f 8=IntKind.wrap .i64 (((BitVec.ofInt 64 f).toNat &&& 8:Nat):Int):=rfl
 have h:(BitVec.ofInt 64 f).toNat &&& 10=((BitVec.ofInt 64 f).toNat &&& 2) ||| ((BitVec.ofInt 64 f).toNat &&& 8):=by
  rw [← Nat.and_or_distrib_left];rfl
 unfold hasI
 rw [e10,e2,e8,h]
 have h2:(BitVec.ofInt 64 f).toNat &&& 2≤2:=Nat.and_le_right
 have h2':((BitVec.ofInt 64 f).toNat &&& 2) &&& 2=(BitVec.ofInt 64 f).toNat &&& 2:=by rw [Nat.and_assoc,Nat.and_self]
 have h8:(BitVec.ofInt 64 f).toNat &&& 8≤8:=Nat.and_le_right
 have h8':((BitVec.ofInt 64 f).toNat &&& 8) &&& 8=(BitVec.ofInt 64 f).toNat &&& 8:=by rw [Nat.and_assoc,Nat.and_self]
 generalize (BitVec.ofInt 64 f).toNat &&& 2=a at *
 generalize (BitVec.ofInt 64 f).toNat &&& 8=b at *
 have ha:a=0∨a=2:=by
  have:a=0∨a=1∨a=2:=by omega
  rcases this with rfl|rfl|rfl
  ·exact .inl rfl
  ·exact absurd h2' (by decide)
  ·exact .inr rfl
 have hb:b=0∨b=8:=by
  have:b=0∨b=1∨b=2∨b=3∨b=4∨b=5∨b=6∨b=7∨b=8:=by omega
  rcases this with rfl|rfl|rfl|rfl|rfl|rfl|rfl|rfl|rfl
  ·exact .inl rfl
  all_goals first|exact .inr rfl|exact absurd h8' (by decide)
 rcases ha with rfl|rfl <;> rcases hb with rfl|rfl <;> decide
theorem RAt.flag {b:Nat} {cs:List Cls} {ps:List Plc} {w:World} (h:RAt b cs w) (ht:TwW cs ps) {k:Nat} {i:Int} {x:HM} (hx:Zo ps (k:Int) i=some x):∃ (g cap bk o n cm j:Nat),i=(j:Int)∧w.cell? ⟨b,0,none⟩=some (.slice (some ⟨g,0,none⟩) cs.length cap)∧b<w.heap.size∧g<w.heap.size∧(k:Int)<(cs.length:Int)∧w.cell? ⟨g,k * 6+5,none⟩=some (.slice (some ⟨bk,o,none⟩) n cm)∧bk<w.heap.size∧(j:Int)<(n:Int)∧w.cell? ⟨bk,o+j * 6+2,none⟩=some (.int .i64 x.fl):=by
 obtain ⟨k',q,hk,hq,_,hm⟩:=Yo hx
 have:k=k':=by omega
 subst this
 obtain ⟨c,hc,hcq⟩:=ht.tw.at' hq
 obtain ⟨g,cap,vi,vm,b0,hlt,hgl,c0,c1,c2,c3,c4,c5,hIs,hMs⟩:=RAt.cells h hc
 unfold Y6 at hm
 split at hm
 ·rename_i hi
  have hms:q.c.ms=c.ms.map hmOf:=by rw [hcq];rfl
  rw [hms,List.getElem?_map] at hm
  cases e:c.ms[i.toNat]? with
  | none=>rw [e] at hm;cases hm
  | some m =>
    rw [e] at hm
    cases hm
    have hil:=(List.getElem?_eq_some_iff.1 e).1
    obtain ⟨ao,cm,rfl,h1,h2,h3⟩:=hMs
    obtain ⟨bk,o,rfl,hbk,hat⟩:=h3 (by intro h0;rw [h0] at hil;simp at hil)
    have hM:=hat i.toNat m e
    have hkl:=(List.getElem?_eq_some_iff.1 hc).1
    exact ⟨g,cap,bk,o,c.ms.length,cm,i.toNat,by omega,b0,hlt,hgl,by omega,c5,hbk,by omega,hM.2.2.1⟩
 ·cases hm
theorem Zku {b:Nat} {cs:List Cls} {ps:List Plc} {W:World} (h:RAt b cs W) (ht:TwW cs ps) (hJ:WJ ps) (k:Nat) (q:Plc) (hq:ps[k]?=some q) (nm ds:ByteArray):Calls Tryz.prog 192 #[.pointer (some ⟨b,0,none⟩),.int .i64 (k:Int),.string nm,.string ds] W fun e w'=>(∃ v,e=.returned (.tuple #[v,.int .i64 0])∧w'.ownsRow W.heap.size 38 2 v (Zv ps nm ds q.cl).length (Zf (Zv ps nm ds q.cl)))∧Bw W w':=by
 obtain ⟨i0,hi0,hz0,hz1,hz2⟩:=info_parts Tryz.hinfoD
 have HW0:Hid (RAt b cs W):=h
 have HTW:Hid (TwW cs ps):=ht
 obtain ⟨K,hK⟩:∃ K,q.cl.length=K:=⟨_,rfl⟩
 have HK:Hid (q.cl.length=K):=hK
 have hKb:K≤300:=by
  have:=Zu k q.cl (by have:=J6 ht.wi.wo k;rw [clO,nd_at' hq] at this;exact this) (fun i hi=>(Yk ht.wi.wo (a:=k) (by rw [clO,nd_at' hq];exact hi)).1)
  have:=ht.wi.hi
  have:=(List.getElem?_eq_some_iff.1 hq).1
  omega
 have HC:Hid (∀ w,Bw W w→Calls Tryz.prog 51 #[.pointer (some ⟨b,0,none⟩),.int .i64 (k:Int)] w fun e w'=>(∃ v,e=.returned (.tuple #[v,.int .i64 0])∧w'.ownsRow w.heap.size 3 1 v q.cl.length (q.cl.map numV))∧Bw w w'):=fun w hb=>Za0 (h.below hb) ht hJ k q hq
 clear h ht hJ hq hK
 go_enter Tryz.func192,Tryz.ntmps192
 go_wp2_with (first
  | (go_at_call 51;refine (HC.out _ (Below.refl _ _)).mono ?_;rintro e w1 ⟨⟨v,rfl,ho⟩,hb⟩;rw [HK.out] at ho;obtain ⟨ca,cc,rfl⟩:=ownv ho;have O1:Hid (w1.ownsRow W.heap.size 3 1 (.slice ca K cc) K (q.cl.map numV)):=ho;have B1:Hid (Bw W w1):=hb;have HW1:Hid (RAt b cs w1):=HW0.out.below hb;clear ho hb HC))
 go_loopw [12,13] (fun sv kv wr=>∃ (j:Nat),kv=.int .i64 j∧j≤K∧Hid (wr.ownsRow w1.heap.size 38 2 sv (Zv ps nm ds (q.cl.take j)).length (Zf (Zv ps nm ds (q.cl.take j))))∧Hid (Bw w1 wr)) (fun _ kv _=>K - (intOf kv).toNat)
 case atStart=>exact ⟨0,rfl,Nat.zero_le _,World.ownsRow_nil _ _ _ _,Below.refl _ _⟩
 case round =>
  obtain ⟨j,rfl,hj,hO,hB⟩:=hrel
  by_cases hlt:j<K
  ·have hjl:j<q.cl.length:=by rw [HK.out];exact hlt
   obtain ⟨i,hi⟩:∃ i,q.cl[j]?=some i:=⟨_,List.getElem?_eq_getElem hjl⟩
   obtain ⟨g,c2,hform⟩:=Go.Joins.ownsRow_form O1.out (by omega)
   have hce:w1.cell? ⟨g,j,none⟩=some (.int .i64 (i:Int)):=by
    have hrow:=O1.out
    rw [hform] at hrow
    rw [hrow.cellAt j (by omega),List.getElem?_map,hi];rfl
   injection hform with hca _ hcc
   subst hca hcc
   have hgl:g<w1.heap.size:=World.block_lt_of_cell? w1 _ hce
   have hcr:=(hB.out.cell (p:=⟨g,j,none⟩) hgl).trans hce
   have hgr:g<wr.heap.size:=Nat.lt_of_lt_of_le hgl hB.out.size
   have hst:=Zdi (ps:=ps) (nm:=nm) (ds:=ds) hi
   have hal:(Zv ps nm ds (q.cl.take j)).length≤300:=by
    have:=Qt ps nm ds (q.cl.take j)
    rw [List.length_take] at this
    omega
   have HRr:Hid (RAt b cs wr):=HW1.out.below hB.out
   have HF:Hid (Calls Tryz.prog 86 #[.pointer (some ⟨b,0,none⟩),.int .i64 (i:Int),.string nm,.string ds] wr fun e w'=>e=.returned (.tuple #[.int .i64 (fndI ps i nm ds).1,.int .i64 (fndI ps i nm ds).2])∧Bw wr w'):=Zgy HRr.out HTW.out i nm ds
   have hfl:(fndI ps i nm ds).2=0→∃ x,Zo ps (i:Int) (fndI ps i nm ds).1=some x∧hasS ps i (fndI ps i nm ds).1 10=(hasI x.fl 2||hasI x.fl 8):=fun h0=>by
    obtain ⟨x,hx⟩:=fnd_meth h0
    exact ⟨x,hx,by rw [hasS,hx];exact has10 _⟩
   rw [Zex] at hst
   obtain ⟨L,hL⟩:∃ L,Zv ps nm ds (q.cl.take j)=L:=⟨_,rfl⟩
   rw [hL] at hst hal hO
   obtain ⟨va,vn,rfl⟩:=ownv hO.out
   generalize fndI ps i nm ds=F at *
   obtain ⟨F1,F2⟩:=F
   simp only at hst HF hfl
   generalize hasS ps i F1 10=S at *
   clear hce hi hjl hL
   have HST:Hid (Zv ps nm ds (List.take (j+1) q.cl)=L++if F2=0∧S=false then [((i:Int),F1)] else []):=hst
   clear hst
   by_cases hF:F2=0
   ·subst hF
    obtain ⟨x,hx,hS⟩:=hfl rfl
    have H2:Hid (∀ w:World,Calls Tryz.prog 62 #[.int .i64 x.fl,.int .i64 2] w fun e w'=>e=.returned (.bool (hasI x.fl 2))∧w'=w):=Zw x.fl 2
    have H8:Hid (∀ w:World,Calls Tryz.prog 62 #[.int .i64 x.fl,.int .i64 8] w fun e w'=>e=.returned (.bool (hasI x.fl 8))∧w'=w):=Zw x.fl 8
    have HFL:Hid (∀ w,RAt b cs w→∃ (g cap bk o n cm j:Nat),F1=(j:Int)∧w.cell? ⟨b,0,none⟩=some (.slice (some ⟨g,0,none⟩) cs.length cap)∧b<w.heap.size∧g<w.heap.size∧(i:Int)<(cs.length:Int)∧w.cell? ⟨g,i * 6+5,none⟩=some (.slice (some ⟨bk,o,none⟩) n cm)∧bk<w.heap.size∧(j:Int)<(n:Int)∧w.cell? ⟨bk,o+j * 6+2,none⟩=some (.int .i64 x.fl)):=fun w hw=>hw.flag HTW.out hx
    generalize x.fl=fl at *
    generalize hasI fl 2=z2 at *
    generalize hasI fl 8=z8 at *
    clear hx hfl
    go_wp2_with (first
     | (go_at_call 86;refine HF.out.mono ?_;rintro e w2 ⟨rfl,hb⟩;have B2:Hid (Bw w1 w2):=Za hB.out hb;have O2:Hid (w2.ownsRow w1.heap.size 38 2 (.slice va L.length vn) L.length (Zf L)):=Zb hO.out hb;have hcr2:w2.cell? ⟨g,j,none⟩=some (.int .i64 (i:Int)):=(hb.cell (p:=⟨g,j,none⟩) hgr).trans hcr;have HR2:Hid (RAt b cs w2):=HRr.out.below hb;clear hb HF hcr))
    obtain ⟨g9,cap9,bk9,o9,n9,cm9,j9,rfl,c91,c92,c93,c94,c95,c96,c97,c98⟩:=HFL.out _ HR2.out
    go_region
    have O3:Hid (w2.drew.ownsRow w1.heap.size 38 2 (.slice va L.length vn) L.length (Zf L)):=Zb O2.out ((Below.refl _ _).drew)
    have B3:Hid (Bw w1 w2.drew):=B2.out.drew
    have hcr3:w2.drew.cell? ⟨g,j,none⟩=some (.int .i64 (i:Int)):=(((Below.refl w2.heap.size w2).drew).cell (p:=⟨g,j,none⟩) (World.block_lt_of_cell? w2 _ hcr2)).trans hcr2
    have hgl3:g<w2.drew.heap.size:=World.block_lt_of_cell? _ _ hcr3
    generalize w2.drew=w3 at *
    have hgn3:¬ g=w3.heap.size:=by omega
    clear c91 c92 c93 c94 c95 c96 c97 c98 O2 B2 hcr2 HR2 HFL HRr
    cases z2 with
    | true =>
      have hst2:Zv ps nm ds (List.take (j+1) q.cl)=L:=by rw [HST.out,hS,if_neg (by simp)];simp
      clear HST
      go_wp2_with (first
       | (go_at_call 62;refine (H2.out _).mono ?_;rintro e w9 ⟨rfl,hw9⟩;rw [hw9];clear hw9 w9))
      refine ⟨⟨j+1,by simp,by omega,?_,B3⟩,by simp [intOf];omega⟩
      rw [hst2];exact O3
    | false=>cases z8 with
      | true =>
        have hst2:Zv ps nm ds (List.take (j+1) q.cl)=L:=by rw [HST.out,hS,if_neg (by simp)];simp
        clear HST
        go_wp2_with (first
         | (go_at_call 62;refine (H2.out _).mono ?_;rintro e w9 ⟨rfl,hw9⟩;rw [hw9];clear hw9 w9 H2)
         | (go_at_call 62;refine (H8.out _).mono ?_;rintro e w9 ⟨rfl,hw9⟩;rw [hw9];clear hw9 w9))
        refine ⟨⟨j+1,by simp,by omega,?_,B3⟩,by simp [intOf];omega⟩
        rw [hst2];exact O3
      | false =>
        have hst2:Zv ps nm ds (List.take (j+1) q.cl)=L++[((i:Int),(j9:Int))]:=by rw [HST.out,hS,if_pos (by simp)]
        clear HST
        go_wp2_with (first
         | (go_at_call 62;refine (H2.out _).mono ?_;rintro e w9 ⟨rfl,hw9⟩;rw [hw9];clear hw9 w9 H2)
         | (go_at_call 62;refine (H8.out _).mono ?_;rintro e w9 ⟨rfl,hw9⟩;rw [hw9];clear hw9 w9)
         | (at_builtin;refine wpList_append_own _ rfl _ _ 30 rfl w1.heap.size 38 i0 (.agg #[.int .i64 0,.int .i64 0]) 2 16 Tryz.underlying30 hi0 hz0 hz1 hz2 rfl (by decide) (.slice va L.length vn) L.length (Zf L) rfl (O3.out.alloc _) ⟨w3.heap.size,0,none⟩ 1 1 [.int .i64 (i:Int),.int .i64 (j9:Int)] rfl rfl ?c1 ?c2 ?c3 ?c4 ?c5 ?_))
        case c1=>intro jj u hj;rw [addr_add];match jj,hj with
         | 0,hj=>simp at hj;subst hj;simp [go_sem]
         | 1,hj=>simp at hj;subst hj;simp [go_sem]
         | (jj+2),hj=>simp at hj
        case c2=>intro u hu;simp at hu;rcases hu with rfl|rfl <;> rfl
        case c3=>unfold maxLen;omega
        case c4=>omega
        case c5=>have:=B3.out.size;simp;omega
        intro v' w4 hown hgrow _
        obtain ⟨va2,vn2,rfl⟩:=ownv hown
        have B4:Hid (Bw w1 w4):=by
         have hb1:Bw w1 (w3.alloc (.cells #[.int .i64 (i:Int),.int .i64 (j9:Int)] 38)):=B3.out.alloc B3.out.size _
         refine hb1.grown hgrow hb1.size (fun x hx=>?_)
         have:=(O3.out.lt x hx).1
         omega
        have O4:Hid (w4.ownsRow w1.heap.size 38 2 (.slice va2 (L.length+1) vn2) (L++[((i:Int),(j9:Int))]).length (Zf (L++[((i:Int),(j9:Int))]))):=by
         rw [Hid,List.length_append,Y2];exact hown
        go_wp2
        refine ⟨⟨j+1,by simp,by omega,?_,B4⟩,by simp [intOf];omega⟩
        rw [hst2];exact O4
   ·have hst2:Zv ps nm ds (List.take (j+1) q.cl)=L:=by rw [HST.out,if_neg (fun h=>hF h.1)];simp
    clear HST hfl
    go_wp2_with (first
     | (go_at_call 86;refine HF.out.mono ?_;rintro e w2 ⟨rfl,hb⟩;have B2:Hid (Bw w1 w2):=Za hB.out hb;have O2:Hid (w2.ownsRow w1.heap.size 38 2 (.slice va L.length vn) L.length (Zf L)):=Zb hO.out hb;clear hb HF))
    refine ⟨⟨j+1,by simp,by omega,?_,B2⟩,by simp [intOf];omega⟩
    rw [hst2];exact O2
  ·have e:j=K:=by omega
   subst e
   have HE:Hid (Zv ps nm ds (q.cl.take j)=Zv ps nm ds q.cl):=by rw [Hid,List.take_of_length_le (by rw [HK.out];exact Nat.le_refl _)]
   rw [HE.out] at hO
   obtain ⟨va,vn,rfl⟩:=ownv hO.out
   go_wp2
   exact bodyPost_ret (results_tmp2 rfl _ _ _) rfl ⟨⟨_,rfl,Go.Joins.ownsRow_le hO.out B1.out.size⟩,B1.out.trans (hB.out.mono B1.out.size)⟩
theorem rCand_no {b:Nat} {cs:List Cls} {ps:List Plc} {W:World} (h:RAt b cs W) (ht:TwW cs ps) (c:Int) (hc:plcI ps c=none) (nm ds:ByteArray):Calls Tryz.prog 192 #[.pointer (some ⟨b,0,none⟩),.int .i64 c,.string nm,.string ds] W fun e w'=>e=.returned (.tuple #[.slice none 0 0,.int .i64 3])∧Bw W w':=by
 have HC:Hid (Calls Tryz.prog 51 #[.pointer (some ⟨b,0,none⟩),.int .i64 c] W fun e w'=>e=.returned (.tuple #[.slice none 0 0,.int .i64 3])∧Bw W w'):=Zbu h ht c hc
 clear h ht hc
 go_enter Tryz.func192,Tryz.ntmps192
 go_wp2_with (go_at_call 51;refine HC.out.mono ?_;rintro e w1 ⟨rfl,hb⟩;have B1:Hid (Bw W w1):=hb;clear hb HC)
 exact bodyPost_ret (results_tmp2 rfl _ _ _) rfl ⟨rfl,B1.out⟩
theorem RAt.meth {b:Nat} {cs:List Cls} {ps:List Plc} {w:World} (h:RAt b cs w) (ht:TwW cs ps) {k:Nat} {i:Int} {x:HM} (hx:Zo ps (k:Int) i=some x):∃ (g cap bk n cm j:Nat) (ac:Option Addr) (cc:Nat),i=(j:Int)∧w.cell? ⟨b,0,none⟩=some (.slice (some ⟨g,0,none⟩) cs.length cap)∧b<w.heap.size∧g<w.heap.size∧(k:Int)<(cs.length:Int)∧w.cell? ⟨g,k * 6+5,none⟩=some (.slice (some ⟨bk,0,none⟩) n cm)∧bk<w.heap.size∧(j:Int)<(n:Int)∧w.cell? ⟨bk,j * 6,none⟩=some (.string x.nm)∧w.cell? ⟨bk,j * 6+1,none⟩=some (.string x.ds)∧w.cell? ⟨bk,j * 6+2,none⟩=some (.int .i64 x.fl)∧w.cell? ⟨bk,j * 6+3,none⟩=some (.int .i64 x.lo)∧w.cell? ⟨bk,j * 6+4,none⟩=some (.int .i64 x.st)∧w.cell? ⟨bk,j * 6+5,none⟩=some (.slice ac x.n cc)∧Rds w (.slice ac x.n cc) x.n 7 x.xs∧(∀ u∈x.xs,u.oneCell'=true)∧x.n≤1000000:=by
 obtain ⟨k',q,hk,hq,_,hm⟩:=Yo hx
 have:k=k':=by omega
 subst this
 obtain ⟨c,hc,hcq⟩:=ht.tw.at' hq
 have hcd:=(ht.wi.pb q (List.mem_of_getElem? hq)).cd
 obtain ⟨N,v,rs,hW,hrc⟩:=h
 have hc2:=hc
 rw [← hrc,List.getElem?_map] at hc2
 cases er:rs[k]? with
 | none=>rw [er] at hc2;cases hc2
 | some r =>
   rw [er] at hc2
   have hrcc:r.c=c:=Option.some.inj hc2
   have hkl:=(List.getElem?_eq_some_iff.1 er).1
   obtain ⟨g,cap,rfl⟩:=Go.Joins.ownsRow_form hW.row (by omega)
   have hat:=(hW.row.cellAt (k * 6+5) (by omega)).trans (Zig rs k r er 5 (by omega))
   have b0:=cell_of_row w b 0 _ _ _ hW.hb
   simp only [List.getElem?_toArray,List.getElem?_cons_zero] at b0
   obtain ⟨qm,hqm,ho⟩:=hW.own r (List.mem_of_getElem? er)
   unfold Y6 at hm
   split at hm
   ·rename_i hi
    have hms:q.c.ms=qm.map Prod.fst:=by rw [hqm,hrcc,hcq];rfl
    have hxm:x∈q.c.ms:=List.mem_of_getElem? hm
    rw [hms,List.getElem?_map] at hm
    cases e:qm[i.toNat]? with
    | none=>rw [e] at hm;cases hm
    | some p =>
      rw [e] at hm
      have hpx:p.1=x:=Option.some.inj hm
      have hil:=(List.getElem?_eq_some_iff.1 e).1
      obtain ⟨bk,cm,hvm⟩:=Go.Joins.ownsRow_form ho.ms (by omega)
      have hmr:=ho.ms
      rw [hvm] at hmr
      have hcell:=fun j hj=>(hmr.cellAt (i.toNat * 6+j) (by omega)).trans (Zz qm i.toNat p e j hj)
      have hco:=ho.cod p (List.mem_of_getElem? e)
      obtain ⟨ac,cc,hp2⟩:=ownv hco
      have h0:w.cell? ⟨bk,i.toNat * 6,none⟩=some (.string x.nm):=by rw [← hpx];exact hcell 0 (by omega)
      have hgb:=World.block_lt_of_cell? w _ (show w.cell? ⟨g,k * 6+5,none⟩=some r.vm from hat)
      refine ⟨g,cap,bk,qm.length,cm,i.toNat,ac,cc,by omega,?_,(Array.getElem?_eq_some_iff.1 hW.hb).1,hgb,?_,?_,World.block_lt_of_cell? w _ h0,by omega,h0,?_,?_,?_,?_,?_,?_,(hcd x hxm).1,(hcd x hxm).2⟩
      ·rw [← hrc,List.length_map];exact b0
      ·rw [← hrc,List.length_map];omega
      ·rw [← hvm];exact hat
      ·rw [← hpx];exact hcell 1 (by omega)
      ·rw [← hpx];exact hcell 2 (by omega)
      ·rw [← hpx];exact hcell 3 (by omega)
      ·rw [← hpx];exact hcell 4 (by omega)
      ·have:=hcell 5 (by omega)
       rw [← hpx,← hp2];exact this
      ·rw [hp2] at hco
       rw [← hpx]
       exact Yd hco
   ·cases hm
theorem Zc2 {iface:Bool} {all:List Mth}:∀ {l:List Mth} {k:Nat},Y5 iface all l k=true→∀ m∈l,mthB m iface=true
 | [],_,_,m,hm=>by cases hm
 | x::r,k,h,m,hm=>by
   rw [Y5,Bool.and_eq_true,Bool.and_eq_true] at h
   rcases List.mem_cons.1 hm with rfl|hm
   ·exact h.1.1
   ·exact Zc2 h.2 m hm
theorem Zk2 {f:Int} {i n:Bool} (h:chkM f i n=0) (h2:hasI f 2=true):Xa f=2∧hasI f 1024=false:=by
 have hv:¬ 1<visN f:=by
  intro hv
  rw [chkM] at h
  simp [hv] at h
 have ha:hasI f 1024=false:=by
  cases e:hasI f 1024 with
  | false=>rfl
  | true =>
    rw [chkM] at h
    simp [e,h2] at h
 refine ⟨?_,ha⟩
 unfold visN at hv
 unfold Xa
 cases e1:hasI f 1 <;> cases e4:hasI f 4 <;> simp [e1,e4,h2] at hv ⊢
def UnqM (ps:List Plc):Prop:=∀ q∈ps,∀ (i:Nat) (m:HM),q.c.ms[i]?=some m→Yb m.nm m.ds q.c.ms 0=(i:Int)
theorem Zih (nm ds:ByteArray):∀ (l:List Mth) (k:Nat),Yb nm ds (l.map hmOf) k=Yn nm ds l k
 | [],_=>rfl
 | m::r,k=>by
   rw [List.map_cons,Yb,Yn,Zih nm ds r (k+1)]
   rfl
theorem Zfr {iface:Bool} {all:List Mth}:∀ {l:List Mth} {k:Nat},Y5 iface all l k=true→∀ (i:Nat) (m:Mth),l[i]?=some m→Yn m.nm m.ds all 0=((k+i:Nat):Int)
 | [],_,_,_,_,hm=>by simp at hm
 | x::r,k,h,i,m,hm=>by
   rw [Y5,Bool.and_eq_true,Bool.and_eq_true,beq_iff_eq] at h
   cases i with
   | zero =>
     simp only [List.getElem?_cons_zero,Option.some.injEq] at hm
     subst hm
     exact h.1.2
   | succ i =>
     rw [List.getElem?_cons_succ] at hm
     have:=Zfr h.2 i m hm
     rw [this];congr 1;omega
theorem unqObj:(objMs.zipIdx.all fun p=>Yb p.1.nm p.1.ds objMs 0 == (p.2:Int))=true:=by kernel_rfl
theorem unqM3:UnqM P3:=by
 intro q hq i m hm
 simp only [P3,List.mem_cons,List.not_mem_nil,or_false] at hq
 rcases hq with rfl|rfl|rfl
 ·have:=List.all_eq_true.1 unqObj (m,i) (List.mem_zipIdx_iff_getElem?.2 hm)
  exact beq_iff_eq.1 this
 ·simp [cloH] at hm
 ·simp [serH] at hm
theorem unqM_wld (l:List Cls) (hl:∀ c∈l,ClsW c):UnqM (wld l):=by
 refine Zad unqM3 (fun ps c h _=>?_) l hl
 cases hd:defN ps c with
 | error e=>exact h
 | ok p =>
   obtain ⟨hB,_,_,s,l,_,_,rfl⟩:=Zcb hd
   intro q hq i m hm
   rcases List.mem_append.1 (show q∈ps++[_] from hq) with hq|hq
   ·exact h q hq i m hm
   ·rw [List.mem_singleton] at hq
    subst hq
    have hm2:(c.ms.map hmOf)[i]?=some m:=hm
    rw [List.getElem?_map] at hm2
    obtain ⟨m0,hm0,rfl⟩:=Option.map_eq_some_iff.1 hm2
    rw [clsB,Bool.and_eq_true] at hB
    have:=Zfr hB.2 i m0 hm0
    show Yb m0.nm m0.ds (c.ms.map hmOf) 0=(i:Int)
    rw [Zih,this,Nat.zero_add]
theorem find_congr {nm ds nm2 ds2:ByteArray} (h1:nm.toList=nm2.toList) (h2:ds.toList=ds2.toList):∀ (l:List HM) (k:Nat),Yb nm ds l k=Yb nm2 ds2 l k
 | [],_=>rfl
 | m::r,k=>by rw [Yb,Yb,h1,h2,find_congr h1 h2 r (k+1)]
theorem UnqM.fnd {ps:List Plc} (h:UnqM ps) {c i:Int} {m:HM} (hm:Zo ps c i=some m) {nm ds:ByteArray} (h1:m.nm.toList=nm.toList) (h2:m.ds.toList=ds.toList):fndI ps c nm ds=(i,0):=by
 obtain ⟨k,q,rfl,hq,hp,hm2⟩:=Yo hm
 rw [Y6] at hm2
 split at hm2
 ·rename_i hi
  have:=h q (List.mem_of_getElem? hq) i.toNat m hm2
  have e:Yb nm ds q.c.ms 0=i:=by rw [← find_congr h1 h2,this];omega
  rw [fndI,hp]
  simp only [e]
  rw [if_neg (by omega)]
 ·cases hm2
theorem X5 {ps:List Plc} {a b:Int} (h:extI ps a b=true):∃ i j:Nat,a=(i:Int)∧b=(j:Int)∧i<ps.length∧j<ps.length∧extB (ps.map nd) i j=true:=by
 rw [extI,Bool.and_eq_true,Bool.and_eq_true] at h
 obtain ⟨⟨h1,h2⟩,h3⟩:=h
 rcases Zl ps a with ⟨e,_⟩|⟨i,q,rfl,hq,_⟩
 ·rw [e] at h1;cases h1
 ·rcases Zl ps b with ⟨e,_⟩|⟨j,r,rfl,hr,_⟩
  ·rw [e] at h2;cases h2
  ·exact ⟨i,j,rfl,rfl,(List.getElem?_eq_some_iff.1 hq).1,(List.getElem?_eq_some_iff.1 hr).1,h3⟩
theorem extI_tr {ps:List Plc} (hW:WI ps) {a b c:Int} (h1:extI ps a b=true) (h2:extI ps b c=true):extI ps a c=true:=by
 obtain ⟨i,j,rfl,rfl,hi,hj,e1⟩:=X5 h1
 obtain ⟨j2,k,hjj,rfl,_,hk,e2⟩:=X5 h2
 obtain rfl:j=j2:=by omega
 rw [Zer hi hk]
 exact Zl2 hW.wo (by simpa using hi) e1 e2
theorem Zes {ps:List Plc} (hW:WI ps) {a b:Int} (h1:extI ps a b=true):b≤a:=by
 obtain ⟨i,j,rfl,rfl,hi,hj,e1⟩:=X5 h1
 have:=ext_le hW.wo (by simpa using hi) e1
 omega
theorem Zl3 {ps:List Plc} {c i:Int} {m:HM} (h:Zo ps c i=some m):extI ps c c=true:=by
 obtain ⟨k,q,rfl,hq,_,_⟩:=Yo h
 have:=(List.getElem?_eq_some_iff.1 hq).1
 rw [Zer this this]
 exact ext_self _ _
theorem Zbd {ps:List Plc} {x y:Int×Int} (h:plI ps x y=true):∃ mx my,Zo ps x.1 x.2=some mx∧Zo ps y.1 y.2=some my∧mx.nm.toList=my.nm.toList∧mx.ds.toList=my.ds.toList∧stB mx.fl=false∧stB my.fl=false∧x.1≠y.1∧ifcI ps x.1=false∧extI ps x.1 y.1=true:=by
 rw [plI] at h
 cases hx:Zo ps x.1 x.2 with
 | none=>rw [hx] at h;cases h
 | some mx =>
   cases hy:Zo ps y.1 y.2 with
   | none=>rw [hx,hy] at h;cases h
   | some my =>
     rw [hx,hy] at h
     simp only [plnB,freB,bloB,Bool.and_eq_true,Bool.not_eq_true',beq_iff_eq,beq_eq_false_iff_ne] at h
     obtain ⟨⟨⟨⟨⟨⟨h1,h2⟩,h3⟩,h4⟩,h5⟩,_⟩,_⟩:=h
     exact ⟨mx,my,rfl,rfl,h3,h4,h1.1,h2.1,h5.1.1,h5.1.2,h5.2⟩
def OvN (ps:List Plc) (a:Int×Int):Nat→Int×Int→Prop
 | 0,x=>x=a∧stI ps a=false
 | n+1,x=>∃ y,OvN ps a n y∧plI ps x y=true
def Ov (ps:List Plc) (a x:Int×Int):Prop:=∃ n,OvN ps a n x
theorem Ov.step {ps:List Plc} {a x y:Int×Int} (h:Ov ps a y) (hp:plI ps x y=true):Ov ps a x:=by
 obtain ⟨n,hn⟩:=h
 exact ⟨n+1,y,hn,hp⟩
theorem Yp {ps:List Plc} (hW:WI ps) {a:Int×Int} {ma:HM} (ha:Zo ps a.1 a.2=some ma):∀ (n:Nat) (x:Int×Int),OvN ps a n x→∃ mx,Zo ps x.1 x.2=some mx∧mx.nm.toList=ma.nm.toList∧mx.ds.toList=ma.ds.toList∧stB mx.fl=false∧extI ps x.1 a.1=true∧(x=a∨(ifcI ps x.1=false∧a.1<x.1))
 | 0,x,h=>by
   obtain ⟨rfl,hs⟩:=h
   refine ⟨ma,ha,rfl,rfl,?_,Zl3 ha,.inl rfl⟩
   rw [stI,ha] at hs
   exact hs
 | n+1,x,h=>by
   obtain ⟨y,hy,hp⟩:=h
   obtain ⟨my,hmy,e1,e2,_,e4,e5⟩:=Yp hW ha n y hy
   obtain ⟨mx,my2,hmx,hmy2,f1,f2,f3,_,f5,f6,f7⟩:=Zbd hp
   rw [hmy] at hmy2
   cases hmy2
   have hle:=Zes hW f7
   have hle2:=Zes hW e4
   exact ⟨mx,hmx,f1.trans e1,f2.trans e2,f3,extI_tr hW f7 e4,.inr ⟨f6,by omega⟩⟩
theorem Zll {ps:List Plc} {a:Int×Int}:∀ (l k:List (Int×Int)),(∀ y∈k,Ov ps a y)→∀ x∈l.foldl (gth1 ps a) k,Ov ps a x
 | [],_,hk,x,hx=>hk x hx
 | c::r,k,hk,x,hx=>by
   rw [List.foldl_cons] at hx
   refine Zll r _ (fun y hy=>?_) x hx
   rw [gth1] at hy
   split at hy
   ·rename_i hc
    rcases List.mem_append.1 hy with hy|hy
    ·exact hk y hy
    ·rw [List.mem_singleton] at hy
     subst hy
     rw [Bool.or_eq_true] at hc
     rcases hc with hc|hc
     ·rw [Bool.and_eq_true,Zav] at hc
      obtain ⟨rfl,hs⟩:=hc
      exact ⟨0,rfl,by simpa using hs⟩
     ·obtain ⟨z,hz,hp⟩:=List.any_eq_true.1 hc
      exact (hk z hz).step hp
   ·exact hk y hy
theorem Zmh {ns:List Nd} (h:WO ns) (a:Nat) (ha:a<ns.length):(chL ns a).Pairwise (· > ·):=by
 refine Zcc h (P:=fun k=>(chL ns k).Pairwise (· > ·)) ?_ (fun k hk h0 hlt ih=>?_) a ha
 ·rw [Ys];exact List.pairwise_singleton _ _
 ·rw [Yt h hk h0]
  refine List.pairwise_cons.2 ⟨fun b hb=>?_,ih⟩
  have:=Zjs h _ (by omega) b hb
  omega
theorem Zd3 {ps:List Plc} {nm ds:ByteArray} {a:Int}:∀ {l:List Nat} {c:Nat},c∈l→(fndI ps (c:Int) nm ds).2=0→(c:Int)≠a→((c:Int),(fndI ps (c:Int) nm ds).1)∈nskL ps nm ds a l
 | [],_,h,_,_=>by cases h
 | d::r,c,h,h1,h2=>by
   rw [nskL]
   rcases List.mem_cons.1 h with rfl|h
   ·rw [if_pos ⟨h1,h2⟩];exact List.mem_cons_self
   ·split
    ·exact List.mem_cons_of_mem _ (Zd3 h h1 h2)
    ·exact Zd3 h h1 h2
theorem Zj6 {l:List Nat} (hl:l.Pairwise (· < ·)) {n d x:Nat} (hd:l[n]?=some d) (hx:x∈l) (hlt:x<d):x∈l.take n:=by
 obtain ⟨i,hi,rfl⟩:=List.getElem_of_mem hx
 obtain ⟨hn,rfl⟩:=List.getElem?_eq_some_iff.1 hd
 have hin:i<n:=by
  rcases Nat.lt_trichotomy i n with h|h|h
  ·exact h
  ·subst h;omega
  ·have:=List.pairwise_iff_getElem.1 hl n i hn hi h;omega
 exact List.mem_take_iff_getElem.2 ⟨i,by omega,rfl⟩
theorem gth_all {ps:List Plc} (hW:WI ps) (hU:UnqM ps) {a:Int×Int} {ma:HM} (ha:Zo ps a.1 a.2=some ma) {ck:Nat} (hck:ck<ps.length):∀ n:Nat,∀ x∈askL ps ma a ((chL (ps.map nd) ck).reverse.take n),Ov ps a x→x∈gthL ps a (askL ps ma a ((chL (ps.map nd) ck).reverse.take n)):=by
 have hckl:ck<(ps.map nd).length:=by simpa using hck
 have hasc:(chL (ps.map nd) ck).reverse.Pairwise (· < ·):=by
  rw [List.pairwise_reverse]
  exact Zmh hW.wo ck hckl
 intro n
 induction n with
 | zero =>
   intro x hx ho
   rw [List.take_zero,askL,nskL,List.mem_singleton] at hx
   subst hx
   obtain ⟨n,hn⟩:=ho
   obtain ⟨mx,hmx,_,_,hs,_⟩:=Yp hW ha n _ hn
   have hst:stI ps x=false:=by rw [stI,hmx];exact hs
   rw [List.take_zero,askL,nskL,gthL,List.foldl_cons,List.foldl_nil,gth1,hst,Zav.2 rfl]
   exact List.mem_singleton.2 rfl
 | succ n ih =>
   intro x hx ho
   by_cases hn:n<(chL (ps.map nd) ck).reverse.length
   ·obtain ⟨d,hd⟩:∃ d,(chL (ps.map nd) ck).reverse[n]?=some d:=⟨_,List.getElem?_eq_getElem hn⟩
    have hst:=Zb0 (ps:=ps) (nm:=ma.nm) (ds:=ma.ds) (a:=a.1) hd
    have hask:askL ps ma a ((chL (ps.map nd) ck).reverse.take (n+1))=askL ps ma a ((chL (ps.map nd) ck).reverse.take n)++(if (fndI ps (d:Int) ma.nm ma.ds).2=0∧(d:Int)≠a.1 then [((d:Int),(fndI ps (d:Int) ma.nm ma.ds).1)] else []):=by rw [askL,hst,askL,List.cons_append]
    rw [hask] at hx ⊢
    by_cases hc:(fndI ps (d:Int) ma.nm ma.ds).2=0∧(d:Int)≠a.1
    ·rw [if_pos hc] at hx ⊢
     rw [Zb4,gth1]
     rcases List.mem_append.1 hx with hx|hx
     ·have:=ih x hx ho
      split
      ·exact List.mem_append_left _ this
      ·exact this
     ·rw [List.mem_singleton] at hx
      subst hx
      obtain ⟨k,hk⟩:=ho
      cases k with
      | zero=>exact absurd (congrArg Prod.fst hk.1) hc.2
      | succ k =>
        obtain ⟨y,hy,hp⟩:=hk
        have hyk:y∈gthL ps a (askL ps ma a ((chL (ps.map nd) ck).reverse.take n)):=by
         refine ih y ?_ ⟨k,hy⟩
         obtain ⟨my,hmy,e1,e2,_,_,e5⟩:=Yp hW ha k y hy
         rcases e5 with rfl|⟨hif,hlt⟩
         ·rw [askL];exact List.mem_cons_self
         ·obtain ⟨_,_,_,_,_,_,_,_,hne,_,hex⟩:=Zbd hp
          obtain ⟨i,j,hi,hj,hil,hjl,he⟩:=X5 hex
          obtain rfl:d=i:=by simp only at hi;omega
          have hdc:d∈chL (ps.map nd) ck:=List.mem_reverse.1 (List.mem_of_getElem? hd)
          have hjd:j∈chL (ps.map nd) d:=by
           rcases (Zau _ _ _).1 he with h|h
           ·exact h
           ·exfalso
            obtain ⟨_,_,p,hp1,hp2,_⟩:=Yk hW.wo h
            rw [hj,ifcI,Z6] at hif
            rw [List.getElem?_map] at hp1
            obtain ⟨q,hq,rfl⟩:=Option.map_eq_some_iff.1 hp1
            rw [hq] at hif
            have:(nd q).i=false:=hif
            rw [this] at hp2
            cases hp2
          have hjc:j∈chL (ps.map nd) ck:=Zeu hW.wo ck hckl d hdc j hjd
          have hjlt:j<d:=by
           have h1:=Zjs hW.wo d (by have:=Zjs hW.wo ck hckl d hdc;omega) j hjd
           have h2:j≠d:=fun e=>hne (by rw [hj,e])
           omega
          have hf:=hU.fnd hmy e1 e2
          have hyy:y=((j:Int),(fndI ps (j:Int) ma.nm ma.ds).1):=by
           rw [hj] at hf
           rw [hf]
           exact Prod.ext hj rfl
          rw [askL,hyy]
          refine List.mem_cons_of_mem _ (Zd3 (Zj6 hasc hd (List.mem_reverse.2 hjc) hjlt) ?_ (by omega))
          rw [hj] at hf
          rw [hf]
        rw [if_pos (by rw [Bool.or_eq_true];exact .inr (List.any_eq_true.2 ⟨y,hyk,hp⟩))]
        exact List.mem_append_right _ (List.mem_singleton.2 rfl)
    ·rw [if_neg hc,List.append_nil] at hx ⊢
     exact ih x hx ho
   ·have e1:(chL (ps.map nd) ck).reverse.take (n+1)=(chL (ps.map nd) ck).reverse.take n:=by rw [List.take_of_length_le (by omega),List.take_of_length_le (by omega)]
    rw [e1] at hx ⊢
    exact ih x hx ho
theorem Zk5 {ps:List Plc} (hW:WI ps) (hU:UnqM ps) {a c:Int×Int} {ma mc:HM} (ha:Zo ps a.1 a.2=some ma) (hc:Zo ps c.1 c.2=some mc):(ovrI ps c a).2=0∧((ovrI ps c a).1=true↔Ov ps a c):=by
 obtain ⟨ck,q,hck,hq,_,_⟩:=Yo hc
 have hlt:=(List.getElem?_eq_some_iff.1 hq).1
 have e:ovrI ps c a=((gthL ps a (askL ps ma a (chL (ps.map nd) ck).reverse)).any (eqI c),0):=by
  rw [ovrI,hc,ha]
  simp only [hck,Int.toNat_natCast]
 rw [e]
 refine ⟨rfl,?_⟩
 constructor
 ·intro h
  obtain ⟨x,hx,he⟩:=List.any_eq_true.1 h
  rw [Zav] at he
  subst he
  exact Zll _ [] (fun y hy=>by cases hy) c hx
 ·intro h
  refine List.any_eq_true.2 ⟨c,?_,Zav.2 rfl⟩
  have hall:=gth_all hW hU ha hlt (chL (ps.map nd) ck).reverse.length c
  rw [List.take_length] at hall
  refine hall ?_ h
  obtain ⟨n,hn⟩:=h
  obtain ⟨mx,hmx,e1,e2,_,_,e5⟩:=Yp hW ha n c hn
  rcases e5 with rfl|⟨_,hlt2⟩
  ·rw [askL];exact List.mem_cons_self
  ·have hf:=hU.fnd hmx e1 e2
   rw [hck] at hf
   have hcc:c=((ck:Int),(fndI ps (ck:Int) ma.nm ma.ds).1):=by rw [hf];exact Prod.ext hck rfl
   rw [askL,hcc]
   refine List.mem_cons_of_mem _ (Zd3 (List.mem_reverse.2 (Zev _ _)) (by rw [hf]) (by omega))
end Go.Proofs.YtmafkabjjibcbaaGreat
