import Derived.Test.YtjlfnelihbdhjaaGreatRfL
import Derived.Test.YtjlfnelihbdhjaaGreatHrZ
import Derived.Test.YtjlfnelihbdhjaaGreatMxC
import Derived.Test.YtjlfnelihbdhjaaGreatHrS
import Derived.Test.YtjlfnelihbdhjaaGreatRwB
set_option maxRecDepth 100000
namespace Go.Proofs.YtjlfnelihbdhjaaGreat
open Go.RowKit Go.Maps
set_option maxHeartbeats 4000000 in
theorem rGather_any {b:Nat} {cs:List Cls} {ps:List Plc} {W:World} (h:RAt b cs W) (ht:TwW cs ps) (hJ:WJ ps):∀ (id:Nat),id<ps.length→∀ (w:World) (v:Value) (l:List Nat),Below W.heap.size W w→w.ownsRow W.heap.size 3 1 v l.length (l.map numV)→ClL ps l→Calls Tryz.prog 193 #[.pointer (some ⟨b,0,none⟩),.int .i64 (id:Int),v] w fun e w'=>(∃ v',e=.returned v'∧w'.ownsRow W.heap.size 3 1 v' (takeL l (clO (ps.map nd) id)).length ((takeL l (clO (ps.map nd) id)).map numV))∧Below W.heap.size W w':=by
  intro id
  induction id using Nat.strongRecOn with
  | _ id ih =>
  intro hid w v l hw hrow hcl
  obtain ⟨i0,hi0,hz0,hz1,hz2⟩:=info_parts Tryz.hinfo3
  have hlen:=ht.tw.len
  have h3:=ht.wi.hi
  obtain ⟨c,hc⟩:∃ c,cs[id]?=some c:=⟨_,List.getElem?_eq_getElem (by omega)⟩
  obtain ⟨ks,hk1,hk2,hk3⟩:=ht.ifaces hJ hc
  have hgt:=gath_take (ps:=ps) l id ks hk3
  have HR:Hid (RAt b cs W):=h
  have HTW:Hid (TwW cs ps):=ht
  have HW3:Hid (ps.length≤300):=h3
  have HCC:Hid (cs[id]?=some c):=hc
  have HKS:Hid (∀ (i:Nat) (p:List UInt8),c.ifs[i]?=some p→∃ j,ks[i]?=some j∧nmdI p cs 0=((j:Nat):Int)∧j<id):=hk2
  have HN:Hid (∀ (w':World) (s:ByteArray),Below W.heap.size W w'→Calls Tryz.prog 136 #[.pointer (some ⟨b,0,none⟩),.string s] w' fun e w''=>e=.returned (.int .i64 (nmdI s.toList cs 0))∧w''=w'):=fun w' s hb=>rNamed_c (h.below hb) s (by omega)
  have HIH:Hid (∀ (j:Nat),j<id→∀ (w:World) (v:Value) (l:List Nat),Below W.heap.size W w→w.ownsRow W.heap.size 3 1 v l.length (l.map numV)→ClL ps l→Calls Tryz.prog 193 #[.pointer (some ⟨b,0,none⟩),.int .i64 (j:Int),v] w fun e w'=>(∃ v',e=.returned v'∧w'.ownsRow W.heap.size 3 1 v' (takeL l (clO (ps.map nd) j)).length ((takeL l (clO (ps.map nd) j)).map numV))∧Below W.heap.size W w'):=fun j hj=>ih j hj (by omega)
  have HHA:Hid (∀ (v:Value) (l:List Nat) (p:Nat) (w:World),w.ownsRow W.heap.size 3 1 v l.length (l.map numV)→l.length≤1000000→Calls Tryz.prog 192 #[v,.int .i64 (p:Int)] w fun e w'=>e=.returned (.bool (l.contains p))∧Below w.heap.size w w'):=fun v l p w hr hl=>rHas_any v l p w (own_rds hr) hl
  obtain ⟨n,hn⟩:∃ n,c.ifs.length=n:=⟨_,rfl⟩
  have HNI:Hid (c.ifs.length=n):=hn
  have HKL:Hid (ks.length=n):=hk1.trans hn
  obtain ⟨L,hL⟩:∃ L,cs.length=L:=⟨_,rfl⟩
  have HL:Hid (cs.length=L):=hL
  have hidL:id<L:=by omega
  have hidI:(id:Int)<(L:Int):=by omega
  have HCL:Hid (ClL ps l):=hcl
  have HRW:Hid (w.ownsRow W.heap.size 3 1 v l.length (l.map numV)):=hrow
  have HBW:Hid (Below W.heap.size W w):=hw
  have hnb:n≤1000000:=by
    obtain ⟨q,hq,hqc⟩:=ht.tw.at hc
    have h1:=(ht.wi.pb q (List.mem_of_getElem? hq)).ni
    rw [hqc] at h1
    rw [← hn];exact h1
  obtain ⟨va0,vn0,rfl⟩:=ownv hrow
  by_cases h0:id=0
  · have hks:ks=[]:=by
      cases hcs:c.ifs with
      | nil=>exact List.length_eq_zero_iff.1 (by rw [hk1,hcs];rfl)
      | cons p r =>
        obtain ⟨j,_,_,hj⟩:=hk2 0 p (by rw [hcs];rfl)
        omega
    have hz:clO (ps.map nd) id=[]:=by
      obtain ⟨n0,h1,_,h2,_⟩:=ht.wi.wo.top
      rw [h0,clO,h1];exact h2
    have HX1:Hid (takeL l (clO (ps.map nd) id)=l):=by rw [Hid,hz];rfl
    have hn0:n=0:=by rw [← HKL.out,hks];rfl
    subst hn0
    subst h0
    obtain ⟨g,cap,vi,vm,b0,hlt0,hgl,c0,c1,c2,c3,c4,c5,hst,_⟩:=(h.below hw).cells hc
    rw [hL] at b0
    obtain ⟨ao,icap,rfl,_,_,_⟩:=hst
    rw [hn] at c2
    have hL0:(0:Int)<(L:Int):=by omega
    clear hlen h3 hc hk1 hk2 hk3 hgt h ht hJ ih hn hL hcl hrow hw hks hz HIH HHA HN HKS c0 c1 c3 c4 c5
    go_enter Tryz.func193,Tryz.ntmps193
    go_wp2
    go_loopw [2,7] (fun lv iv wr=>lv=.slice va0 l.length vn0∧iv=.int .i64 0∧wr=w) (fun _ _ _=>0)
    case atStart=>exact ⟨rfl,rfl,rfl⟩
    case round =>
      obtain ⟨rfl,rfl,rfl⟩:=hrel
      go_wp2
      refine bodyPost_ret (results_tmp rfl _ _ _) rfl ⟨⟨.slice va0 l.length vn0,rfl,?_⟩,HBW.out⟩
      rw [HX1.out];exact HRW.out
  · obtain ⟨l1,hl1⟩:∃ l1,l1=takeL l (clO (ps.map nd) (spO (ps.map nd) id)):=⟨_,rfl⟩
    have HX1:Hid (ks.foldl (gathF (ps.map Plc.cl)) l1=takeL l (clO (ps.map nd) id)):=by rw [Hid,hl1];exact hgt.symm
    have hidp:id<(ps.map nd).length:=by rw [List.length_map];exact hid
    have hsl:=ht.wi.wo.spLt hidp (by omega)
    have hsu:=ht.super hc (by omega)
    have HCL1:Hid (ClL ps l1):=by rw [Hid,hl1];exact hcl.take ht.wi _ (by omega)
    have HS1:Hid (∀ w',Below W.heap.size W w'→Calls Tryz.prog 136 #[.pointer (some ⟨b,0,none⟩),.string c.su] w' fun e w''=>e=.returned (.int .i64 ((spO (ps.map nd) id:Nat):Int))∧w''=w'):=fun w' hb=>by rw [← hsu];exact HN.out w' c.su hb
    have HS2:Hid (Calls Tryz.prog 193 #[.pointer (some ⟨b,0,none⟩),.int .i64 ((spO (ps.map nd) id:Nat):Int),.slice va0 l.length vn0] w fun e w'=>(∃ v',e=.returned v'∧w'.ownsRow W.heap.size 3 1 v' l1.length (l1.map numV))∧Below W.heap.size W w'):=by rw [hl1];exact HIH.out _ hsl w _ l hw hrow hcl
    obtain ⟨g0,cap0,vi0,vm0,b00,hlt00,hgl0,_,c10,_,_,_,_,_,_⟩:=(h.below hw).cells hc
    rw [hL] at b00
    generalize spO (ps.map nd) id=sp at *
    have h0I:¬ (id:Int)=0:=by omega
    clear hlen h3 hc hk1 hk2 hk3 hgt h ht hJ ih hn hL hcl hrow hw hl1 hsu
    go_enter Tryz.func193,Tryz.ntmps193
    go_wp2_with (first
      | (go_at_call 136;refine (HS1.out _ HBW.out).mono ?_;rintro e w9 ⟨rfl,hw9⟩;rw [hw9];clear hw9 w9 HS1)
      | (go_at_call 193;refine HS2.out.mono ?_;rintro e w1 ⟨⟨v1,rfl,ho⟩,hb⟩;obtain ⟨va1,vn1,rfl⟩:=ownv ho;have O1:Hid (w1.ownsRow W.heap.size 3 1 (.slice va1 l1.length vn1) l1.length (l1.map numV)):=ho;have B1:Hid (Below W.heap.size W w1):=hb;clear hb ho HS2))
    go_loopw [2,7] (fun lv iv wr=>∃ (i:Nat),iv=.int .i64 (i:Int)∧i≤n∧Hid (wr.ownsRow W.heap.size 3 1 lv ((ks.take i).foldl (gathF (ps.map Plc.cl)) l1).length (((ks.take i).foldl (gathF (ps.map Plc.cl)) l1).map numV))∧Hid (ClL ps ((ks.take i).foldl (gathF (ps.map Plc.cl)) l1))∧Hid (Below W.heap.size W wr)) (fun _ iv _=>n - (intOf iv).toNat)
    case atStart=>exact ⟨0,rfl,Nat.zero_le _,O1,HCL1,B1⟩
    case round =>
      obtain ⟨i,rfl,hi,hO,hC,hB⟩:=hrel
      obtain ⟨g,cap,vi,vm,b0,hlt0,hgl,c0,c1,c2,c3,c4,c5,hst,_⟩:=(HR.out.below hB.out).cells HCC.out
      rw [HL.out] at b0
      obtain ⟨ao,icap,rfl,hq1,hq2,hq3⟩:=hst
      rw [HNI.out] at c2 hq1
      have HQ3:Hid _:=hq3
      clear c0 c1 c3 c4 c5 hq3
      by_cases hlt:i<n
      · have hltI:(i:Int)<(n:Int):=by omega
        obtain ⟨p,hp⟩:∃ p,c.ifs[i]?=some p:=⟨_,List.getElem?_eq_getElem (by rw [HNI.out];exact hlt)⟩
        obtain ⟨k,hk,hkn,hkl⟩:=HKS.out i p hp
        obtain ⟨bk,o,rfl,hbk,hcs⟩:=HQ3.out (fun e=>by rw [e] at hp;simp at hp)
        have hce:=hcs i p hp
        have hfold:(ks.take (i+1)).foldl (gathF (ps.map Plc.cl)) l1=gathF (ps.map Plc.cl) ((ks.take i).foldl (gathF (ps.map Plc.cl)) l1) k:=by
          rw [List.take_add_one,hk,List.foldl_append];rfl
        have HN1:Hid (Calls Tryz.prog 136 #[.pointer (some ⟨b,0,none⟩),.string ⟨p.toArray⟩] wr fun e w''=>e=.returned (.int .i64 (k:Int))∧w''=wr):=by
          have:=HN.out wr ⟨p.toArray⟩ hB.out
          rw [show (ByteArray.mk p.toArray).toList=p from by rw [Lib.toList_data],hkn] at this
          exact this
        obtain ⟨Lc,hLc⟩:∃ Lc,(ks.take i).foldl (gathF (ps.map Plc.cl)) l1=Lc:=⟨_,rfl⟩
        rw [hLc] at hO hC hfold
        have HFO:Hid _:=hfold
        have hLb:Lc.length≤300:=Nat.le_trans hC.out.len HW3.out
        have HA1:Hid (∀ (v:Value),wr.ownsRow W.heap.size 3 1 v Lc.length (Lc.map numV)→Calls Tryz.prog 192 #[v,.int .i64 (k:Int)] wr fun e w'=>e=.returned (.bool (Lc.contains k))∧Below wr.heap.size wr w'):=fun v hr=>HHA.out v Lc k wr hr (by omega)
        have HG1:Hid (∀ (w:World) (v:Value),Below W.heap.size W w→w.ownsRow W.heap.size 3 1 v Lc.length (Lc.map numV)→Calls Tryz.prog 193 #[.pointer (some ⟨b,0,none⟩),.int .i64 (k:Int),v] w fun e w'=>(∃ v',e=.returned v'∧w'.ownsRow W.heap.size 3 1 v' (takeL Lc (clO (ps.map nd) k)).length ((takeL Lc (clO (ps.map nd) k)).map numV))∧Below W.heap.size W w'):=fun w v hb hr=>HIH.out k hkl w v Lc hb hr hC.out
        have HCN:Hid (ClL ps (gathF (ps.map Plc.cl) Lc k)):=hC.out.gathF HTW.out.wi k (by omega)
        have HG2:Hid (Lc.contains k=true→gathF (ps.map Plc.cl) Lc k=Lc):=fun he=>gathF_yes hC.out (by simpa using he)
        have HG3:Hid (Lc.contains k=false→gathF (ps.map Plc.cl) Lc k=takeL Lc (clO (ps.map nd) k)++[k]∧(takeL Lc (clO (ps.map nd) k)).length≤300):=fun he=>⟨gathF_no HTW.out.wi (by simpa using he),Nat.le_trans (hC.out.take HTW.out.wi k (by omega)).len HW3.out⟩
        obtain ⟨va,vn,rfl⟩:=ownv hO.out
        clear hcs hp hk hkn hfold hLc HX1 HN HIH HHA HQ3
        cases hz:Lc.contains k with
        | true =>
          rw [hz] at HA1
          have he:=HG2.out hz
          rw [he] at HFO HCN
          clear HG1 HG2 HG3 hz he
          go_wp2_with (first
            | (go_at_call 136;refine HN1.out.mono ?_;rintro e w9 ⟨rfl,hw9⟩;rw [hw9];clear hw9 w9 HN1)
            | (go_at_call 192;refine (HA1.out _ hO.out).mono ?_;rintro e w2 ⟨rfl,hb⟩;have O2:Hid (w2.ownsRow W.heap.size 3 1 (.slice va Lc.length vn) Lc.length (Lc.map numV)):=rowBelow hO.out hb;have B2:Hid (Below W.heap.size W w2):=bstep hB.out hb;clear hb HA1))
          go_roundw
          case rel=>exact ⟨i+1,by go_num,by omega,by rw [HFO.out];exact O2,by rw [HFO.out];exact HCN,B2⟩
          case measure=>simp [intOf];omega
        | false =>
          rw [hz] at HA1
          obtain ⟨he,hlb⟩:=HG3.out hz
          rw [he] at HFO HCN
          generalize takeL Lc (clO (ps.map nd) k)=T at *
          clear HG2 HG3 hz he
          go_wp2_with (first
            | (go_at_call 136;refine HN1.out.mono ?_;rintro e w9 ⟨rfl,hw9⟩;rw [hw9];clear hw9 w9 HN1)
            | (go_at_call 192;refine (HA1.out _ hO.out).mono ?_;rintro e w2 ⟨rfl,hb⟩;have O2:Hid (w2.ownsRow W.heap.size 3 1 (.slice va Lc.length vn) Lc.length (Lc.map numV)):=rowBelow hO.out hb;have B2:Hid (Below W.heap.size W w2):=bstep hB.out hb;clear hb HA1)
            | (go_at_call 193;refine (HG1.out _ _ B2.out O2.out).mono ?_;rintro e w3 ⟨⟨v3,rfl,ho⟩,hb⟩;obtain ⟨va3,vn3,rfl⟩:=ownv ho;have O3:Hid (w3.ownsRow W.heap.size 3 1 (.slice va3 T.length vn3) T.length (T.map numV)):=ho;have B3:Hid (Below W.heap.size W w3):=hb;clear hb ho HG1)
            | (at_builtin;refine wpList_append_own _ rfl _ _ 99 rfl W.heap.size 3 i0 (.int .i64 0) 1 8 Tryz.underlying99 hi0 hz0 hz1 hz2 rfl (by decide) (.slice va3 T.length vn3) T.length (T.map numV) rfl (O3.out.alloc _) ⟨w3.heap.size,0,none⟩ 1 1 [.int .i64 (k:Int)] rfl rfl ?c1 ?c2 ?c3 ?c4 ?c5 ?_))
          case c1=>intro jj u hj;rw [addr_add];cases jj with
            | zero=>simp at hj;subst hj;simp [go_sem]
            | succ jj=>simp at hj
          case c2=>intro u hu;simp at hu;subst hu;rfl
          case c3=>unfold maxLen;omega
          case c4=>omega
          case c5=>have:=B3.out.size;simp;omega
          intro v' w4 hown hgrow _
          obtain ⟨va4,vn4,rfl⟩:=ownv hown
          have B4:Hid (Below W.heap.size W w4):=by
            have hb1:Below W.heap.size W (w3.alloc (.cells #[.int .i64 (k:Int)] 3)):=B3.out.alloc B3.out.size _
            refine hb1.grown hgrow hb1.size (fun x hx=>?_)
            have:=(O3.out.lt x hx).1
            omega
          have O4:Hid (w4.ownsRow W.heap.size 3 1 (.slice va4 (T.length+1) vn4) (T++[k]).length ((T++[k]).map numV)):=by
            rw [Hid,List.length_append,List.map_append];exact hown
          clear hown hgrow
          go_wp2
          go_roundw
          case rel=>exact ⟨i+1,by go_num,by omega,by rw [HFO.out];exact O4,by rw [HFO.out];exact HCN,B4⟩
          case measure=>simp [intOf];omega
      · have e:i=n:=by omega
        have HT:Hid ((ks.take i).foldl (gathF (ps.map Plc.cl)) l1=takeL l (clO (ps.map nd) id)):=by
          rw [Hid,e,← HKL.out,List.take_of_length_le (Nat.le_refl _)]
          exact HX1.out
        rw [HT.out] at hO
        subst e
        obtain ⟨va,vn,rfl⟩:=ownv hO.out
        clear HT HX1
        go_wp2
        refine bodyPost_ret (results_tmp rfl _ _ _) rfl ⟨⟨_,rfl,?_⟩,hB.out⟩
        exact hO.out
theorem rIn_t {b:Nat} {cs:List Cls} {ps:List Plc} {W:World} (h:RAt b cs W) (ht:TwW cs ps) (i:Int):Calls Tryz.prog 76 #[.pointer (some ⟨b,0,none⟩),.int .i64 i] W fun e w'=>e=.returned (.bool (plcI ps i).isSome)∧w'=W:=by
  have:=rIn_c h i
  rcases ht.tw.clsI i with ⟨h1,h2⟩|⟨k,c,q,rfl,_,_,_,h1,h2⟩
  · rw [h1] at this;rw [h2];exact this
  · rw [h1] at this;rw [h2];exact this
set_option maxHeartbeats 1000000 in
theorem rExtends_c {b:Nat} {cs:List Cls} {ps:List Plc} {W:World} (h:RAt b cs W) (ht:TwW cs ps) (hJ:WJ ps) (x y:Int):Calls Tryz.prog 116 #[.pointer (some ⟨b,0,none⟩),.int .i64 x,.int .i64 y] W fun e w'=>e=.returned (.bool (extI ps x y))∧Below W.heap.size W w':=by
  have HI:Hid (∀ i z w,Below W.heap.size W w→(plcI ps i).isSome=z→Calls Tryz.prog 76 #[.pointer (some ⟨b,0,none⟩),.int .i64 i] w fun e w'=>e=.returned (.bool z)∧w'=w):=fun i z w hb hz=>by rw [← hz];exact rIn_t (h.below hb) ht i
  rcases plcI_cases ps x with ⟨h1,_⟩|⟨k,p,rfl,h2,h1⟩
  · have e:extI ps x y=false:=by rw [extI,h1];rfl
    rw [e]
    have HX:Hid (∀ i w,Below W.heap.size W w→i=x→Calls Tryz.prog 76 #[.pointer (some ⟨b,0,none⟩),.int .i64 i] w fun e w'=>e=.returned (.bool false)∧w'=w):=fun i w hb hi=>by rw [hi];exact HI.out x false w hb (by rw [h1];rfl)
    clear h ht hJ HI h1 e
    go_enter Tryz.func116,Tryz.ntmps116
    go_wp2_with (go_at_call 76;refine (HX.out _ _ (Below.refl _ _) (by rfl)).mono ?_;rintro e w9 ⟨rfl,hw9⟩;rw [hw9];clear hw9 w9)
    exact bodyPost_ret (results_tmp rfl _ _ _) rfl ⟨rfl,Below.refl _ _⟩
  · have HX:Hid (∀ i w,Below W.heap.size W w→i=(k:Int)→Calls Tryz.prog 76 #[.pointer (some ⟨b,0,none⟩),.int .i64 i] w fun e w'=>e=.returned (.bool true)∧w'=w):=fun i w hb hi=>by rw [hi];exact HI.out k true w hb (by rw [h1];rfl)
    rcases plcI_cases ps y with ⟨g1,_⟩|⟨j,q,rfl,g2,g1⟩
    · have e:extI ps k y=false:=by rw [extI,h1,g1];rfl
      rw [e]
      have HY:Hid (∀ i w,Below W.heap.size W w→i=y→Calls Tryz.prog 76 #[.pointer (some ⟨b,0,none⟩),.int .i64 i] w fun e w'=>e=.returned (.bool false)∧w'=w):=fun i w hb hi=>by rw [hi];exact HI.out y false w hb (by rw [g1];rfl)
      clear h ht hJ HI h1 g1 e
      go_enter Tryz.func116,Tryz.ntmps116
      go_wp2_with (first
        | (go_at_call 76;refine (HX.out _ _ (Below.refl _ _) (by rfl)).mono ?_;rintro e w9 ⟨rfl,hw9⟩;rw [hw9];clear hw9 w9)
        | (go_at_call 76;refine (HY.out _ _ (Below.refl _ _) (by rfl)).mono ?_;rintro e w9 ⟨rfl,hw9⟩;rw [hw9];clear hw9 w9))
      exact bodyPost_ret (results_tmp rfl _ _ _) rfl ⟨rfl,Below.refl _ _⟩
    · have hkl:=(List.getElem?_eq_some_iff.1 h2).1
      have e:extI ps k j=((chL (ps.map nd) k).contains j||(clO (ps.map nd) k).contains j):=by rw [extI,h1,g1];rfl
      rw [e]
      have HY:Hid (∀ i w,Below W.heap.size W w→i=(j:Int)→Calls Tryz.prog 76 #[.pointer (some ⟨b,0,none⟩),.int .i64 i] w fun e w'=>e=.returned (.bool true)∧w'=w):=fun i w hb hi=>by rw [hi];exact HI.out j true w hb (by rw [g1];rfl)
      have HC:Hid (Calls Tryz.prog 77 #[.pointer (some ⟨b,0,none⟩),.int .i64 (k:Int)] W fun e w'=>(∃ v,e=.returned (.tuple #[v,.int .i64 0])∧w'.ownsRow W.heap.size 3 1 v (chL (ps.map nd) k).length ((chL (ps.map nd) k).map numV))∧Below W.heap.size W w'):=rChain_yes h ht k hkl
      have hcb:(chL (ps.map nd) k).length≤1000000:=by
        have hkn:k<(ps.map nd).length:=by rw [List.length_map];exact hkl
        have:=nodup_lt_len (k+1) _ (ch_nodup ht.wi.wo k hkn) (fun i hi=>Nat.lt_succ_of_le (ch_le ht.wi.wo k hkn i hi))
        have:=ht.wi.hi
        omega
      have hclb:(clO (ps.map nd) k).length≤1000000:=by
        have:=nodup_lt_len k _ (cl_nodup ht.wi.wo k) (fun i hi=>(cl_facts ht.wi.wo hi).1)
        have:=ht.wi.hi
        omega
      have HG:Hid (∀ w,Below W.heap.size W w→Calls Tryz.prog 193 #[.pointer (some ⟨b,0,none⟩),.int .i64 (k:Int),.slice none 0 0] w fun e w'=>(∃ v',e=.returned v'∧w'.ownsRow W.heap.size 3 1 v' (clO (ps.map nd) k).length ((clO (ps.map nd) k).map numV))∧Below W.heap.size W w'):=fun w hb=>by
        have:=rGather_any h ht hJ k hkl w (.slice none 0 0) [] hb (World.ownsRow_nil _ _ _ _) (ClL.nil ps)
        rw [take_nil _ (cl_nodup ht.wi.wo k)] at this
        exact this
      have HH1:Hid (∀ (v:Value) (w:World),w.ownsRow W.heap.size 3 1 v (chL (ps.map nd) k).length ((chL (ps.map nd) k).map numV)→Calls Tryz.prog 192 #[v,.int .i64 (j:Int)] w fun e w'=>e=.returned (.bool ((chL (ps.map nd) k).contains j))∧Below w.heap.size w w'):=fun v w hr=>rHas_any v _ j w (own_rds hr) hcb
      have HH2:Hid (∀ (v:Value) (w:World),w.ownsRow W.heap.size 3 1 v (clO (ps.map nd) k).length ((clO (ps.map nd) k).map numV)→Calls Tryz.prog 192 #[v,.int .i64 (j:Int)] w fun e w'=>e=.returned (.bool ((clO (ps.map nd) k).contains j))∧Below w.heap.size w w'):=fun v w hr=>rHas_any v _ j w (own_rds hr) hclb
      generalize (chL (ps.map nd) k).contains j=z1 at *
      generalize (clO (ps.map nd) k).contains j=z2 at *
      generalize chL (ps.map nd) k=C at *
      generalize clO (ps.map nd) k=G at *
      clear h ht hJ HI h1 h2 g1 g2 e hcb hclb hkl
      cases z1
      all_goals
        go_enter Tryz.func116,Tryz.ntmps116
        go_wp2_with (first
          | (go_at_call 76;refine (HX.out _ _ (Below.refl _ _) (by rfl)).mono ?_;rintro e w9 ⟨rfl,hw9⟩;rw [hw9];clear hw9 w9)
          | (go_at_call 76;refine (HY.out _ _ (Below.refl _ _) (by rfl)).mono ?_;rintro e w9 ⟨rfl,hw9⟩;rw [hw9];clear hw9 w9)
          | (go_at_call 77;refine HC.out.mono ?_;rintro e w1 ⟨⟨v1,rfl,ho⟩,hb⟩;obtain ⟨va1,vn1,rfl⟩:=ownv ho;have O1:Hid (w1.ownsRow W.heap.size 3 1 (.slice va1 C.length vn1) C.length (C.map numV)):=ho;have B1:Hid (Below W.heap.size W w1):=hb;clear hb ho HC)
          | (go_at_call 192;refine (HH1.out _ _ O1.out).mono ?_;rintro e w2 ⟨rfl,hb⟩;have B2:Hid (Below W.heap.size W w2):=bstep B1.out hb;clear hb HH1 O1)
          | (go_at_call 193;refine (HG.out _ B2.out).mono ?_;rintro e w3 ⟨⟨v3,rfl,ho⟩,hb⟩;obtain ⟨va3,vn3,rfl⟩:=ownv ho;have O3:Hid (w3.ownsRow W.heap.size 3 1 (.slice va3 G.length vn3) G.length (G.map numV)):=ho;have B3:Hid (Below W.heap.size W w3):=hb;clear hb ho HG)
          | (go_at_call 192;refine (HH2.out _ _ O3.out).mono ?_;rintro e w4 ⟨rfl,hb⟩;have B4:Hid (Below W.heap.size W w4):=bstep B3.out hb;clear hb HH2 O3))
        first
          | exact bodyPost_ret (results_tmp rfl _ _ _) rfl ⟨rfl,B4.out⟩
          | exact bodyPost_ret (results_tmp rfl _ _ _) rfl ⟨rfl,B2.out⟩
theorem findM_H (nm ds:ByteArray):∀ (l:List Mth) (k:Nat),findM nm ds l k=findH nm ds (l.map hmOf) k
  | [],_=>rfl
  | m::r,k=>by
    rw [findM,List.map_cons,findH,findM_H nm ds r (k+1)]
    rfl
set_option maxHeartbeats 1000000 in
theorem rFind_c {b:Nat} {cs:List Cls} {ps:List Plc} {W:World} (h:RAt b cs W) (ht:TwW cs ps) (x:Int) (nm ds:ByteArray):Calls Tryz.prog 118 #[.pointer (some ⟨b,0,none⟩),.int .i64 x,.string nm,.string ds] W fun e w'=>e=.returned (.tuple #[.int .i64 (fndI ps x nm ds).1,.int .i64 (fndI ps x nm ds).2])∧Below W.heap.size W w':=by
  have HI:Hid (Calls Tryz.prog 76 #[.pointer (some ⟨b,0,none⟩),.int .i64 x] W fun e w'=>e=.returned (.bool (plcI ps x).isSome)∧w'=W):=rIn_t h ht x
  rcases ht.tw.clsI x with ⟨h1,h2⟩|⟨k,c,q,rfl,hc,hq,hcq,h1,h2⟩
  · have e:fndI ps x nm ds=(0,3):=by rw [fndI,h2]
    rw [e]
    rw [h2] at HI
    clear h ht h1 h2 e
    go_enter Tryz.func118,Tryz.ntmps118
    go_wp2_with (go_at_call 76;refine HI.out.mono ?_;rintro e w9 ⟨rfl,hw9⟩;rw [hw9];clear hw9 w9)
    exact bodyPost_ret (results_tmp2 rfl _ _ _) rfl ⟨rfl,Below.refl _ _⟩
  · have e:fndI ps k nm ds=if findM nm ds c.ms 0<0 then (0,6) else (findM nm ds c.ms 0,0):=by
      rw [fndI,h2]
      simp only
      have:q.c.ms=c.ms.map hmOf:=by rw [hcq];rfl
      rw [this,← findM_H]
    rw [e]
    rw [h2] at HI
    simp only [Option.isSome_some] at HI
    obtain ⟨g,cap,vi,vm,b0,hlt,hgl,c0,c1,c2,c3,c4,c5,hIs,hMs⟩:=RAt.cells h hc
    obtain ⟨ai,ci,rfl⟩:=strs_slice hIs
    have HF:Hid (∀ cn cu cf cl,Calls Tryz.prog 194 #[.agg #[.string cn,.string cu,.slice ai c.ifs.length ci,.int .i64 cf,.int .i64 cl,vm],.string nm,.string ds] W fun e w'=>e=.returned (.int .i64 (findM nm ds c.ms 0))∧Below W.heap.size W w'):=fun cn cu cf cl=>rFind_any cn cu _ cf cl vm c.ms nm ds W hMs
    obtain ⟨am,cm,rfl⟩:=mths_slice hMs
    have hkI:(k:Int)<(cs.length:Int):=by have:=(List.getElem?_eq_some_iff.1 hc).1;omega
    generalize findM nm ds c.ms 0=F at *
    clear h ht h1 h2 e hc hq hcq hIs hMs
    by_cases hF:F<0
    · rw [if_pos hF]
      go_enter Tryz.func118,Tryz.ntmps118
      go_wp2_with (first
        | (go_at_call 76;refine HI.out.mono ?_;rintro e w9 ⟨rfl,hw9⟩;rw [hw9];clear hw9 w9)
        | (go_at_call 194;refine (HF.out _ _ _ _).mono ?_;rintro e w1 ⟨rfl,hb⟩;have B1:Hid (Below W.heap.size W w1):=hb;clear hb HF))
      exact bodyPost_ret (results_tmp2 rfl _ _ _) rfl ⟨rfl,B1.out⟩
    · rw [if_neg hF]
      have hF2:0≤F:=by omega
      go_enter Tryz.func118,Tryz.ntmps118
      go_wp2_with (first
        | (go_at_call 76;refine HI.out.mono ?_;rintro e w9 ⟨rfl,hw9⟩;rw [hw9];clear hw9 w9)
        | (go_at_call 194;refine (HF.out _ _ _ _).mono ?_;rintro e w1 ⟨rfl,hb⟩;have B1:Hid (Below W.heap.size W w1):=hb;clear hb HF))
      exact bodyPost_ret (results_tmp2 rfl _ _ _) rfl ⟨rfl,B1.out⟩
theorem rClosure_yes {b:Nat} {cs:List Cls} {ps:List Plc} {W:World} (h:RAt b cs W) (ht:TwW cs ps) (hJ:WJ ps) (k:Nat) (q:Plc) (hq:ps[k]?=some q):Calls Tryz.prog 284 #[.pointer (some ⟨b,0,none⟩),.int .i64 (k:Int)] W fun e w'=>(∃ v,e=.returned (.tuple #[v,.int .i64 0])∧w'.ownsRow W.heap.size 3 1 v q.cl.length (q.cl.map numV))∧Below W.heap.size W w':=by
  have hkl:=(List.getElem?_eq_some_iff.1 hq).1
  have hcl:clO (ps.map nd) k=q.cl:=by rw [clO,nd_at' hq];rfl
  have HI:Hid (Calls Tryz.prog 76 #[.pointer (some ⟨b,0,none⟩),.int .i64 (k:Int)] W fun e w'=>e=.returned (.bool true)∧w'=W):=(rIn_t h ht k).mono fun e w' zz=>⟨by rw [zz.1,plcI_nat,hq];rfl,zz.2⟩
  have HG:Hid (∀ w,Below W.heap.size W w→Calls Tryz.prog 193 #[.pointer (some ⟨b,0,none⟩),.int .i64 (k:Int),.slice none 0 0] w fun e w'=>(∃ v',e=.returned v'∧w'.ownsRow W.heap.size 3 1 v' q.cl.length (q.cl.map numV))∧Below W.heap.size W w'):=fun w hb=>by
    have:=rGather_any h ht hJ k hkl w (.slice none 0 0) [] hb (World.ownsRow_nil _ _ _ _) (ClL.nil ps)
    rw [take_nil _ (cl_nodup ht.wi.wo k),hcl] at this
    exact this
  generalize q.cl.length=n at *
  generalize q.cl.map numV=xs at *
  clear h ht hJ hq hkl hcl
  go_enter Tryz.func284,Tryz.ntmps284
  go_wp2_with (first
    | (go_at_call 76;refine HI.out.mono ?_;rintro e w9 ⟨rfl,hw9⟩;rw [hw9];clear hw9 w9)
    | (go_at_call 193;refine (HG.out _ (Below.refl _ _)).mono ?_;rintro e w1 ⟨⟨v,rfl,ho⟩,hb⟩;obtain ⟨a1,c1,rfl⟩:=ownv ho;have O1:Hid (w1.ownsRow W.heap.size 3 1 (.slice a1 n c1) n xs):=ho;have B1:Hid (Below W.heap.size W w1):=hb;clear ho hb HG))
  exact bodyPost_ret (results_tmp2 rfl _ _ _) rfl ⟨⟨_,rfl,O1.out⟩,B1.out⟩
theorem fnd_meth {ps:List Plc} {c:Int} {nm ds:ByteArray} (h:(fndI ps c nm ds).2=0):∃ x,methI ps c (fndI ps c nm ds).1=some x:=by
  rcases plcI_cases ps c with ⟨h1,h2⟩|⟨k,q,rfl,h2,h1⟩
  · rw [fndI,h1] at h;exact absurd h (by show ¬ (3:Int)=0;decide)
  · have e:fndI ps k nm ds=if findH nm ds q.c.ms 0<0 then (0,6) else (findH nm ds q.c.ms 0,0):=by rw [fndI,h1]
    rw [e] at h ⊢
    rcases findH_range nm ds q.c.ms 0 with e2|⟨j,x,e2,hj,hn,hd⟩
    · rw [e2,if_pos (by decide)] at h;exact absurd h (by decide)
    · rw [e2,if_neg (by omega)]
      refine ⟨x,?_⟩
      rw [methI,h1]
      show methP q ((0+j:Nat):Int)=some x
      rw [methP,if_pos (Int.natCast_nonneg _)]
      simpa using hj
theorem has10 (f:Int):hasI f 10=(hasI f 2||hasI f 8):=by
  have e10:bits .and .i64 f 10=IntKind.wrap .i64 (((BitVec.ofInt 64 f).toNat &&& 10:Nat):Int):=rfl
  have e2:bits .and .i64 f 2=IntKind.wrap .i64 (((BitVec.ofInt 64 f).toNat &&& 2:Nat):Int):=rfl
  have e8:bits .and .i64 f 8=IntKind.wrap .i64 (((BitVec.ofInt 64 f).toNat &&& 8:Nat):Int):=rfl
  have h:(BitVec.ofInt 64 f).toNat &&& 10=((BitVec.ofInt 64 f).toNat &&& 2) ||| ((BitVec.ofInt 64 f).toNat &&& 8):=by
    rw [← Nat.and_or_distrib_left];rfl
  unfold hasI
  rw [e10,e2,e8,h]
  have h2:(BitVec.ofInt 64 f).toNat &&& 2≤2:=Nat.and_le_right
  have h2':((BitVec.ofInt 64 f).toNat &&& 2) &&& 2=(BitVec.ofInt 64 f).toNat &&& 2:=by rw [Nat.and_assoc,Nat.and_self]
  have h8:(BitVec.ofInt 64 f).toNat &&& 8≤8:=Nat.and_le_right
  have h8':((BitVec.ofInt 64 f).toNat &&& 8) &&& 8=(BitVec.ofInt 64 f).toNat &&& 8:=by rw [Nat.and_assoc,Nat.and_self]
  generalize (BitVec.ofInt 64 f).toNat &&& 2=a at *
  generalize (BitVec.ofInt 64 f).toNat &&& 8=b at *
  have ha:a=0∨a=2:=by
    have:a=0∨a=1∨a=2:=by omega
    rcases this with rfl|rfl|rfl
    · exact .inl rfl
    · exact absurd h2' (by decide)
    · exact .inr rfl
  have hb:b=0∨b=8:=by
    have:b=0∨b=1∨b=2∨b=3∨b=4∨b=5∨b=6∨b=7∨b=8:=by omega
    rcases this with rfl|rfl|rfl|rfl|rfl|rfl|rfl|rfl|rfl
    · exact .inl rfl
    all_goals first|exact .inr rfl|exact absurd h8' (by decide)
  rcases ha with rfl|rfl <;> rcases hb with rfl|rfl <;> decide
theorem RAt.flag {b:Nat} {cs:List Cls} {ps:List Plc} {w:World} (h:RAt b cs w) (ht:TwW cs ps) {k:Nat} {i:Int} {x:HM} (hx:methI ps (k:Int) i=some x):∃ (g cap bk o n cm j:Nat),i=(j:Int)∧w.cell? ⟨b,0,none⟩=some (.slice (some ⟨g,0,none⟩) cs.length cap)∧b<w.heap.size∧g<w.heap.size∧(k:Int)<(cs.length:Int)∧w.cell? ⟨g,k * 6+5,none⟩=some (.slice (some ⟨bk,o,none⟩) n cm)∧bk<w.heap.size∧(j:Int)<(n:Int)∧w.cell? ⟨bk,o+j * 6+2,none⟩=some (.int .i64 x.fl):=by
  obtain ⟨k',q,hk,hq,_,hm⟩:=meth_plc hx
  have:k=k':=by omega
  subst this
  obtain ⟨c,hc,hcq⟩:=ht.tw.at' hq
  obtain ⟨g,cap,vi,vm,b0,hlt,hgl,c0,c1,c2,c3,c4,c5,hIs,hMs⟩:=RAt.cells h hc
  unfold methP at hm
  split at hm
  · rename_i hi
    have hms:q.c.ms=c.ms.map hmOf:=by rw [hcq];rfl
    rw [hms,List.getElem?_map] at hm
    cases e:c.ms[i.toNat]? with
    | none=>rw [e] at hm;cases hm
    | some m =>
      rw [e] at hm
      cases hm
      have hil:=(List.getElem?_eq_some_iff.1 e).1
      obtain ⟨ao,cm,rfl,h1,h2,h3⟩:=hMs
      obtain ⟨bk,o,rfl,hbk,hat⟩:=h3 (by intro h0;rw [h0] at hil;simp at hil)
      have hM:=hat i.toNat m e
      have hkl:=(List.getElem?_eq_some_iff.1 hc).1
      exact ⟨g,cap,bk,o,c.ms.length,cm,i.toNat,by omega,b0,hlt,hgl,by omega,c5,hbk,by omega,hM.2.2.1⟩
  · cases hm
set_option maxHeartbeats 4000000 in
theorem rCand_yes {b:Nat} {cs:List Cls} {ps:List Plc} {W:World} (h:RAt b cs W) (ht:TwW cs ps) (hJ:WJ ps) (k:Nat) (q:Plc) (hq:ps[k]?=some q) (nm ds:ByteArray):Calls Tryz.prog 250 #[.pointer (some ⟨b,0,none⟩),.int .i64 (k:Int),.string nm,.string ds] W fun e w'=>(∃ v,e=.returned (.tuple #[v,.int .i64 0])∧w'.ownsRow W.heap.size 24 2 v (candL ps nm ds q.cl).length (flatD (candL ps nm ds q.cl)))∧Below W.heap.size W w':=by
  obtain ⟨i0,hi0,hz0,hz1,hz2⟩:=info_parts Tryz.hinfoD
  have HW0:Hid (RAt b cs W):=h
  have HTW:Hid (TwW cs ps):=ht
  obtain ⟨K,hK⟩:∃ K,q.cl.length=K:=⟨_,rfl⟩
  have HK:Hid (q.cl.length=K):=hK
  have hKb:K≤300:=by
    have:=nodup_lt_len k q.cl (by have:=cl_nodup ht.wi.wo k;rw [clO,nd_at' hq] at this;exact this) (fun i hi=>(cl_facts ht.wi.wo (a:=k) (by rw [clO,nd_at' hq];exact hi)).1)
    have:=ht.wi.hi
    have:=(List.getElem?_eq_some_iff.1 hq).1
    omega
  have HC:Hid (∀ w,Below W.heap.size W w→Calls Tryz.prog 284 #[.pointer (some ⟨b,0,none⟩),.int .i64 (k:Int)] w fun e w'=>(∃ v,e=.returned (.tuple #[v,.int .i64 0])∧w'.ownsRow w.heap.size 3 1 v q.cl.length (q.cl.map numV))∧Below w.heap.size w w'):=fun w hb=>rClosure_yes (h.below hb) ht hJ k q hq
  clear h ht hJ hq hK
  go_enter Tryz.func250,Tryz.ntmps250
  go_wp2_with (first
    | (go_at_call 284;refine (HC.out _ (Below.refl _ _)).mono ?_;rintro e w1 ⟨⟨v,rfl,ho⟩,hb⟩;rw [HK.out] at ho;obtain ⟨ca,cc,rfl⟩:=ownv ho;have O1:Hid (w1.ownsRow W.heap.size 3 1 (.slice ca K cc) K (q.cl.map numV)):=ho;have B1:Hid (Below W.heap.size W w1):=hb;have HW1:Hid (RAt b cs w1):=HW0.out.below hb;clear ho hb HC))
  go_loopw [12,13] (fun sv kv wr=>∃ (j:Nat),kv=.int .i64 j∧j≤K∧Hid (wr.ownsRow w1.heap.size 24 2 sv (candL ps nm ds (q.cl.take j)).length (flatD (candL ps nm ds (q.cl.take j))))∧Hid (Below w1.heap.size w1 wr)) (fun _ kv _=>K - (intOf kv).toNat)
  case atStart=>exact ⟨0,rfl,Nat.zero_le _,World.ownsRow_nil _ _ _ _,Below.refl _ _⟩
  case round =>
    obtain ⟨j,rfl,hj,hO,hB⟩:=hrel
    by_cases hlt:j<K
    · have hjl:j<q.cl.length:=by rw [HK.out];exact hlt
      obtain ⟨i,hi⟩:∃ i,q.cl[j]?=some i:=⟨_,List.getElem?_eq_getElem hjl⟩
      obtain ⟨g,c2,hform⟩:=Go.Joins.ownsRow_form O1.out (by omega)
      have hce:w1.cell? ⟨g,j,none⟩=some (.int .i64 (i:Int)):=by
        have hrow:=O1.out
        rw [hform] at hrow
        rw [hrow.cellAt j (by omega),List.getElem?_map,hi];rfl
      injection hform with hca _ hcc
      subst hca hcc
      have hgl:g<w1.heap.size:=World.block_lt_of_cell? w1 _ hce
      have hcr:=(hB.out.cell (p:=⟨g,j,none⟩) hgl).trans hce
      have hgr:g<wr.heap.size:=Nat.lt_of_lt_of_le hgl hB.out.size
      have hst:=candL_take (ps:=ps) (nm:=nm) (ds:=ds) hi
      have hal:(candL ps nm ds (q.cl.take j)).length≤300:=by
        have:=candL_len ps nm ds (q.cl.take j)
        rw [List.length_take] at this
        omega
      have HRr:Hid (RAt b cs wr):=HW1.out.below hB.out
      have HF:Hid (Calls Tryz.prog 118 #[.pointer (some ⟨b,0,none⟩),.int .i64 (i:Int),.string nm,.string ds] wr fun e w'=>e=.returned (.tuple #[.int .i64 (fndI ps i nm ds).1,.int .i64 (fndI ps i nm ds).2])∧Below wr.heap.size wr w'):=rFind_c HRr.out HTW.out i nm ds
      have hfl:(fndI ps i nm ds).2=0→∃ x,methI ps (i:Int) (fndI ps i nm ds).1=some x∧hasS ps i (fndI ps i nm ds).1 10=(hasI x.fl 2||hasI x.fl 8):=fun h0=>by
        obtain ⟨x,hx⟩:=fnd_meth h0
        exact ⟨x,hx,by rw [hasS,hx];exact has10 _⟩
      rw [cand1] at hst
      obtain ⟨L,hL⟩:∃ L,candL ps nm ds (q.cl.take j)=L:=⟨_,rfl⟩
      rw [hL] at hst hal hO
      obtain ⟨va,vn,rfl⟩:=ownv hO.out
      generalize fndI ps i nm ds=F at *
      obtain ⟨F1,F2⟩:=F
      simp only at hst HF hfl
      generalize hasS ps i F1 10=S at *
      clear hce hi hjl hL
      have HST:Hid (candL ps nm ds (List.take (j+1) q.cl)=L++if F2=0∧S=false then [((i:Int),F1)] else []):=hst
      clear hst
      by_cases hF:F2=0
      · subst hF
        obtain ⟨x,hx,hS⟩:=hfl rfl
        have H2:Hid (∀ w:World,Calls Tryz.prog 101 #[.int .i64 x.fl,.int .i64 2] w fun e w'=>e=.returned (.bool (hasI x.fl 2))∧w'=w):=has_any x.fl 2
        have H8:Hid (∀ w:World,Calls Tryz.prog 101 #[.int .i64 x.fl,.int .i64 8] w fun e w'=>e=.returned (.bool (hasI x.fl 8))∧w'=w):=has_any x.fl 8
        have HFL:Hid (∀ w,RAt b cs w→∃ (g cap bk o n cm j:Nat),F1=(j:Int)∧w.cell? ⟨b,0,none⟩=some (.slice (some ⟨g,0,none⟩) cs.length cap)∧b<w.heap.size∧g<w.heap.size∧(i:Int)<(cs.length:Int)∧w.cell? ⟨g,i * 6+5,none⟩=some (.slice (some ⟨bk,o,none⟩) n cm)∧bk<w.heap.size∧(j:Int)<(n:Int)∧w.cell? ⟨bk,o+j * 6+2,none⟩=some (.int .i64 x.fl)):=fun w hw=>hw.flag HTW.out hx
        generalize x.fl=fl at *
        generalize hasI fl 2=z2 at *
        generalize hasI fl 8=z8 at *
        clear hx hfl
        go_wp2_with (first
          | (go_at_call 118;refine HF.out.mono ?_;rintro e w2 ⟨rfl,hb⟩;have B2:Hid (Below w1.heap.size w1 w2):=bstep hB.out hb;have O2:Hid (w2.ownsRow w1.heap.size 24 2 (.slice va L.length vn) L.length (flatD L)):=rowBelow hO.out hb;have hcr2:w2.cell? ⟨g,j,none⟩=some (.int .i64 (i:Int)):=(hb.cell (p:=⟨g,j,none⟩) hgr).trans hcr;have HR2:Hid (RAt b cs w2):=HRr.out.below hb;clear hb HF hcr))
        obtain ⟨g9,cap9,bk9,o9,n9,cm9,j9,rfl,c91,c92,c93,c94,c95,c96,c97,c98⟩:=HFL.out _ HR2.out
        go_region
        have O3:Hid (w2.drew.ownsRow w1.heap.size 24 2 (.slice va L.length vn) L.length (flatD L)):=rowBelow O2.out ((Below.refl _ _).drew)
        have B3:Hid (Below w1.heap.size w1 w2.drew):=B2.out.drew
        have hcr3:w2.drew.cell? ⟨g,j,none⟩=some (.int .i64 (i:Int)):=(((Below.refl w2.heap.size w2).drew).cell (p:=⟨g,j,none⟩) (World.block_lt_of_cell? w2 _ hcr2)).trans hcr2
        have hgl3:g<w2.drew.heap.size:=World.block_lt_of_cell? _ _ hcr3
        generalize w2.drew=w3 at *
        have hgn3:¬ g=w3.heap.size:=by omega
        clear c91 c92 c93 c94 c95 c96 c97 c98 O2 B2 hcr2 HR2 HFL HRr
        cases z2 with
        | true =>
          have hst2:candL ps nm ds (List.take (j+1) q.cl)=L:=by rw [HST.out,hS,if_neg (by simp)];simp
          clear HST
          go_wp2_with (first
            | (go_at_call 101;refine (H2.out _).mono ?_;rintro e w9 ⟨rfl,hw9⟩;rw [hw9];clear hw9 w9))
          refine ⟨⟨j+1,by simp,by omega,?_,B3⟩,by simp [intOf];omega⟩
          rw [hst2];exact O3
        | false=>cases z8 with
          | true =>
            have hst2:candL ps nm ds (List.take (j+1) q.cl)=L:=by rw [HST.out,hS,if_neg (by simp)];simp
            clear HST
            go_wp2_with (first
              | (go_at_call 101;refine (H2.out _).mono ?_;rintro e w9 ⟨rfl,hw9⟩;rw [hw9];clear hw9 w9 H2)
              | (go_at_call 101;refine (H8.out _).mono ?_;rintro e w9 ⟨rfl,hw9⟩;rw [hw9];clear hw9 w9))
            refine ⟨⟨j+1,by simp,by omega,?_,B3⟩,by simp [intOf];omega⟩
            rw [hst2];exact O3
          | false =>
            have hst2:candL ps nm ds (List.take (j+1) q.cl)=L++[((i:Int),(j9:Int))]:=by rw [HST.out,hS,if_pos (by simp)]
            clear HST
            go_wp2_with (first
              | (go_at_call 101;refine (H2.out _).mono ?_;rintro e w9 ⟨rfl,hw9⟩;rw [hw9];clear hw9 w9 H2)
              | (go_at_call 101;refine (H8.out _).mono ?_;rintro e w9 ⟨rfl,hw9⟩;rw [hw9];clear hw9 w9)
              | (at_builtin;refine wpList_append_own _ rfl _ _ 39 rfl w1.heap.size 24 i0 (.agg #[.int .i64 0,.int .i64 0]) 2 16 Tryz.underlying39 hi0 hz0 hz1 hz2 rfl (by decide) (.slice va L.length vn) L.length (flatD L) rfl (O3.out.alloc _) ⟨w3.heap.size,0,none⟩ 1 1 [.int .i64 (i:Int),.int .i64 (j9:Int)] rfl rfl ?c1 ?c2 ?c3 ?c4 ?c5 ?_))
            case c1=>intro jj u hj;rw [addr_add];match jj,hj with
              | 0,hj=>simp at hj;subst hj;simp [go_sem]
              | 1,hj=>simp at hj;subst hj;simp [go_sem]
              | (jj+2),hj=>simp at hj
            case c2=>intro u hu;simp at hu;rcases hu with rfl|rfl <;> rfl
            case c3=>unfold maxLen;omega
            case c4=>omega
            case c5=>have:=B3.out.size;simp;omega
            intro v' w4 hown hgrow _
            obtain ⟨va2,vn2,rfl⟩:=ownv hown
            have B4:Hid (Below w1.heap.size w1 w4):=by
              have hb1:Below w1.heap.size w1 (w3.alloc (.cells #[.int .i64 (i:Int),.int .i64 (j9:Int)] 24)):=B3.out.alloc B3.out.size _
              refine hb1.grown hgrow hb1.size (fun x hx=>?_)
              have:=(O3.out.lt x hx).1
              omega
            have O4:Hid (w4.ownsRow w1.heap.size 24 2 (.slice va2 (L.length+1) vn2) (L++[((i:Int),(j9:Int))]).length (flatD (L++[((i:Int),(j9:Int))]))):=by
              rw [Hid,List.length_append,flatD_app];exact hown
            go_wp2
            refine ⟨⟨j+1,by simp,by omega,?_,B4⟩,by simp [intOf];omega⟩
            rw [hst2];exact O4
      · have hst2:candL ps nm ds (List.take (j+1) q.cl)=L:=by rw [HST.out,if_neg (fun h=>hF h.1)];simp
        clear HST hfl
        go_wp2_with (first
          | (go_at_call 118;refine HF.out.mono ?_;rintro e w2 ⟨rfl,hb⟩;have B2:Hid (Below w1.heap.size w1 w2):=bstep hB.out hb;have O2:Hid (w2.ownsRow w1.heap.size 24 2 (.slice va L.length vn) L.length (flatD L)):=rowBelow hO.out hb;clear hb HF))
        refine ⟨⟨j+1,by simp,by omega,?_,B2⟩,by simp [intOf];omega⟩
        rw [hst2];exact O2
    · have e:j=K:=by omega
      subst e
      have HE:Hid (candL ps nm ds (q.cl.take j)=candL ps nm ds q.cl):=by rw [Hid,List.take_of_length_le (by rw [HK.out];exact Nat.le_refl _)]
      rw [HE.out] at hO
      obtain ⟨va,vn,rfl⟩:=ownv hO.out
      go_wp2
      exact bodyPost_ret (results_tmp2 rfl _ _ _) rfl ⟨⟨_,rfl,Go.Joins.ownsRow_le hO.out B1.out.size⟩,B1.out.trans (hB.out.mono B1.out.size)⟩
theorem RAt.meth {b:Nat} {cs:List Cls} {ps:List Plc} {w:World} (h:RAt b cs w) (ht:TwW cs ps) {k:Nat} {i:Int} {x:HM} (hx:methI ps (k:Int) i=some x):∃ (g cap bk n cm j:Nat) (ac:Option Addr) (cc:Nat),i=(j:Int)∧w.cell? ⟨b,0,none⟩=some (.slice (some ⟨g,0,none⟩) cs.length cap)∧b<w.heap.size∧g<w.heap.size∧(k:Int)<(cs.length:Int)∧w.cell? ⟨g,k * 6+5,none⟩=some (.slice (some ⟨bk,0,none⟩) n cm)∧bk<w.heap.size∧(j:Int)<(n:Int)∧w.cell? ⟨bk,j * 6,none⟩=some (.string x.nm)∧w.cell? ⟨bk,j * 6+1,none⟩=some (.string x.ds)∧w.cell? ⟨bk,j * 6+2,none⟩=some (.int .i64 x.fl)∧w.cell? ⟨bk,j * 6+3,none⟩=some (.int .i64 x.lo)∧w.cell? ⟨bk,j * 6+4,none⟩=some (.int .i64 x.st)∧w.cell? ⟨bk,j * 6+5,none⟩=some (.slice ac x.n cc)∧Rds w (.slice ac x.n cc) x.n 7 x.xs∧(∀ u∈x.xs,u.oneCell'=true)∧x.n≤1000000:=by
  obtain ⟨k',q,hk,hq,_,hm⟩:=meth_plc hx
  have:k=k':=by omega
  subst this
  obtain ⟨c,hc,hcq⟩:=ht.tw.at' hq
  have hcd:=(ht.wi.pb q (List.mem_of_getElem? hq)).cd
  obtain ⟨N,v,rs,hW,hrc⟩:=h
  have hc2:=hc
  rw [← hrc,List.getElem?_map] at hc2
  cases er:rs[k]? with
  | none=>rw [er] at hc2;cases hc2
  | some r =>
    rw [er] at hc2
    have hrcc:r.c=c:=Option.some.inj hc2
    have hkl:=(List.getElem?_eq_some_iff.1 er).1
    obtain ⟨g,cap,rfl⟩:=Go.Joins.ownsRow_form hW.row (by omega)
    have hat:=(hW.row.cellAt (k * 6+5) (by omega)).trans (flatR_at rs k r er 5 (by omega))
    have b0:=cell_of_row w b 0 _ _ _ hW.hb
    simp only [List.getElem?_toArray,List.getElem?_cons_zero] at b0
    obtain ⟨qm,hqm,ho⟩:=hW.own r (List.mem_of_getElem? er)
    unfold methP at hm
    split at hm
    · rename_i hi
      have hms:q.c.ms=qm.map Prod.fst:=by rw [hqm,hrcc,hcq];rfl
      have hxm:x∈q.c.ms:=List.mem_of_getElem? hm
      rw [hms,List.getElem?_map] at hm
      cases e:qm[i.toNat]? with
      | none=>rw [e] at hm;cases hm
      | some p =>
        rw [e] at hm
        have hpx:p.1=x:=Option.some.inj hm
        have hil:=(List.getElem?_eq_some_iff.1 e).1
        obtain ⟨bk,cm,hvm⟩:=Go.Joins.ownsRow_form ho.ms (by omega)
        have hmr:=ho.ms
        rw [hvm] at hmr
        have hcell:=fun j hj=>(hmr.cellAt (i.toNat * 6+j) (by omega)).trans (flatH_at qm i.toNat p e j hj)
        have hco:=ho.cod p (List.mem_of_getElem? e)
        obtain ⟨ac,cc,hp2⟩:=ownv hco
        have h0:w.cell? ⟨bk,i.toNat * 6,none⟩=some (.string x.nm):=by rw [← hpx];exact hcell 0 (by omega)
        have hgb:=World.block_lt_of_cell? w _ (show w.cell? ⟨g,k * 6+5,none⟩=some r.vm from hat)
        refine ⟨g,cap,bk,qm.length,cm,i.toNat,ac,cc,by omega,?_,(Array.getElem?_eq_some_iff.1 hW.hb).1,hgb,?_,?_,World.block_lt_of_cell? w _ h0,by omega,h0,?_,?_,?_,?_,?_,?_,(hcd x hxm).1,(hcd x hxm).2⟩
        · rw [← hrc,List.length_map];exact b0
        · rw [← hrc,List.length_map];omega
        · rw [← hvm];exact hat
        · rw [← hpx];exact hcell 1 (by omega)
        · rw [← hpx];exact hcell 2 (by omega)
        · rw [← hpx];exact hcell 3 (by omega)
        · rw [← hpx];exact hcell 4 (by omega)
        · have:=hcell 5 (by omega)
          rw [← hpx,← hp2];exact this
        · rw [hp2] at hco
          rw [← hpx]
          exact own_rds hco
    · cases hm
def MthS (x:Option HM) (e:Ending):Prop:=match x with
  | none=>e=.returned noM
  | some x=>∃ a n c,e=.returned (.tuple #[.agg #[.string x.nm,.string x.ds,.int .i64 x.fl,.int .i64 x.lo,.int .i64 x.st,.slice a n c],.int .i64 0])
set_option maxHeartbeats 1000000 in
theorem rMethod_no {b:Nat} {cs:List Cls} {ps:List Plc} {W:World} (h:RAt b cs W) (ht:TwW cs ps) (c i:Int) (hm:plcI ps c=none):Calls Tryz.prog 179 #[.pointer (some ⟨b,0,none⟩),.agg #[.int .i64 c,.int .i64 i]] W fun e w'=>e=.returned noM∧Below W.heap.size W w':=by
  obtain ⟨σ,V,hne,V1,V2⟩:=class_of' (fun w'=>Below (W.heap.size+2) ((W.alloc (.cells #[.int .i64 c,.int .i64 i] 24)).alloc (.cells #[.string ⟨#[]⟩,.string ⟨#[]⟩,.int .i64 0,.int .i64 0,.int .i64 0,.slice none 0 0] 81)) w') ⟨_,Below.refl _ _⟩
  have hBV:∀ s0,Below W.heap.size W (V s0):=fun s0=>(((Below.refl _ W).alloc (Nat.le_refl _) _).alloc (by simp) _).trans ((V1.out s0).mono (by omega))
  have HI:Hid (∀ s0,Calls Tryz.prog 76 #[.pointer (some ⟨b,0,none⟩),.int .i64 c] (V s0) fun e w''=>e=.returned (.bool false)∧∃ s',w''=V s'):=fun s0=>(rIn_t (h.below (hBV s0)) ht c).mono fun e w'' zz=>⟨by rw [zz.1,hm];rfl,s0,zz.2⟩
  have m0:∀ s0,(V s0).cell? ⟨W.heap.size,0,none⟩=some (.int .i64 c):=fun s0=>((V1.out s0).cell (p:=⟨W.heap.size,0,none⟩) (show W.heap.size<W.heap.size+2 by omega)).trans (by simp [go_sem])
  have HZ:Hid (∀ s0,(V s0).heap[W.heap.size+1]?=some (.cells #[.string ⟨#[]⟩,.string ⟨#[]⟩,.int .i64 0,.int .i64 0,.int .i64 0,.slice none 0 0] 81 (0,0))):=fun s0=>((V1.out s0).block (W.heap.size+1) (by omega)).trans (heap_alloc2_new W _ _)
  have HBV:Hid (∀ s0,Below W.heap.size W (V s0)):=hBV
  have VD:Hid (∃ s1,((W.alloc (.cells #[.int .i64 c,.int .i64 i] 24)).alloc (.cells #[.string ⟨#[]⟩,.string ⟨#[]⟩,.int .i64 0,.int .i64 0,.int .i64 0,.slice none 0 0] 81)).drew=V s1):=V2.out _ ((Below.refl _ _).drew)
  clear h ht hm hBV V1 V2
  go_enter Tryz.func179,Tryz.ntmps179
  go_wp2
  refine wp_region_class (C:=fun w'=>∃ s0,w'=V s0) (by kernel_rfl) (by kernel_rfl) VD.out ?_
  repeat (go_big_quiet_step ((go_at_call 76;exact HI.out _)))
  refine wpQuiet_nil ?_
  intro w9 hw9
  obtain ⟨s9,hs9⟩:=hw9
  have k:w9.heap[W.heap.size+1]?=some (.cells #[.string ⟨#[]⟩,.string ⟨#[]⟩,.int .i64 0,.int .i64 0,.int .i64 0,.slice none 0 0] 81 (0,0)):=by rw [hs9];exact HZ.out s9
  have B9:Hid (Below W.heap.size W w9):=by rw [hs9];exact HBV.out s9
  clear HZ HBV VD HI hs9 m0
  have z0:w9.cell? ⟨W.heap.size+1,0,none⟩=some (.string ⟨#[]⟩):=(cell_of_row _ (W.heap.size+1) 0 _ _ _ k).trans rfl
  have z1:w9.cell? ⟨W.heap.size+1,1,none⟩=some (.string ⟨#[]⟩):=(cell_of_row _ (W.heap.size+1) 1 _ _ _ k).trans rfl
  have z2:w9.cell? ⟨W.heap.size+1,2,none⟩=some (.int .i64 0):=(cell_of_row _ (W.heap.size+1) 2 _ _ _ k).trans rfl
  have z3:w9.cell? ⟨W.heap.size+1,3,none⟩=some (.int .i64 0):=(cell_of_row _ (W.heap.size+1) 3 _ _ _ k).trans rfl
  have z4:w9.cell? ⟨W.heap.size+1,4,none⟩=some (.int .i64 0):=(cell_of_row _ (W.heap.size+1) 4 _ _ _ k).trans rfl
  have z5:w9.cell? ⟨W.heap.size+1,5,none⟩=some (.slice none 0 0):=(cell_of_row _ (W.heap.size+1) 5 _ _ _ k).trans rfl
  have f0:=frozen_of_row w9 (W.heap.size+1) 0 _ _ k
  have f1:=frozen_of_row w9 (W.heap.size+1) 1 _ _ k
  have f2:=frozen_of_row w9 (W.heap.size+1) 2 _ _ k
  have f3:=frozen_of_row w9 (W.heap.size+1) 3 _ _ k
  have f4:=frozen_of_row w9 (W.heap.size+1) 4 _ _ k
  have f5:=frozen_of_row w9 (W.heap.size+1) 5 _ _ k
  clear k
  go_wp2
  refine bodyPost_ret (v:=noM) (by simp [results,Tryz.results179,go_sem,noM,z0,z1,z2,z3,z4,z5]) rfl ⟨rfl,?_⟩
  repeat (first|refine Below.setCell ?_ (by simp;try omega) _|exact B9.out)
set_option maxHeartbeats 1000000 in
theorem rMethod_no2 {b:Nat} {cs:List Cls} {ps:List Plc} {W:World} (h:RAt b cs W) (ht:TwW cs ps) (k:Nat) (q:Plc) (hq:ps[k]?=some q) (i:Int) (hm:methP q i=none):Calls Tryz.prog 179 #[.pointer (some ⟨b,0,none⟩),.agg #[.int .i64 (k:Int),.int .i64 i]] W fun e w'=>e=.returned noM∧Below W.heap.size W w':=by
  obtain ⟨c0,hc,hcq⟩:=ht.tw.at' hq
  obtain ⟨c,hcI⟩:∃ c:Int,c=(k:Int):=⟨_,rfl⟩
  rw [← hcI]
  obtain ⟨σ,V,hne,V1,V2⟩:=class_of' (fun w'=>Below (W.heap.size+2) ((W.alloc (.cells #[.int .i64 c,.int .i64 i] 24)).alloc (.cells #[.string ⟨#[]⟩,.string ⟨#[]⟩,.int .i64 0,.int .i64 0,.int .i64 0,.slice none 0 0] 81)) w') ⟨_,Below.refl _ _⟩
  have hBV:∀ s0,Below W.heap.size W (V s0):=fun s0=>(((Below.refl _ W).alloc (Nat.le_refl _) _).alloc (by simp) _).trans ((V1.out s0).mono (by omega))
  have HI:Hid (∀ s0,Calls Tryz.prog 76 #[.pointer (some ⟨b,0,none⟩),.int .i64 c] (V s0) fun e w''=>e=.returned (.bool true)∧∃ s',w''=V s'):=fun s0=>(rIn_t (h.below (hBV s0)) ht c).mono fun e w'' zz=>⟨by rw [zz.1,hcI,plcI_nat,hq];rfl,s0,zz.2⟩
  have m0:∀ s0,(V s0).cell? ⟨W.heap.size,0,none⟩=some (.int .i64 c):=fun s0=>((V1.out s0).cell (p:=⟨W.heap.size,0,none⟩) (show W.heap.size<W.heap.size+2 by omega)).trans (by simp [go_sem])
  have HZ:Hid (∀ s0,(V s0).heap[W.heap.size+1]?=some (.cells #[.string ⟨#[]⟩,.string ⟨#[]⟩,.int .i64 0,.int .i64 0,.int .i64 0,.slice none 0 0] 81 (0,0))):=fun s0=>((V1.out s0).block (W.heap.size+1) (by omega)).trans (heap_alloc2_new W _ _)
  have HBV:Hid (∀ s0,Below W.heap.size W (V s0)):=hBV
  have VD:Hid (∃ s1,((W.alloc (.cells #[.int .i64 c,.int .i64 i] 24)).alloc (.cells #[.string ⟨#[]⟩,.string ⟨#[]⟩,.int .i64 0,.int .i64 0,.int .i64 0,.slice none 0 0] 81)).drew=V s1):=V2.out _ ((Below.refl _ _).drew)
  have m1:∀ s0,(V s0).cell? ⟨W.heap.size,1,none⟩=some (.int .i64 i):=fun s0=>((V1.out s0).cell (p:=⟨W.heap.size,1,none⟩) (show W.heap.size<W.heap.size+2 by omega)).trans (by simp [go_sem])
  obtain ⟨g,cap,vi,vm,b0,hlt,hgl,_,_,_,_,_,c5,_,hMs⟩:=RAt.cells h hc
  obtain ⟨am,cm,rfl⟩:=mths_slice hMs
  have kp:∀ (s0:σ) (bb j:Nat) (v:Value),bb<W.heap.size→W.cell? ⟨bb,j,none⟩=some v→(V s0).cell? ⟨bb,j,none⟩=some v:=fun s0 bb j v hl h=>((hBV s0).cell (p:=⟨bb,j,none⟩) hl).trans h
  replace b0:=fun s0=>kp s0 _ _ _ hlt b0
  replace c5:=fun s0=>kp s0 _ _ _ hgl c5
  have hkI:(k:Int)<(cs.length:Int):=by have:=(List.getElem?_eq_some_iff.1 hc).1;omega
  have hml:i<0∨(0≤i∧(c0.ms.length:Int)≤i):=by
    unfold methP at hm
    split at hm
    · rename_i h0
      have:q.c.ms.length=c0.ms.length:=by rw [hcq];simp [hcOf]
      have:=List.getElem?_eq_none_iff.1 hm
      exact .inr ⟨h0,by omega⟩
    · exact .inl (by omega)
  generalize c0.ms.length=n at *
  subst hcI
  clear h ht hm hBV V1 V2 kp hMs hq hc hcq
  have hml2:(i<0∧decide (i<0)=true)∨(¬ i<0∧decide (i<0)=false∧(n:Int)≤i):=by
    rcases hml with h0|⟨h0,h1⟩
    · exact .inl ⟨h0,by simpa using h0⟩
    · exact .inr ⟨by omega,by simpa using h0,h1⟩
  clear hml
  rcases hml2 with ⟨hi,hi1⟩|⟨hi,hi1,hi2⟩
  all_goals
    go_enter Tryz.func179,Tryz.ntmps179
    go_wp2
    refine wp_region_class (C:=fun w'=>∃ s0,w'=V s0) (by kernel_rfl) (by kernel_rfl) VD.out ?_
    repeat (go_big_quiet_step ((go_at_call 76;exact HI.out _)))
    refine wpQuiet_nil ?_
    intro w9 hw9
    obtain ⟨s9,hs9⟩:=hw9
    have k:w9.heap[W.heap.size+1]?=some (.cells #[.string ⟨#[]⟩,.string ⟨#[]⟩,.int .i64 0,.int .i64 0,.int .i64 0,.slice none 0 0] 81 (0,0)):=by rw [hs9];exact HZ.out s9
    have B9:Hid (Below W.heap.size W w9):=by rw [hs9];exact HBV.out s9
    clear HZ HBV VD HI hs9 m0 m1 b0 c5
    have z0:w9.cell? ⟨W.heap.size+1,0,none⟩=some (.string ⟨#[]⟩):=(cell_of_row _ (W.heap.size+1) 0 _ _ _ k).trans rfl
    have z1:w9.cell? ⟨W.heap.size+1,1,none⟩=some (.string ⟨#[]⟩):=(cell_of_row _ (W.heap.size+1) 1 _ _ _ k).trans rfl
    have z2:w9.cell? ⟨W.heap.size+1,2,none⟩=some (.int .i64 0):=(cell_of_row _ (W.heap.size+1) 2 _ _ _ k).trans rfl
    have z3:w9.cell? ⟨W.heap.size+1,3,none⟩=some (.int .i64 0):=(cell_of_row _ (W.heap.size+1) 3 _ _ _ k).trans rfl
    have z4:w9.cell? ⟨W.heap.size+1,4,none⟩=some (.int .i64 0):=(cell_of_row _ (W.heap.size+1) 4 _ _ _ k).trans rfl
    have z5:w9.cell? ⟨W.heap.size+1,5,none⟩=some (.slice none 0 0):=(cell_of_row _ (W.heap.size+1) 5 _ _ _ k).trans rfl
    have f0:=frozen_of_row w9 (W.heap.size+1) 0 _ _ k
    have f1:=frozen_of_row w9 (W.heap.size+1) 1 _ _ k
    have f2:=frozen_of_row w9 (W.heap.size+1) 2 _ _ k
    have f3:=frozen_of_row w9 (W.heap.size+1) 3 _ _ k
    have f4:=frozen_of_row w9 (W.heap.size+1) 4 _ _ k
    have f5:=frozen_of_row w9 (W.heap.size+1) 5 _ _ k
    clear k
    go_wp2
    refine bodyPost_ret (v:=noM) (by simp [results,Tryz.results179,go_sem,noM,z0,z1,z2,z3,z4,z5]) rfl ⟨rfl,?_⟩
    repeat (first|refine Below.setCell ?_ (by simp;try omega) _|exact B9.out)
set_option maxHeartbeats 1000000 in
theorem rMethod_yes {b:Nat} {cs:List Cls} {ps:List Plc} {W:World} (h:RAt b cs W) (ht:TwW cs ps) (k:Nat) (q:Plc) (hq:ps[k]?=some q) (i:Int) (x:HM) (hm:methI ps (k:Int) i=some x):Calls Tryz.prog 179 #[.pointer (some ⟨b,0,none⟩),.agg #[.int .i64 (k:Int),.int .i64 i]] W fun e w'=>MthS (some x) e∧Below W.heap.size W w':=by
  obtain ⟨iI,hiI,hzI,hsI,hbI⟩:=info_parts Tryz.hinfo81
  obtain ⟨c0,hc,hcq⟩:=ht.tw.at' hq
  obtain ⟨c,hcI⟩:∃ c:Int,c=(k:Int):=⟨_,rfl⟩
  rw [← hcI]
  obtain ⟨σ,V,hne,V1,V2⟩:=class_of' (fun w'=>Below (W.heap.size+2) ((W.alloc (.cells #[.int .i64 c,.int .i64 i] 24)).alloc (.cells #[.string ⟨#[]⟩,.string ⟨#[]⟩,.int .i64 0,.int .i64 0,.int .i64 0,.slice none 0 0] 81)) w') ⟨_,Below.refl _ _⟩
  have hBV:∀ s0,Below W.heap.size W (V s0):=fun s0=>(((Below.refl _ W).alloc (Nat.le_refl _) _).alloc (by simp) _).trans ((V1.out s0).mono (by omega))
  have HI:Hid (∀ s0,Calls Tryz.prog 76 #[.pointer (some ⟨b,0,none⟩),.int .i64 c] (V s0) fun e w''=>e=.returned (.bool true)∧∃ s',w''=V s'):=fun s0=>(rIn_t (h.below (hBV s0)) ht c).mono fun e w'' zz=>⟨by rw [zz.1,hcI,plcI_nat,hq];rfl,s0,zz.2⟩
  have m0:∀ s0,(V s0).cell? ⟨W.heap.size,0,none⟩=some (.int .i64 c):=fun s0=>((V1.out s0).cell (p:=⟨W.heap.size,0,none⟩) (show W.heap.size<W.heap.size+2 by omega)).trans (by simp [go_sem])
  have HZ:Hid (∀ s0,(V s0).heap[W.heap.size+1]?=some (.cells #[.string ⟨#[]⟩,.string ⟨#[]⟩,.int .i64 0,.int .i64 0,.int .i64 0,.slice none 0 0] 81 (0,0))):=fun s0=>((V1.out s0).block (W.heap.size+1) (by omega)).trans (heap_alloc2_new W _ _)
  have HBV:Hid (∀ s0,Below W.heap.size W (V s0)):=hBV
  have VD:Hid (∃ s1,((W.alloc (.cells #[.int .i64 c,.int .i64 i] 24)).alloc (.cells #[.string ⟨#[]⟩,.string ⟨#[]⟩,.int .i64 0,.int .i64 0,.int .i64 0,.slice none 0 0] 81)).drew=V s1):=V2.out _ ((Below.refl _ _).drew)
  have m1:∀ s0,(V s0).cell? ⟨W.heap.size,1,none⟩=some (.int .i64 i):=fun s0=>((V1.out s0).cell (p:=⟨W.heap.size,1,none⟩) (show W.heap.size<W.heap.size+2 by omega)).trans (by simp [go_sem])
  have HMe:Hid (∀ w,Below W.heap.size W w→∃ (g cap bk n cm j:Nat) (ac:Option Addr) (cc:Nat),i=(j:Int)∧w.cell? ⟨b,0,none⟩=some (.slice (some ⟨g,0,none⟩) cs.length cap)∧b<w.heap.size∧g<w.heap.size∧(k:Int)<(cs.length:Int)∧w.cell? ⟨g,k * 6+5,none⟩=some (.slice (some ⟨bk,0,none⟩) n cm)∧bk<w.heap.size∧(j:Int)<(n:Int)∧w.cell? ⟨bk,j * 6,none⟩=some (.string x.nm)∧w.cell? ⟨bk,j * 6+1,none⟩=some (.string x.ds)∧w.cell? ⟨bk,j * 6+2,none⟩=some (.int .i64 x.fl)∧w.cell? ⟨bk,j * 6+3,none⟩=some (.int .i64 x.lo)∧w.cell? ⟨bk,j * 6+4,none⟩=some (.int .i64 x.st)∧w.cell? ⟨bk,j * 6+5,none⟩=some (.slice ac x.n cc)∧Rds w (.slice ac x.n cc) x.n 7 x.xs∧(∀ u∈x.xs,u.oneCell'=true)∧x.n≤1000000):=fun w hb=>(h.below hb).meth ht hm
  obtain ⟨g,cap,bk,n,cm,j,ac,cc,rfl,b0,hlt,hgl,hkI,c5,hbk,hjn,e0,e1,e2,e3,e4,e5,hrd,hone,hxn⟩:=HMe.out W (Below.refl _ _)
  have kp:∀ (s0:σ) (bb j:Nat) (v:Value),bb<W.heap.size→W.cell? ⟨bb,j,none⟩=some v→(V s0).cell? ⟨bb,j,none⟩=some v:=fun s0 bb j v hl h=>((hBV s0).cell (p:=⟨bb,j,none⟩) hl).trans h
  have KP:Hid (∀ (s0:σ) (bb j:Nat) (v:Value),bb<W.heap.size→W.cell? ⟨bb,j,none⟩=some v→(V s0).cell? ⟨bb,j,none⟩=some v):=kp
  have b0s:=fun s0=>kp s0 _ _ _ hlt b0
  have c5s:=fun s0=>kp s0 _ _ _ hgl c5
  have hj0:¬ (j:Int)<0:=by omega
  have hj1:decide ((j:Int)<0)=false:=by simp
  have hj2:¬ (n:Int)≤(j:Int):=by omega
  have HRD:Hid (Rds W (.slice ac x.n cc) x.n 7 x.xs):=hrd
  have HON:Hid (∀ u∈x.xs,u.oneCell'=true):=hone
  subst hcI
  clear h ht hm hBV V1 V2 kp hq hc hcq HMe hrd hone
  have HE:Hid (W.cell? ⟨bk,j * 6,none⟩=some (.string x.nm)∧W.cell? ⟨bk,j * 6+1,none⟩=some (.string x.ds)∧W.cell? ⟨bk,j * 6+2,none⟩=some (.int .i64 x.fl)∧W.cell? ⟨bk,j * 6+3,none⟩=some (.int .i64 x.lo)∧W.cell? ⟨bk,j * 6+4,none⟩=some (.int .i64 x.st)∧W.cell? ⟨bk,j * 6+5,none⟩=some (.slice ac x.n cc)):=⟨e0,e1,e2,e3,e4,e5⟩
  clear e0 e1 e2 e3 e4 e5 b0 c5
  go_enter Tryz.func179,Tryz.ntmps179
  go_wp2
  refine wp_region_class (C:=fun w'=>∃ s0,w'=V s0) (by kernel_rfl) (by kernel_rfl) VD.out ?_
  repeat (go_big_quiet_step ((go_at_call 76;exact HI.out _)))
  refine wpQuiet_nil ?_
  intro w9 hw9
  obtain ⟨s9,hs9⟩:=hw9
  have k9:w9.heap[W.heap.size+1]?=some (.cells #[.string ⟨#[]⟩,.string ⟨#[]⟩,.int .i64 0,.int .i64 0,.int .i64 0,.slice none 0 0] 81 (0,0)):=by rw [hs9];exact HZ.out s9
  have B9:Hid (Below W.heap.size W w9):=by rw [hs9];exact HBV.out s9
  have q0:w9.cell? ⟨W.heap.size,0,none⟩=some (.int .i64 (k:Int)):=by rw [hs9];exact m0 s9
  have q1:w9.cell? ⟨W.heap.size,1,none⟩=some (.int .i64 (j:Int)):=by rw [hs9];exact m1 s9
  have q2:=b0s s9
  have q3:=c5s s9
  rw [← hs9] at q2 q3
  clear HZ HBV VD HI hs9 m0 m1 b0s c5s KP
  obtain ⟨e0,e1,e2,e3,e4,e5⟩:=HE.out
  replace e0:=(B9.out.cell (p:=⟨bk,j * 6,none⟩) hbk).trans e0
  replace e1:=(B9.out.cell (p:=⟨bk,j * 6+1,none⟩) hbk).trans e1
  replace e2:=(B9.out.cell (p:=⟨bk,j * 6+2,none⟩) hbk).trans e2
  replace e3:=(B9.out.cell (p:=⟨bk,j * 6+3,none⟩) hbk).trans e3
  replace e4:=(B9.out.cell (p:=⟨bk,j * 6+4,none⟩) hbk).trans e4
  replace e5:=(B9.out.cell (p:=⟨bk,j * 6+5,none⟩) hbk).trans e5
  clear HE
  have hL9:W.heap.size+1<w9.heap.size:=(Array.getElem?_eq_some_iff.1 k9).1
  have hs:=B9.out.size
  have y1:¬ W.heap.size=w9.heap.size:=by omega
  have y2:¬ bk=w9.heap.size:=by omega
  have y3:¬ b=w9.heap.size:=by omega
  have y4:¬ g=w9.heap.size:=by omega
  have y5:¬ W.heap.size+1=w9.heap.size:=by omega
  have x1:W.heap.size<w9.heap.size:=by omega
  have x2:bk<w9.heap.size:=by omega
  have x3:b<w9.heap.size:=by omega
  have x4:g<w9.heap.size:=by omega
  go_wp2
  go_region
  have hxU:(w9.alloc (.cells #[.string x.nm,.string x.ds,.int .i64 x.fl,.int .i64 x.lo,.int .i64 x.st,.slice ac x.n cc] 81)).drew.heap[w9.heap.size]?=some (.cells #[.string x.nm,.string x.ds,.int .i64 x.fl,.int .i64 x.lo,.int .i64 x.st,.slice ac x.n cc] 81 (0,0)):=(((Below.refl (w9.alloc (.cells #[.string x.nm,.string x.ds,.int .i64 x.fl,.int .i64 x.lo,.int .i64 x.st,.slice ac x.n cc] 81)).heap.size _).drew).block w9.heap.size (by simp)).trans (halloc1 w9 _)
  have hkU:(w9.alloc (.cells #[.string x.nm,.string x.ds,.int .i64 x.fl,.int .i64 x.lo,.int .i64 x.st,.slice ac x.n cc] 81)).drew.heap[W.heap.size+1]?=some (.cells #[.string ⟨#[]⟩,.string ⟨#[]⟩,.int .i64 0,.int .i64 0,.int .i64 0,.slice none 0 0] 81 (0,0)):=(((Below.refl (w9.alloc (.cells #[.string x.nm,.string x.ds,.int .i64 x.fl,.int .i64 x.lo,.int .i64 x.st,.slice ac x.n cc] 81)).heap.size _).drew).block (W.heap.size+1) (by simp;omega)).trans (hkeep k9)
  have BU:Below W.heap.size W (w9.alloc (.cells #[.string x.nm,.string x.ds,.int .i64 x.fl,.int .i64 x.lo,.int .i64 x.st,.slice ac x.n cc] 81)).drew:=(B9.out.alloc B9.out.size _).drew
  have hzU:(w9.alloc (.cells #[.string x.nm,.string x.ds,.int .i64 x.fl,.int .i64 x.lo,.int .i64 x.st,.slice ac x.n cc] 81)).drew.heap.size=w9.heap.size+1:=by simp
  generalize (w9.alloc (.cells #[.string x.nm,.string x.ds,.int .i64 x.fl,.int .i64 x.lo,.int .i64 x.st,.slice ac x.n cc] 81)).drew=U at *
  have x0U:=(cell_of_row U w9.heap.size 5 _ _ _ hxU).trans rfl
  have HRU:Hid (Rds U (.slice ac x.n cc) x.n 7 x.xs):=HRD.out.keep BU
  have HXU:Hid (U.heap[w9.heap.size]?=some (.cells #[.string x.nm,.string x.ds,.int .i64 x.fl,.int .i64 x.lo,.int .i64 x.st,.slice ac x.n cc] 81 (0,0))):=hxU
  have HKU:Hid (U.heap[W.heap.size+1]?=some (.cells #[.string ⟨#[]⟩,.string ⟨#[]⟩,.int .i64 0,.int .i64 0,.int .i64 0,.slice none 0 0] 81 (0,0))):=hkU
  have HBU:Hid (Below W.heap.size W U):=BU
  have n1:¬ w9.heap.size=U.heap.size:=by omega
  have n2:w9.heap.size<U.heap.size:=by omega
  simp only [List.getElem?_toArray,List.getElem?_cons_zero,List.getElem?_cons_succ] at x0U
  clear hxU hkU BU q0 q1 q2 q3 e0 e1 e2 e3 e4 e5 k9 HRD B9 y1 y2 y3 y4 x1 x2 x3 x4 hj0 hj1 hj2
  go_wp2_with (at_builtin;refine wpList_append_rdw rfl _ _ 79 rfl (w9.heap.size+1) 170 iI _ 7 _ Tryz.underlying79 hiI hzI hsI hbI rfl (by decide) (.slice (some ⟨w9.heap.size+1,0,none⟩) 0 0) 0 [] rfl (own_empty U _ hzU _ _ _ (by omega)) (.slice ac x.n cc) x.n x.xs rfl (.inl (HRU.out.keep ((Below.refl _ U).alloc (Nat.le_refl _) _))) HON.out ?c1 ?c2 ?c3 ?_)
  case c1=>unfold maxLen;omega
  case c2=>omega
  case c3=>simp;omega
  intro v' w5 hown hgrow
  obtain ⟨a5,c5,rfl⟩:=ownv hown
  have hb5:Below (w9.heap.size+1) U w5:=by
    have h1:Below (w9.heap.size+1) U (U.alloc (.cells #[] 170)):=(Below.refl _ U).alloc (by omega) _
    refine h1.grown hgrow (by simp;omega) (fun z hz=>?_)
    simp [Value.ownBlock] at hz
    omega
  have kx:=(hb5.block w9.heap.size (by omega)).trans HXU.out
  have kz:=(hb5.block (W.heap.size+1) (by omega)).trans HKU.out
  have B5:Hid (Below W.heap.size W w5):=HBU.out.trans (hb5.mono (by omega))
  have p0:w5.cell? ⟨w9.heap.size,0,none⟩=some (.string x.nm):=(cell_of_row _ w9.heap.size 0 _ _ _ kx).trans rfl
  have p1:w5.cell? ⟨w9.heap.size,1,none⟩=some (.string x.ds):=(cell_of_row _ w9.heap.size 1 _ _ _ kx).trans rfl
  have p2:w5.cell? ⟨w9.heap.size,2,none⟩=some (.int .i64 x.fl):=(cell_of_row _ w9.heap.size 2 _ _ _ kx).trans rfl
  have p3:w5.cell? ⟨w9.heap.size,3,none⟩=some (.int .i64 x.lo):=(cell_of_row _ w9.heap.size 3 _ _ _ kx).trans rfl
  have p4:w5.cell? ⟨w9.heap.size,4,none⟩=some (.int .i64 x.st):=(cell_of_row _ w9.heap.size 4 _ _ _ kx).trans rfl
  have p5:w5.cell? ⟨w9.heap.size,5,none⟩=some (.slice ac x.n cc):=(cell_of_row _ w9.heap.size 5 _ _ _ kx).trans rfl
  have pf:=frozen_of_row w5 w9.heap.size 5 _ _ kx
  have z0:w5.cell? ⟨W.heap.size+1,0,none⟩=some (.string ⟨#[]⟩):=(cell_of_row _ (W.heap.size+1) 0 _ _ _ kz).trans rfl
  have z1:w5.cell? ⟨W.heap.size+1,1,none⟩=some (.string ⟨#[]⟩):=(cell_of_row _ (W.heap.size+1) 1 _ _ _ kz).trans rfl
  have z2:w5.cell? ⟨W.heap.size+1,2,none⟩=some (.int .i64 0):=(cell_of_row _ (W.heap.size+1) 2 _ _ _ kz).trans rfl
  have z3:w5.cell? ⟨W.heap.size+1,3,none⟩=some (.int .i64 0):=(cell_of_row _ (W.heap.size+1) 3 _ _ _ kz).trans rfl
  have z4:w5.cell? ⟨W.heap.size+1,4,none⟩=some (.int .i64 0):=(cell_of_row _ (W.heap.size+1) 4 _ _ _ kz).trans rfl
  have z5:w5.cell? ⟨W.heap.size+1,5,none⟩=some (.slice none 0 0):=(cell_of_row _ (W.heap.size+1) 5 _ _ _ kz).trans rfl
  have f0:=frozen_of_row w5 (W.heap.size+1) 0 _ _ kz
  have f1:=frozen_of_row w5 (W.heap.size+1) 1 _ _ kz
  have f2:=frozen_of_row w5 (W.heap.size+1) 2 _ _ kz
  have f3:=frozen_of_row w5 (W.heap.size+1) 3 _ _ kz
  have f4:=frozen_of_row w5 (W.heap.size+1) 4 _ _ kz
  have f5:=frozen_of_row w5 (W.heap.size+1) 5 _ _ kz
  have hWle:Hid (W.heap.size≤w9.heap.size):=by rw [Hid];omega
  have y6:¬ w9.heap.size=W.heap.size+1:=by omega
  clear hown hgrow hb5 kx kz HXU HKU HRU HBU x0U
  try simp only [Nat.zero_add]
  go_wp2
  refine bodyPost_ret (v:=.tuple #[.agg #[.string x.nm,.string x.ds,.int .i64 x.fl,.int .i64 x.lo,.int .i64 x.st,.slice a5 (0+x.n) c5],.int .i64 0]) (by simp [results,Tryz.results179,go_sem,z0,z1,z2,z3,z4,z5]) rfl ⟨⟨_,_,_,rfl⟩,?_⟩
  repeat (first|refine Below.setCell ?_ (by first|(simp;done)|(simp;exact hWle.out)|(simp;omega)) _|exact B5.out)
theorem rMethod_c {b:Nat} {cs:List Cls} {ps:List Plc} {W:World} (h:RAt b cs W) (ht:TwW cs ps) (c i:Int):Calls Tryz.prog 179 #[.pointer (some ⟨b,0,none⟩),.agg #[.int .i64 c,.int .i64 i]] W fun e w'=>MthS (methI ps c i) e∧Below W.heap.size W w':=by
  rcases plcI_cases ps c with ⟨h1,_⟩|⟨k,q,rfl,h2,h1⟩
  · have e:methI ps c i=none:=by rw [methI,h1];rfl
    rw [e];exact rMethod_no h ht c i h1
  · cases hm:methI ps (k:Int) i with
    | none =>
      have:methP q i=none:=by rw [methI,h1] at hm;exact hm
      exact rMethod_no2 h ht k q h2 i this
    | some x=>exact rMethod_yes h ht k q h2 i x hm
def upR (ps:List Plc) (nm ds:ByteArray):List Nat→(Int×Int)×Int
  | []=>((0,0),6)
  | i::r=>if (ownR ps nm ds (i:Int)).2=0 then ((ownR ps nm ds (i:Int)).1,0) else upR ps nm ds r
theorem upR_at {ps:List Plc} {nm ds:ByteArray} {l:List Nat} {j i:Nat} (h:l[j]?=some i):upR ps nm ds (l.drop j)=if (ownR ps nm ds (i:Int)).2=0 then ((ownR ps nm ds (i:Int)).1,0) else upR ps nm ds (l.drop (j+1)):=by
  obtain ⟨h1,h2⟩:=List.getElem?_eq_some_iff.1 h
  rw [List.drop_eq_getElem_cons h1,h2,upR]
theorem chL_len {ps:List Plc} (hi:WI ps) {k:Nat} (hk:k<ps.length):(chL (ps.map nd) k).length≤1000000:=by
  have:=ch_len hi.wo k (by simpa using hk)
  have:=hi.hi
  omega
set_option maxHeartbeats 4000000 in
theorem up_yes {b:Nat} {ps:List Plc} {W:World} (h:WAt b ps W) (hi:WI ps) (k:Nat) (q:Plc) (hq:ps[k]?=some q) (nm ds:ByteArray):Calls Tryz.prog 233 #[.pointer (some ⟨b,0,none⟩),.int .i64 (k:Int),.string nm,.string ds] W fun e w'=>e=.returned (idE (upR ps nm ds (chL (ps.map nd) k)))∧Below W.heap.size W w':=by
  have HW0:Hid (WAt b ps W):=h
  have HPB:Hid (∀ q∈ps,PlcB q):=hi.pb
  have hKb:=chL_len hi (List.getElem?_eq_some_iff.1 hq).1
  have HC:Hid (∀ w,Below W.heap.size W w→Calls Tryz.prog 147 #[.pointer (some ⟨b,0,none⟩),.int .i64 (k:Int)] w fun e w'=>∃ v,e=.returned (.tuple #[v,.int .i64 0])∧w'.ownsRow w.heap.size 3 1 v (chL (ps.map nd) k).length ((chL (ps.map nd) k).map numV)∧Below w.heap.size w w'):=fun w hb=>by
    obtain ⟨N,mb,vp,pv,h⟩:=h.below hb
    exact chain_yes N b mb ps vp pv k (List.getElem?_eq_some_iff.1 hq).1 hi.wo hi.hi w h
  generalize chL (ps.map nd) k=l at *
  obtain ⟨R,hR⟩:∃ R,upR ps nm ds l=R:=⟨_,rfl⟩
  have HR:Hid (upR ps nm ds l=R):=hR
  rw [hR]
  obtain ⟨K,hK⟩:∃ K,l.length=K:=⟨_,rfl⟩
  have HK:Hid (l.length=K):=hK
  rw [hK] at hKb HC
  clear h hi hq hR hK
  go_enter Tryz.func233,Tryz.ntmps233
  go_wp2_with (first
    | (go_at_call 147;refine (HC.out _ (by repeat (first|exact Below.refl _ _|refine Below.setCell ?_ (by simp;try omega) _|refine Below.alloc ?_ (by simp;try omega) _|refine Below.drew ?_))).mono ?_;rintro e w1 ⟨v,rfl,ho,hb⟩;obtain ⟨ca,cc,rfl⟩:=ownv ho;have d1:w1.heap[W.heap.size]?=some (.cells #[.int .i64 0,.int .i64 0] 24 (0,0)):=(hb.block W.heap.size (by first|omega|(simp;try omega))).trans (by first|exact halloc2 _ _ rfl|exact heap_alloc2_old W _ _|exact RB.out|exact hkeep RB.out|exact hkeep (hkeep RB.out)|exact hkeep (heap_alloc2_old W _ _));(try clear RB z0 z1 f0 f1 hL9 hN9);have RB:Hid (w1.heap[W.heap.size]?=some (.cells #[.int .i64 0,.int .i64 0] 24 (0,0))):=d1;have z0:w1.cell? ⟨W.heap.size,0,none⟩=some (.int .i64 0):=(cell_of_row w1 W.heap.size 0 _ _ _ d1).trans rfl;have z1:w1.cell? ⟨W.heap.size,1,none⟩=some (.int .i64 0):=(cell_of_row w1 W.heap.size 1 _ _ _ d1).trans rfl;have f0:=frozen_of_row w1 W.heap.size 0 _ _ d1;have f1:=frozen_of_row w1 W.heap.size 1 _ _ d1;have hL9:W.heap.size<w1.heap.size:=(Array.getElem?_eq_some_iff.1 d1).1;have hN9:¬ W.heap.size=w1.heap.size:=(by omega);clear d1;have O1:Hid (w1.ownsRow W.heap.size 3 1 (.slice ca K cc) K (l.map numV)):=Go.Joins.ownsRow_le ho (by simp;try omega);have B1:Hid (Below W.heap.size W w1):=bstep (by repeat (first|exact Below.refl _ _|refine Below.setCell ?_ (by simp;try omega) _|refine Below.alloc ?_ (by simp;try omega) _|refine Below.drew ?_)) hb;have HW1:Hid (WAt b ps w1):=HW0.out.below B1.out;clear ho hb HC))
  go_loopw [28] (fun kv wr=>∃ (j:Nat),kv=.int .i64 j∧j≤K∧Hid (upR ps nm ds (l.drop j)=R)∧Hid (Below w1.heap.size w1 wr)) (fun kv _=>K - (intOf kv).toNat)
  case atStart=>exact ⟨0,rfl,Nat.zero_le _,HR,Below.refl _ _⟩
  case round =>
    obtain ⟨j,rfl,hj,hU,hB⟩:=hrel
    have hb:=hB.out
    have d1:wr.heap[W.heap.size]?=some (.cells #[.int .i64 0,.int .i64 0] 24 (0,0)):=(hb.block W.heap.size (by first|omega|(simp;try omega))).trans (by first|exact halloc2 _ _ rfl|exact heap_alloc2_old W _ _|exact RB.out|exact hkeep RB.out|exact hkeep (hkeep RB.out)|exact hkeep (heap_alloc2_old W _ _));(try clear RB z0 z1 f0 f1 hL9 hN9);have RB:Hid (wr.heap[W.heap.size]?=some (.cells #[.int .i64 0,.int .i64 0] 24 (0,0))):=d1;have z0:wr.cell? ⟨W.heap.size,0,none⟩=some (.int .i64 0):=(cell_of_row wr W.heap.size 0 _ _ _ d1).trans rfl;have z1:wr.cell? ⟨W.heap.size,1,none⟩=some (.int .i64 0):=(cell_of_row wr W.heap.size 1 _ _ _ d1).trans rfl;have f0:=frozen_of_row wr W.heap.size 0 _ _ d1;have f1:=frozen_of_row wr W.heap.size 1 _ _ d1;have hL9:W.heap.size<wr.heap.size:=(Array.getElem?_eq_some_iff.1 d1).1;have hN9:¬ W.heap.size=wr.heap.size:=(by omega);clear d1
    clear hb
    by_cases hlt:j<K
    · have hjl:j<l.length:=by rw [HK.out];exact hlt
      obtain ⟨i,hi⟩:∃ i,l[j]?=some i:=⟨_,List.getElem?_eq_getElem hjl⟩
      obtain ⟨g,c2,hform⟩:=Go.Joins.ownsRow_form O1.out (by omega)
      have hce:w1.cell? ⟨g,j,none⟩=some (.int .i64 (i:Int)):=by
        have hrow:=O1.out
        rw [hform] at hrow
        rw [hrow.cellAt j (by omega),List.getElem?_map,hi];rfl
      injection hform with hca _ hcc
      subst hca hcc
      have hgl:g<w1.heap.size:=World.block_lt_of_cell? w1 _ hce
      have hcr:=(hB.out.cell (p:=⟨g,j,none⟩) hgl).trans hce
      have HF:Hid (Calls Tryz.prog 230 #[.pointer (some ⟨b,0,none⟩),.int .i64 (i:Int),.string nm,.string ds] wr fun e w'=>e=.returned (idE (ownR ps nm ds i))∧Below wr.heap.size wr w'):=own_c (HW1.out.below hB.out) HPB.out i nm ds
      have hst:=upR_at (ps:=ps) (nm:=nm) (ds:=ds) hi
      rw [hU.out] at hst
      have HST:Hid _:=hst
      generalize ownR ps nm ds i=F at *
      obtain ⟨⟨F1,F2⟩,F3⟩:=F
      simp only [idE] at HF HST
      clear hce hi hjl hst hU
      by_cases hF:F3=0
      · subst hF
        have eR:R=((F1,F2),0):=by rw [HST.out,if_pos rfl]
        subst eR
        clear HST HR
        go_wp2_with (first
          | (go_at_call 230;refine HF.out.mono ?_;rintro e w2 ⟨rfl,hb⟩;have d1:w2.heap[W.heap.size]?=some (.cells #[.int .i64 0,.int .i64 0] 24 (0,0)):=(hb.block W.heap.size (by first|omega|(simp;try omega))).trans (by first|exact halloc2 _ _ rfl|exact heap_alloc2_old W _ _|exact RB.out|exact hkeep RB.out|exact hkeep (hkeep RB.out)|exact hkeep (heap_alloc2_old W _ _));(try clear RB z0 z1 f0 f1 hL9 hN9);have RB:Hid (w2.heap[W.heap.size]?=some (.cells #[.int .i64 0,.int .i64 0] 24 (0,0))):=d1;have z0:w2.cell? ⟨W.heap.size,0,none⟩=some (.int .i64 0):=(cell_of_row w2 W.heap.size 0 _ _ _ d1).trans rfl;have z1:w2.cell? ⟨W.heap.size,1,none⟩=some (.int .i64 0):=(cell_of_row w2 W.heap.size 1 _ _ _ d1).trans rfl;have f0:=frozen_of_row w2 W.heap.size 0 _ _ d1;have f1:=frozen_of_row w2 W.heap.size 1 _ _ d1;have hL9:W.heap.size<w2.heap.size:=(Array.getElem?_eq_some_iff.1 d1).1;have hN9:¬ W.heap.size=w2.heap.size:=(by omega);clear d1;have B2:Hid (Below W.heap.size W w2):=bstep (B1.out.trans (hB.out.mono B1.out.size)) hb;clear hb HF))
        exact bodyPost_ret (v:=idE ((F1,F2),0)) (by simp [results,Tryz.results233,go_sem,idE, *]) rfl ⟨rfl,(by repeat (first|exact B2.out|refine Below.setCell ?_ (by simp;try omega) _|refine Below.alloc ?_ (by have:=B2.out.size;simp;try omega) _|refine Below.drew ?_))⟩
      · have HU2:Hid (upR ps nm ds (l.drop (j+1))=R):=by rw [Hid,HST.out,if_neg hF]
        clear HST
        go_wp2_with (first
          | (go_at_call 230;refine HF.out.mono ?_;rintro e w2 ⟨rfl,hb⟩;have B2:Hid (Below w1.heap.size w1 w2):=bstep hB.out hb;clear hb HF))
        go_roundw
        case rel=>exact ⟨j+1,by go_num,by omega,HU2,B2.out.alloc B2.out.size _⟩
        case measure=>simp [intOf];omega
    · have e:j=K:=by omega
      subst e
      have eR:R=((0,0),6):=by rw [← hU.out,List.drop_of_length_le (by rw [HK.out];exact Nat.le_refl _)];rfl
      subst eR
      clear hU HR
      have B2:Hid (Below W.heap.size W wr):=B1.out.trans (hB.out.mono B1.out.size)
      go_wp2
      exact bodyPost_ret (v:=idE ((0,0),6)) (by simp [results,Tryz.results233,go_sem,idE, *]) rfl ⟨rfl,(by repeat (first|exact B2.out|refine Below.setCell ?_ (by simp;try omega) _|refine Below.alloc ?_ (by have:=B2.out.size;simp;try omega) _|refine Below.drew ?_))⟩
def firR:List ((Int×Int)×Int)→(Int×Int)×Int
  | []=>((0,0),21)
  | x::r=>if x.2=0 then (x.1,0) else firR r
theorem firR_at {l:List (Nat×((Int×Int)×Int))} {j:Nat} {x:Nat×((Int×Int)×Int)} (h:l[j]?=some x):firR ((l.drop j).map Prod.snd)=if x.2.2=0 then (x.2.1,0) else firR ((l.drop (j+1)).map Prod.snd):=by
  obtain ⟨h1,h2⟩:=List.getElem?_eq_some_iff.1 h
  rw [List.drop_eq_getElem_cons h1,h2,List.map_cons,firR]
def fnV (x:Nat×((Int×Int)×Int)):Value:=.func (.func x.1) #[] #[]
set_option maxHeartbeats 4000000 in
theorem try_c (vw vc:Value) (nm ds:ByteArray) (v:Value) (l:List (Nat×((Int×Int)×Int))) (W:World) (hv:Rds W v l.length 1 (l.map fnV)) (hn:l.length≤1000000) (eg:∀ x∈l,∀ args w,(callFunc x.1 args).run Tryz.prog w=.ok (.enter x.1 args) w)
    (hp:∀ x∈l,∀ w,Below W.heap.size W w→Calls Tryz.prog x.1 #[vw,vc,.string nm,.string ds] w fun e w'=>e=.returned (idE x.2)∧Below w.heap.size w w') :
    Calls Tryz.prog 229 #[vw,vc,.string nm,.string ds,v] W fun e w'=>e=.returned (idE (firR (l.map Prod.snd)))∧Below W.heap.size W w':=by
  obtain ⟨R,hR⟩:∃ R,firR (l.map Prod.snd)=R:=⟨_,rfl⟩
  have HR:Hid (firR ((l.drop 0).map Prod.snd)=R):=hR
  rw [hR]
  obtain ⟨K,hK⟩:∃ K,l.length=K:=⟨_,rfl⟩
  have HK:Hid (l.length=K):=hK
  obtain ⟨av,cv,rfl⟩:=hv.slice
  have HV:Hid (Rds W (.slice av l.length cv) l.length 1 (l.map fnV)):=hv
  have EG:Hid (∀ x∈l,∀ args w,(callFunc x.1 args).run Tryz.prog w=.ok (.enter x.1 args) w):=eg
  have HP:Hid (∀ x∈l,∀ w,Below W.heap.size W w→Calls Tryz.prog x.1 #[vw,vc,.string nm,.string ds] w fun e w'=>e=.returned (idE x.2)∧Below w.heap.size w w'):=hp
  rw [hK] at hn ⊢
  clear hv hR hK eg hp
  go_enter Tryz.func229,Tryz.ntmps229
  go_wp2
  go_loopw [18] (fun kv wr=>∃ (j:Nat),kv=.int .i64 j∧j≤K∧Hid (firR ((l.drop j).map Prod.snd)=R)∧Hid (Below (W.heap.size+1) (W.alloc (.cells #[.int .i64 0,.int .i64 0] 24)) wr)) (fun kv _=>K - (intOf kv).toNat)
  case atStart=>exact ⟨0,rfl,Nat.zero_le _,HR,Below.refl _ _⟩
  case round =>
    obtain ⟨j,rfl,hj,hU,hB⟩:=hrel
    have hb:=hB.out
    have d1:wr.heap[W.heap.size]?=some (.cells #[.int .i64 0,.int .i64 0] 24 (0,0)):=(hb.block W.heap.size (by first|omega|(simp;try omega))).trans (by first|exact halloc2 _ _ rfl|exact heap_alloc2_old W _ _|exact RB.out|exact hkeep RB.out|exact hkeep (hkeep RB.out)|exact hkeep (heap_alloc2_old W _ _));(try clear RB z0 z1 f0 f1 hL9 hN9);have RB:Hid (wr.heap[W.heap.size]?=some (.cells #[.int .i64 0,.int .i64 0] 24 (0,0))):=d1;have z0:wr.cell? ⟨W.heap.size,0,none⟩=some (.int .i64 0):=(cell_of_row wr W.heap.size 0 _ _ _ d1).trans rfl;have z1:wr.cell? ⟨W.heap.size,1,none⟩=some (.int .i64 0):=(cell_of_row wr W.heap.size 1 _ _ _ d1).trans rfl;have f0:=frozen_of_row wr W.heap.size 0 _ _ d1;have f1:=frozen_of_row wr W.heap.size 1 _ _ d1;have hL9:W.heap.size<wr.heap.size:=(Array.getElem?_eq_some_iff.1 d1).1;have hN9:¬ W.heap.size=wr.heap.size:=(by omega);clear d1
    have B1:Hid (Below W.heap.size W wr):=((Below.refl _ W).alloc (Nat.le_refl _) _).trans (hb.mono (by omega))
    clear hb
    by_cases hlt:j<K
    · have hjl:j<l.length:=by rw [HK.out];exact hlt
      obtain ⟨x,hx⟩:∃ i,l[j]?=some i:=⟨_,List.getElem?_eq_getElem hjl⟩
      obtain ⟨bk,o,rfl,hbk,hcell⟩:∃ bk o,av=some ⟨bk,o,none⟩∧bk<W.heap.size∧W.cell? ⟨bk,o+j,none⟩=some (.func (.func x.1) #[] #[]):=by
        rcases HV.out.val with ⟨_,e2⟩|⟨bk,o,c,e,_,_,h3,h4⟩
        · rw [HK.out] at e2;omega
        · simp only [Value.slice.injEq] at e
          exact ⟨bk,o,e.1,h3,h4 j _ (by rw [List.getElem?_map,hx];rfl)⟩
      have hcr:=(B1.out.cell (p:=⟨bk,o+j,none⟩) hbk).trans hcell
      have e1:=EG.out x (List.mem_of_getElem? hx)
      have HF:Hid (Calls Tryz.prog x.1 #[vw,vc,.string nm,.string ds] wr fun e w'=>e=.returned (idE x.2)∧Below wr.heap.size wr w'):=HP.out x (List.mem_of_getElem? hx) wr B1.out
      have hst:=firR_at hx
      rw [hU.out] at hst
      have HST:Hid _:=hst
      obtain ⟨g,⟨F1,F2⟩,F3⟩:=x
      simp only [idE] at HF HST hcr e1
      clear hcell hx hjl hst hU HV EG HP
      by_cases hF:F3=0
      · subst hF
        have eR:R=((F1,F2),0):=by rw [HST.out,if_pos rfl]
        subst eR
        clear HST HR
        go_wp2_with (first
          | (go_at_fn g;refine HF.out.mono ?_;rintro e w2 ⟨rfl,hb⟩;have d1:w2.heap[W.heap.size]?=some (.cells #[.int .i64 0,.int .i64 0] 24 (0,0)):=(hb.block W.heap.size (by first|omega|(simp;try omega))).trans (by first|exact halloc2 _ _ rfl|exact heap_alloc2_old W _ _|exact RB.out|exact hkeep RB.out|exact hkeep (hkeep RB.out)|exact hkeep (heap_alloc2_old W _ _));(try clear RB z0 z1 f0 f1 hL9 hN9);have RB:Hid (w2.heap[W.heap.size]?=some (.cells #[.int .i64 0,.int .i64 0] 24 (0,0))):=d1;have z0:w2.cell? ⟨W.heap.size,0,none⟩=some (.int .i64 0):=(cell_of_row w2 W.heap.size 0 _ _ _ d1).trans rfl;have z1:w2.cell? ⟨W.heap.size,1,none⟩=some (.int .i64 0):=(cell_of_row w2 W.heap.size 1 _ _ _ d1).trans rfl;have f0:=frozen_of_row w2 W.heap.size 0 _ _ d1;have f1:=frozen_of_row w2 W.heap.size 1 _ _ d1;have hL9:W.heap.size<w2.heap.size:=(Array.getElem?_eq_some_iff.1 d1).1;have hN9:¬ W.heap.size=w2.heap.size:=(by omega);clear d1;have B2:Hid (Below W.heap.size W w2):=bstep B1.out hb;clear hb HF))
        exact bodyPost_ret (v:=idE ((F1,F2),0)) (by simp [results,Tryz.results229,go_sem,idE, *]) rfl ⟨rfl,(by repeat (first|exact B2.out|refine Below.setCell ?_ (by simp;try omega) _|refine Below.alloc ?_ (by have:=B2.out.size;simp;try omega) _|refine Below.drew ?_))⟩
      · have HU2:Hid (firR ((l.drop (j+1)).map Prod.snd)=R):=by rw [Hid,HST.out,if_neg hF]
        clear HST
        go_wp2_with (first
          | (go_at_fn g;refine HF.out.mono ?_;rintro e w2 ⟨rfl,hb⟩;have B2:Hid (Below (W.heap.size+1) (W.alloc (.cells #[.int .i64 0,.int .i64 0] 24)) w2):=hB.out.trans (hb.mono (by have:=hB.out.size;simp at this;exact this));clear hb HF))
        go_roundw
        case rel=>exact ⟨j+1,by go_num,by omega,HU2,B2.out.alloc (by have:=B2.out.size;simp at this;exact this) _⟩
        case measure=>simp [intOf];omega
    · have e:j=K:=by omega
      subst e
      have eR:R=((0,0),21):=by rw [← hU.out,List.drop_of_length_le (by rw [HK.out];exact Nat.le_refl _)];rfl
      subst eR
      clear hU HR
      go_wp2
      exact bodyPost_ret (v:=idE ((0,0),21)) (by simp [results,Tryz.results229,go_sem,idE, *]) rfl ⟨rfl,(by repeat (first|exact B1.out|refine Below.setCell ?_ (by simp;try omega) _|refine Below.alloc ?_ (by have:=B1.out.size;simp;try omega) _|refine Below.drew ?_))⟩
end Go.Proofs.YtjlfnelihbdhjaaGreat
