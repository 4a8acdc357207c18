import Derived.Test.YtjlfnelihbdhjaaGreatRfL
import Derived.Test.YtjlfnelihbdhjaaGreatHrZ
import Derived.Test.YtjlfnelihbdhjaaGreatWdB
import Derived.Test.YtjlfnelihbdhjaaGreatOwnL
import Derived.Test.YtjlfnelihbdhjaaGreatHrX
import Derived.BigQuiet
import Derived.Lib.SliceRun
import Derived.Shelf.RegionOpen
set_option maxRecDepth 100000
namespace Go.Proofs.YtjlfnelihbdhjaaGreat
open Go.RowKit Go.Maps
set_option maxHeartbeats 4000000 in
theorem rGather_any {b:Nat} {cs:List Cls} {ps:List Plc} {W:World} (h:RAt b cs W) (ht:TwW cs ps) (hJ:WJ ps):∀ (id:Nat),id<ps.length→∀ (w:World) (v:Value) (l:List Nat),Below W.heap.size W w→w.ownsRow W.heap.size 3 1 v l.length (l.map numV)→ClL ps l→Calls Tryz.prog 193 #[.pointer (some ⟨b,0,none⟩),.int .i64 (id:Int),v] w fun e w'=>(∃ v',e=.returned v'∧w'.ownsRow W.heap.size 3 1 v' (takeL l (clO (ps.map nd) id)).length ((takeL l (clO (ps.map nd) id)).map numV))∧Below W.heap.size W w':=by
  intro id
  induction id using Nat.strongRecOn with
  | _ id ih =>
  intro hid w v l hw hrow hcl
  obtain ⟨i0,hi0,hz0,hz1,hz2⟩:=info_parts Tryz.hinfo3
  have hlen:=ht.tw.len
  have h3:=ht.wi.hi
  obtain ⟨c,hc⟩:∃ c,cs[id]?=some c:=⟨_,List.getElem?_eq_getElem (by omega)⟩
  obtain ⟨ks,hk1,hk2,hk3⟩:=ht.ifaces hJ hc
  have hgt:=gath_take (ps:=ps) l id ks hk3
  have HR:Hid (RAt b cs W):=h
  have HTW:Hid (TwW cs ps):=ht
  have HW3:Hid (ps.length≤300):=h3
  have HCC:Hid (cs[id]?=some c):=hc
  have HKS:Hid (∀ (i:Nat) (p:List UInt8),c.ifs[i]?=some p→∃ j,ks[i]?=some j∧nmdI p cs 0=((j:Nat):Int)∧j<id):=hk2
  have HN:Hid (∀ (w':World) (s:ByteArray),Below W.heap.size W w'→Calls Tryz.prog 136 #[.pointer (some ⟨b,0,none⟩),.string s] w' fun e w''=>e=.returned (.int .i64 (nmdI s.toList cs 0))∧w''=w'):=fun w' s hb=>rNamed_c (h.below hb) s (by omega)
  have HIH:Hid (∀ (j:Nat),j<id→∀ (w:World) (v:Value) (l:List Nat),Below W.heap.size W w→w.ownsRow W.heap.size 3 1 v l.length (l.map numV)→ClL ps l→Calls Tryz.prog 193 #[.pointer (some ⟨b,0,none⟩),.int .i64 (j:Int),v] w fun e w'=>(∃ v',e=.returned v'∧w'.ownsRow W.heap.size 3 1 v' (takeL l (clO (ps.map nd) j)).length ((takeL l (clO (ps.map nd) j)).map numV))∧Below W.heap.size W w'):=fun j hj=>ih j hj (by omega)
  have HHA:Hid (∀ (v:Value) (l:List Nat) (p:Nat) (w:World),w.ownsRow W.heap.size 3 1 v l.length (l.map numV)→l.length≤1000000→Calls Tryz.prog 192 #[v,.int .i64 (p:Int)] w fun e w'=>e=.returned (.bool (l.contains p))∧Below w.heap.size w w'):=fun v l p w hr hl=>rHas_any v l p w (own_rds hr) hl
  obtain ⟨n,hn⟩:∃ n,c.ifs.length=n:=⟨_,rfl⟩
  have HNI:Hid (c.ifs.length=n):=hn
  have HKL:Hid (ks.length=n):=hk1.trans hn
  obtain ⟨L,hL⟩:∃ L,cs.length=L:=⟨_,rfl⟩
  have HL:Hid (cs.length=L):=hL
  have hidL:id<L:=by omega
  have hidI:(id:Int)<(L:Int):=by omega
  have HCL:Hid (ClL ps l):=hcl
  have HRW:Hid (w.ownsRow W.heap.size 3 1 v l.length (l.map numV)):=hrow
  have HBW:Hid (Below W.heap.size W w):=hw
  have hnb:n≤1000000:=by
    obtain ⟨q,hq,hqc⟩:=ht.tw.at hc
    have h1:=(ht.wi.pb q (List.mem_of_getElem? hq)).ni
    rw [hqc] at h1
    rw [← hn];exact h1
  obtain ⟨va0,vn0,rfl⟩:=ownv hrow
  by_cases h0:id=0
  · have hks:ks=[]:=by
      cases hcs:c.ifs with
      | nil=>exact List.length_eq_zero_iff.1 (by rw [hk1,hcs];rfl)
      | cons p r =>
        obtain ⟨j,_,_,hj⟩:=hk2 0 p (by rw [hcs];rfl)
        omega
    have hz:clO (ps.map nd) id=[]:=by
      obtain ⟨n0,h1,_,h2,_⟩:=ht.wi.wo.top
      rw [h0,clO,h1];exact h2
    have HX1:Hid (takeL l (clO (ps.map nd) id)=l):=by rw [Hid,hz];rfl
    have hn0:n=0:=by rw [← HKL.out,hks];rfl
    subst hn0
    subst h0
    obtain ⟨g,cap,vi,vm,b0,hlt0,hgl,c0,c1,c2,c3,c4,c5,hst,_⟩:=(h.below hw).cells hc
    rw [hL] at b0
    obtain ⟨ao,icap,rfl,_,_,_⟩:=hst
    rw [hn] at c2
    have hL0:(0:Int)<(L:Int):=by omega
    clear hlen h3 hc hk1 hk2 hk3 hgt h ht hJ ih hn hL hcl hrow hw hks hz HIH HHA HN HKS c0 c1 c3 c4 c5
    go_enter Tryz.func193,Tryz.ntmps193
    go_wp2
    go_loopw [2,7] (fun lv iv wr=>lv=.slice va0 l.length vn0∧iv=.int .i64 0∧wr=w) (fun _ _ _=>0)
    case atStart=>exact ⟨rfl,rfl,rfl⟩
    case round =>
      obtain ⟨rfl,rfl,rfl⟩:=hrel
      go_wp2
      refine bodyPost_ret (results_tmp rfl _ _ _) rfl ⟨⟨.slice va0 l.length vn0,rfl,?_⟩,HBW.out⟩
      rw [HX1.out];exact HRW.out
  · obtain ⟨l1,hl1⟩:∃ l1,l1=takeL l (clO (ps.map nd) (spO (ps.map nd) id)):=⟨_,rfl⟩
    have HX1:Hid (ks.foldl (gathF (ps.map Plc.cl)) l1=takeL l (clO (ps.map nd) id)):=by rw [Hid,hl1];exact hgt.symm
    have hidp:id<(ps.map nd).length:=by rw [List.length_map];exact hid
    have hsl:=ht.wi.wo.spLt hidp (by omega)
    have hsu:=ht.super hc (by omega)
    have HCL1:Hid (ClL ps l1):=by rw [Hid,hl1];exact hcl.take ht.wi _ (by omega)
    have HS1:Hid (∀ w',Below W.heap.size W w'→Calls Tryz.prog 136 #[.pointer (some ⟨b,0,none⟩),.string c.su] w' fun e w''=>e=.returned (.int .i64 ((spO (ps.map nd) id:Nat):Int))∧w''=w'):=fun w' hb=>by rw [← hsu];exact HN.out w' c.su hb
    have HS2:Hid (Calls Tryz.prog 193 #[.pointer (some ⟨b,0,none⟩),.int .i64 ((spO (ps.map nd) id:Nat):Int),.slice va0 l.length vn0] w fun e w'=>(∃ v',e=.returned v'∧w'.ownsRow W.heap.size 3 1 v' l1.length (l1.map numV))∧Below W.heap.size W w'):=by rw [hl1];exact HIH.out _ hsl w _ l hw hrow hcl
    obtain ⟨g0,cap0,vi0,vm0,b00,hlt00,hgl0,_,c10,_,_,_,_,_,_⟩:=(h.below hw).cells hc
    rw [hL] at b00
    generalize spO (ps.map nd) id=sp at *
    have h0I:¬ (id:Int)=0:=by omega
    clear hlen h3 hc hk1 hk2 hk3 hgt h ht hJ ih hn hL hcl hrow hw hl1 hsu
    go_enter Tryz.func193,Tryz.ntmps193
    go_wp2_with (first
      | (go_at_call 136;refine (HS1.out _ HBW.out).mono ?_;rintro e w9 ⟨rfl,hw9⟩;rw [hw9];clear hw9 w9 HS1)
      | (go_at_call 193;refine HS2.out.mono ?_;rintro e w1 ⟨⟨v1,rfl,ho⟩,hb⟩;obtain ⟨va1,vn1,rfl⟩:=ownv ho;have O1:Hid (w1.ownsRow W.heap.size 3 1 (.slice va1 l1.length vn1) l1.length (l1.map numV)):=ho;have B1:Hid (Below W.heap.size W w1):=hb;clear hb ho HS2))
    go_loopw [2,7] (fun lv iv wr=>∃ (i:Nat),iv=.int .i64 (i:Int)∧i≤n∧Hid (wr.ownsRow W.heap.size 3 1 lv ((ks.take i).foldl (gathF (ps.map Plc.cl)) l1).length (((ks.take i).foldl (gathF (ps.map Plc.cl)) l1).map numV))∧Hid (ClL ps ((ks.take i).foldl (gathF (ps.map Plc.cl)) l1))∧Hid (Below W.heap.size W wr)) (fun _ iv _=>n - (intOf iv).toNat)
    case atStart=>exact ⟨0,rfl,Nat.zero_le _,O1,HCL1,B1⟩
    case round =>
      obtain ⟨i,rfl,hi,hO,hC,hB⟩:=hrel
      obtain ⟨g,cap,vi,vm,b0,hlt0,hgl,c0,c1,c2,c3,c4,c5,hst,_⟩:=(HR.out.below hB.out).cells HCC.out
      rw [HL.out] at b0
      obtain ⟨ao,icap,rfl,hq1,hq2,hq3⟩:=hst
      rw [HNI.out] at c2 hq1
      have HQ3:Hid _:=hq3
      clear c0 c1 c3 c4 c5 hq3
      by_cases hlt:i<n
      · have hltI:(i:Int)<(n:Int):=by omega
        obtain ⟨p,hp⟩:∃ p,c.ifs[i]?=some p:=⟨_,List.getElem?_eq_getElem (by rw [HNI.out];exact hlt)⟩
        obtain ⟨k,hk,hkn,hkl⟩:=HKS.out i p hp
        obtain ⟨bk,o,rfl,hbk,hcs⟩:=HQ3.out (fun e=>by rw [e] at hp;simp at hp)
        have hce:=hcs i p hp
        have hfold:(ks.take (i+1)).foldl (gathF (ps.map Plc.cl)) l1=gathF (ps.map Plc.cl) ((ks.take i).foldl (gathF (ps.map Plc.cl)) l1) k:=by
          rw [List.take_add_one,hk,List.foldl_append];rfl
        have HN1:Hid (Calls Tryz.prog 136 #[.pointer (some ⟨b,0,none⟩),.string ⟨p.toArray⟩] wr fun e w''=>e=.returned (.int .i64 (k:Int))∧w''=wr):=by
          have:=HN.out wr ⟨p.toArray⟩ hB.out
          rw [show (ByteArray.mk p.toArray).toList=p from by rw [Lib.toList_data],hkn] at this
          exact this
        obtain ⟨Lc,hLc⟩:∃ Lc,(ks.take i).foldl (gathF (ps.map Plc.cl)) l1=Lc:=⟨_,rfl⟩
        rw [hLc] at hO hC hfold
        have HFO:Hid _:=hfold
        have hLb:Lc.length≤300:=Nat.le_trans hC.out.len HW3.out
        have HA1:Hid (∀ (v:Value),wr.ownsRow W.heap.size 3 1 v Lc.length (Lc.map numV)→Calls Tryz.prog 192 #[v,.int .i64 (k:Int)] wr fun e w'=>e=.returned (.bool (Lc.contains k))∧Below wr.heap.size wr w'):=fun v hr=>HHA.out v Lc k wr hr (by omega)
        have HG1:Hid (∀ (w:World) (v:Value),Below W.heap.size W w→w.ownsRow W.heap.size 3 1 v Lc.length (Lc.map numV)→Calls Tryz.prog 193 #[.pointer (some ⟨b,0,none⟩),.int .i64 (k:Int),v] w fun e w'=>(∃ v',e=.returned v'∧w'.ownsRow W.heap.size 3 1 v' (takeL Lc (clO (ps.map nd) k)).length ((takeL Lc (clO (ps.map nd) k)).map numV))∧Below W.heap.size W w'):=fun w v hb hr=>HIH.out k hkl w v Lc hb hr hC.out
        have HCN:Hid (ClL ps (gathF (ps.map Plc.cl) Lc k)):=hC.out.gathF HTW.out.wi k (by omega)
        have HG2:Hid (Lc.contains k=true→gathF (ps.map Plc.cl) Lc k=Lc):=fun he=>gathF_yes hC.out (by simpa using he)
        have HG3:Hid (Lc.contains k=false→gathF (ps.map Plc.cl) Lc k=takeL Lc (clO (ps.map nd) k)++[k]∧(takeL Lc (clO (ps.map nd) k)).length≤300):=fun he=>⟨gathF_no HTW.out.wi (by simpa using he),Nat.le_trans (hC.out.take HTW.out.wi k (by omega)).len HW3.out⟩
        obtain ⟨va,vn,rfl⟩:=ownv hO.out
        clear hcs hp hk hkn hfold hLc HX1 HN HIH HHA HQ3
        cases hz:Lc.contains k with
        | true =>
          rw [hz] at HA1
          have he:=HG2.out hz
          rw [he] at HFO HCN
          clear HG1 HG2 HG3 hz he
          go_wp2_with (first
            | (go_at_call 136;refine HN1.out.mono ?_;rintro e w9 ⟨rfl,hw9⟩;rw [hw9];clear hw9 w9 HN1)
            | (go_at_call 192;refine (HA1.out _ hO.out).mono ?_;rintro e w2 ⟨rfl,hb⟩;have O2:Hid (w2.ownsRow W.heap.size 3 1 (.slice va Lc.length vn) Lc.length (Lc.map numV)):=rowBelow hO.out hb;have B2:Hid (Below W.heap.size W w2):=bstep hB.out hb;clear hb HA1))
          go_roundw
          case rel=>exact ⟨i+1,by go_num,by omega,by rw [HFO.out];exact O2,by rw [HFO.out];exact HCN,B2⟩
          case measure=>simp [intOf];omega
        | false =>
          rw [hz] at HA1
          obtain ⟨he,hlb⟩:=HG3.out hz
          rw [he] at HFO HCN
          generalize takeL Lc (clO (ps.map nd) k)=T at *
          clear HG2 HG3 hz he
          go_wp2_with (first
            | (go_at_call 136;refine HN1.out.mono ?_;rintro e w9 ⟨rfl,hw9⟩;rw [hw9];clear hw9 w9 HN1)
            | (go_at_call 192;refine (HA1.out _ hO.out).mono ?_;rintro e w2 ⟨rfl,hb⟩;have O2:Hid (w2.ownsRow W.heap.size 3 1 (.slice va Lc.length vn) Lc.length (Lc.map numV)):=rowBelow hO.out hb;have B2:Hid (Below W.heap.size W w2):=bstep hB.out hb;clear hb HA1)
            | (go_at_call 193;refine (HG1.out _ _ B2.out O2.out).mono ?_;rintro e w3 ⟨⟨v3,rfl,ho⟩,hb⟩;obtain ⟨va3,vn3,rfl⟩:=ownv ho;have O3:Hid (w3.ownsRow W.heap.size 3 1 (.slice va3 T.length vn3) T.length (T.map numV)):=ho;have B3:Hid (Below W.heap.size W w3):=hb;clear hb ho HG1)
            | (at_builtin;refine wpList_append_own _ rfl _ _ 99 rfl W.heap.size 3 i0 (.int .i64 0) 1 8 Tryz.underlying99 hi0 hz0 hz1 hz2 rfl (by decide) (.slice va3 T.length vn3) T.length (T.map numV) rfl (O3.out.alloc _) ⟨w3.heap.size,0,none⟩ 1 1 [.int .i64 (k:Int)] rfl rfl ?c1 ?c2 ?c3 ?c4 ?c5 ?_))
          case c1=>intro jj u hj;rw [addr_add];cases jj with
            | zero=>simp at hj;subst hj;simp [go_sem]
            | succ jj=>simp at hj
          case c2=>intro u hu;simp at hu;subst hu;rfl
          case c3=>unfold maxLen;omega
          case c4=>omega
          case c5=>have:=B3.out.size;simp;omega
          intro v' w4 hown hgrow _
          obtain ⟨va4,vn4,rfl⟩:=ownv hown
          have B4:Hid (Below W.heap.size W w4):=by
            have hb1:Below W.heap.size W (w3.alloc (.cells #[.int .i64 (k:Int)] 3)):=B3.out.alloc B3.out.size _
            refine hb1.grown hgrow hb1.size (fun x hx=>?_)
            have:=(O3.out.lt x hx).1
            omega
          have O4:Hid (w4.ownsRow W.heap.size 3 1 (.slice va4 (T.length+1) vn4) (T++[k]).length ((T++[k]).map numV)):=by
            rw [Hid,List.length_append,List.map_append];exact hown
          clear hown hgrow
          go_wp2
          go_roundw
          case rel=>exact ⟨i+1,by go_num,by omega,by rw [HFO.out];exact O4,by rw [HFO.out];exact HCN,B4⟩
          case measure=>simp [intOf];omega
      · have e:i=n:=by omega
        have HT:Hid ((ks.take i).foldl (gathF (ps.map Plc.cl)) l1=takeL l (clO (ps.map nd) id)):=by
          rw [Hid,e,← HKL.out,List.take_of_length_le (Nat.le_refl _)]
          exact HX1.out
        rw [HT.out] at hO
        subst e
        obtain ⟨va,vn,rfl⟩:=ownv hO.out
        clear HT HX1
        go_wp2
        refine bodyPost_ret (results_tmp rfl _ _ _) rfl ⟨⟨_,rfl,?_⟩,hB.out⟩
        exact hO.out
theorem rIn_t {b:Nat} {cs:List Cls} {ps:List Plc} {W:World} (h:RAt b cs W) (ht:TwW cs ps) (i:Int):Calls Tryz.prog 76 #[.pointer (some ⟨b,0,none⟩),.int .i64 i] W fun e w'=>e=.returned (.bool (plcI ps i).isSome)∧w'=W:=by
  have:=rIn_c h i
  rcases ht.tw.clsI i with ⟨h1,h2⟩|⟨k,c,q,rfl,_,_,_,h1,h2⟩
  · rw [h1] at this;rw [h2];exact this
  · rw [h1] at this;rw [h2];exact this
set_option maxHeartbeats 1000000 in
theorem rExtends_c {b:Nat} {cs:List Cls} {ps:List Plc} {W:World} (h:RAt b cs W) (ht:TwW cs ps) (hJ:WJ ps) (x y:Int):Calls Tryz.prog 116 #[.pointer (some ⟨b,0,none⟩),.int .i64 x,.int .i64 y] W fun e w'=>e=.returned (.bool (extI ps x y))∧Below W.heap.size W w':=by
  have HI:Hid (∀ i z w,Below W.heap.size W w→(plcI ps i).isSome=z→Calls Tryz.prog 76 #[.pointer (some ⟨b,0,none⟩),.int .i64 i] w fun e w'=>e=.returned (.bool z)∧w'=w):=fun i z w hb hz=>by rw [← hz];exact rIn_t (h.below hb) ht i
  rcases plcI_cases ps x with ⟨h1,_⟩|⟨k,p,rfl,h2,h1⟩
  · have e:extI ps x y=false:=by rw [extI,h1];rfl
    rw [e]
    have HX:Hid (∀ i w,Below W.heap.size W w→i=x→Calls Tryz.prog 76 #[.pointer (some ⟨b,0,none⟩),.int .i64 i] w fun e w'=>e=.returned (.bool false)∧w'=w):=fun i w hb hi=>by rw [hi];exact HI.out x false w hb (by rw [h1];rfl)
    clear h ht hJ HI h1 e
    go_enter Tryz.func116,Tryz.ntmps116
    go_wp2_with (go_at_call 76;refine (HX.out _ _ (Below.refl _ _) (by rfl)).mono ?_;rintro e w9 ⟨rfl,hw9⟩;rw [hw9];clear hw9 w9)
    exact bodyPost_ret (results_tmp rfl _ _ _) rfl ⟨rfl,Below.refl _ _⟩
  · have HX:Hid (∀ i w,Below W.heap.size W w→i=(k:Int)→Calls Tryz.prog 76 #[.pointer (some ⟨b,0,none⟩),.int .i64 i] w fun e w'=>e=.returned (.bool true)∧w'=w):=fun i w hb hi=>by rw [hi];exact HI.out k true w hb (by rw [h1];rfl)
    rcases plcI_cases ps y with ⟨g1,_⟩|⟨j,q,rfl,g2,g1⟩
    · have e:extI ps k y=false:=by rw [extI,h1,g1];rfl
      rw [e]
      have HY:Hid (∀ i w,Below W.heap.size W w→i=y→Calls Tryz.prog 76 #[.pointer (some ⟨b,0,none⟩),.int .i64 i] w fun e w'=>e=.returned (.bool false)∧w'=w):=fun i w hb hi=>by rw [hi];exact HI.out y false w hb (by rw [g1];rfl)
      clear h ht hJ HI h1 g1 e
      go_enter Tryz.func116,Tryz.ntmps116
      go_wp2_with (first
        | (go_at_call 76;refine (HX.out _ _ (Below.refl _ _) (by rfl)).mono ?_;rintro e w9 ⟨rfl,hw9⟩;rw [hw9];clear hw9 w9)
        | (go_at_call 76;refine (HY.out _ _ (Below.refl _ _) (by rfl)).mono ?_;rintro e w9 ⟨rfl,hw9⟩;rw [hw9];clear hw9 w9))
      exact bodyPost_ret (results_tmp rfl _ _ _) rfl ⟨rfl,Below.refl _ _⟩
    · have hkl:=(List.getElem?_eq_some_iff.1 h2).1
      have e:extI ps k j=((chL (ps.map nd) k).contains j||(clO (ps.map nd) k).contains j):=by rw [extI,h1,g1];rfl
      rw [e]
      have HY:Hid (∀ i w,Below W.heap.size W w→i=(j:Int)→Calls Tryz.prog 76 #[.pointer (some ⟨b,0,none⟩),.int .i64 i] w fun e w'=>e=.returned (.bool true)∧w'=w):=fun i w hb hi=>by rw [hi];exact HI.out j true w hb (by rw [g1];rfl)
      have HC:Hid (Calls Tryz.prog 77 #[.pointer (some ⟨b,0,none⟩),.int .i64 (k:Int)] W fun e w'=>(∃ v,e=.returned (.tuple #[v,.int .i64 0])∧w'.ownsRow W.heap.size 3 1 v (chL (ps.map nd) k).length ((chL (ps.map nd) k).map numV))∧Below W.heap.size W w'):=rChain_yes h ht k hkl
      have hcb:(chL (ps.map nd) k).length≤1000000:=by
        have hkn:k<(ps.map nd).length:=by rw [List.length_map];exact hkl
        have:=nodup_lt_len (k+1) _ (ch_nodup ht.wi.wo k hkn) (fun i hi=>Nat.lt_succ_of_le (ch_le ht.wi.wo k hkn i hi))
        have:=ht.wi.hi
        omega
      have hclb:(clO (ps.map nd) k).length≤1000000:=by
        have:=nodup_lt_len k _ (cl_nodup ht.wi.wo k) (fun i hi=>(cl_facts ht.wi.wo hi).1)
        have:=ht.wi.hi
        omega
      have HG:Hid (∀ w,Below W.heap.size W w→Calls Tryz.prog 193 #[.pointer (some ⟨b,0,none⟩),.int .i64 (k:Int),.slice none 0 0] w fun e w'=>(∃ v',e=.returned v'∧w'.ownsRow W.heap.size 3 1 v' (clO (ps.map nd) k).length ((clO (ps.map nd) k).map numV))∧Below W.heap.size W w'):=fun w hb=>by
        have:=rGather_any h ht hJ k hkl w (.slice none 0 0) [] hb (World.ownsRow_nil _ _ _ _) (ClL.nil ps)
        rw [take_nil _ (cl_nodup ht.wi.wo k)] at this
        exact this
      have HH1:Hid (∀ (v:Value) (w:World),w.ownsRow W.heap.size 3 1 v (chL (ps.map nd) k).length ((chL (ps.map nd) k).map numV)→Calls Tryz.prog 192 #[v,.int .i64 (j:Int)] w fun e w'=>e=.returned (.bool ((chL (ps.map nd) k).contains j))∧Below w.heap.size w w'):=fun v w hr=>rHas_any v _ j w (own_rds hr) hcb
      have HH2:Hid (∀ (v:Value) (w:World),w.ownsRow W.heap.size 3 1 v (clO (ps.map nd) k).length ((clO (ps.map nd) k).map numV)→Calls Tryz.prog 192 #[v,.int .i64 (j:Int)] w fun e w'=>e=.returned (.bool ((clO (ps.map nd) k).contains j))∧Below w.heap.size w w'):=fun v w hr=>rHas_any v _ j w (own_rds hr) hclb
      generalize (chL (ps.map nd) k).contains j=z1 at *
      generalize (clO (ps.map nd) k).contains j=z2 at *
      generalize chL (ps.map nd) k=C at *
      generalize clO (ps.map nd) k=G at *
      clear h ht hJ HI h1 h2 g1 g2 e hcb hclb hkl
      cases z1
      all_goals
        go_enter Tryz.func116,Tryz.ntmps116
        go_wp2_with (first
          | (go_at_call 76;refine (HX.out _ _ (Below.refl _ _) (by rfl)).mono ?_;rintro e w9 ⟨rfl,hw9⟩;rw [hw9];clear hw9 w9)
          | (go_at_call 76;refine (HY.out _ _ (Below.refl _ _) (by rfl)).mono ?_;rintro e w9 ⟨rfl,hw9⟩;rw [hw9];clear hw9 w9)
          | (go_at_call 77;refine HC.out.mono ?_;rintro e w1 ⟨⟨v1,rfl,ho⟩,hb⟩;obtain ⟨va1,vn1,rfl⟩:=ownv ho;have O1:Hid (w1.ownsRow W.heap.size 3 1 (.slice va1 C.length vn1) C.length (C.map numV)):=ho;have B1:Hid (Below W.heap.size W w1):=hb;clear hb ho HC)
          | (go_at_call 192;refine (HH1.out _ _ O1.out).mono ?_;rintro e w2 ⟨rfl,hb⟩;have B2:Hid (Below W.heap.size W w2):=bstep B1.out hb;clear hb HH1 O1)
          | (go_at_call 193;refine (HG.out _ B2.out).mono ?_;rintro e w3 ⟨⟨v3,rfl,ho⟩,hb⟩;obtain ⟨va3,vn3,rfl⟩:=ownv ho;have O3:Hid (w3.ownsRow W.heap.size 3 1 (.slice va3 G.length vn3) G.length (G.map numV)):=ho;have B3:Hid (Below W.heap.size W w3):=hb;clear hb ho HG)
          | (go_at_call 192;refine (HH2.out _ _ O3.out).mono ?_;rintro e w4 ⟨rfl,hb⟩;have B4:Hid (Below W.heap.size W w4):=bstep B3.out hb;clear hb HH2 O3))
        first
          | exact bodyPost_ret (results_tmp rfl _ _ _) rfl ⟨rfl,B4.out⟩
          | exact bodyPost_ret (results_tmp rfl _ _ _) rfl ⟨rfl,B2.out⟩
def findH (nm ds:ByteArray):List HM→Nat→Int
  | [],_=>-1
  | m::r,k=>if (m.nm.toList == nm.toList)&&(m.ds.toList == ds.toList) then (k:Int) else findH nm ds r (k+1)
theorem findH_at {l:List HM} {nm ds:ByteArray} (k:Nat) (x:HM) (h:l[k]?=some x):findH nm ds (l.drop k) k=if (x.nm.toList == nm.toList)&&(x.ds.toList == ds.toList) then (k:Int) else findH nm ds (l.drop (k+1)) (k+1):=by
  obtain ⟨h1,h2⟩:=List.getElem?_eq_some_iff.1 h
  rw [List.drop_eq_getElem_cons h1,h2,findH]
theorem findH_range (nm ds:ByteArray):∀ (l:List HM) (k:Nat),findH nm ds l k=-1∨∃ (j:Nat) (m:HM),findH nm ds l k=((k+j:Nat):Int)∧l[j]?=some m∧m.nm.toList=nm.toList∧m.ds.toList=ds.toList
  | [],_=>.inl rfl
  | m::r,k=>by
    rw [findH]
    cases e:(m.nm.toList == nm.toList)&&(m.ds.toList == ds.toList) with
    | true =>
      simp only [Bool.and_eq_true,beq_iff_eq] at e
      exact .inr ⟨0,m,by simp,rfl,e.1,e.2⟩
    | false =>
      rcases findH_range nm ds r (k+1) with h|⟨j,x,h,hj⟩
      · exact .inl (by simpa using h)
      · exact .inr ⟨j+1,x,by simp only [Bool.false_eq_true,if_false];rw [h];congr 1;omega,by rw [List.getElem?_cons_succ];exact hj⟩
set_option maxHeartbeats 4000000 in
theorem idxH_any (nm ds:ByteArray) (vm:Value) (N0:Nat) (qm:List (HM×Value)) (W:World) (b1 b2:Nat) (h:W.ownsRow N0 81 6 vm qm.length (flatH qm)) (hv:∀ x∈qm,∃ a n c,x.2=.slice a n c) (hn:qm.length≤1000000) (g1:W.cell? ⟨b1,0,none⟩=some (.string nm)) (g2:W.cell? ⟨b2,0,none⟩=some (.string ds)) (l1:b1<W.heap.size) (l2:b2<W.heap.size) :
    Calls Tryz.prog 268 #[vm,.func (.func 269) #[] #[.pointer (some ⟨b1,0,none⟩),.pointer (some ⟨b2,0,none⟩)]] W fun e w'=>e=.returned (.int .i64 (findH nm ds (qm.map Prod.fst) 0))∧Below W.heap.size W w':=by
  obtain ⟨ao,cap,rfl⟩:=ownv h
  obtain ⟨N,hN⟩:∃ N,qm.length=N:=⟨_,rfl⟩
  obtain ⟨ms,hms⟩:∃ ms,qm.map Prod.fst=ms:=⟨_,rfl⟩
  have HA:Hid (W.ownsRow N0 81 6 (.slice ao qm.length cap) qm.length (flatH qm)):=h
  have HN1:Hid (qm.length=N):=hN
  have HM1:Hid (qm.map Prod.fst=ms):=hms
  have HV:Hid (∀ x∈qm,∃ a n c,x.2=.slice a n c):=hv
  have G1:Hid _:=g1
  have G2:Hid _:=g2
  rw [hms]
  rw [hN] at hn ⊢
  clear hN hms h hv g1 g2
  go_enter Tryz.func268,Tryz.ntmps268
  go_wp2
  go_loopw [8] (fun iv wr=>∃ i:Nat,iv=.int .i64 i∧i≤N∧Hid (Below W.heap.size W wr)∧Hid (findH nm ds (ms.drop i) i=findH nm ds ms 0)) (fun iv _=>N - (intOf iv).toNat)
  case atStart=>exact ⟨0,rfl,Nat.zero_le _,Below.refl _ _,rfl⟩
  case round =>
    obtain ⟨i,rfl,hi,hb,hs⟩:=hrel
    by_cases hlt:i<N
    · have hlq:i<qm.length:=by rw [HN1.out];exact hlt
      obtain ⟨⟨x,vc⟩,hx⟩:∃ x,qm[i]?=some x:=⟨_,List.getElem?_eq_getElem hlq⟩
      have hxm:ms[i]?=some x:=by rw [← HM1.out,List.getElem?_map,hx];rfl
      obtain ⟨gm,cm,hform⟩:=Go.Joins.ownsRow_form HA.out (by omega)
      have hrow:=HA.out
      rw [hform] at hrow
      obtain ⟨va,vn,vcap,hvc⟩:=HV.out _ (List.mem_of_getElem? hx)
      simp only at hvc
      subst hvc
      have hat:=fun jj hj=>(hrow.cellAt (i * 6+jj) (by omega)).trans (flatH_at qm i _ hx jj hj)
      have e0:W.cell? ⟨gm,i * 6,none⟩=some (.string x.nm):=hat 0 (by omega)
      have e1:W.cell? ⟨gm,i * 6+1,none⟩=some (.string x.ds):=hat 1 (by omega)
      have e2:W.cell? ⟨gm,i * 6+2,none⟩=some (.int .i64 x.fl):=hat 2 (by omega)
      have e3:W.cell? ⟨gm,i * 6+3,none⟩=some (.int .i64 x.lo):=hat 3 (by omega)
      have e4:W.cell? ⟨gm,i * 6+4,none⟩=some (.int .i64 x.st):=hat 4 (by omega)
      have e5:W.cell? ⟨gm,i * 6+5,none⟩=some (.slice va vn vcap):=hat 5 (by omega)
      have hgl:gm<W.heap.size:=World.block_lt_of_cell? W _ e0
      replace e0:=(hb.out.cell (p:=⟨gm,i * 6,none⟩) hgl).trans e0
      replace e1:=(hb.out.cell (p:=⟨gm,i * 6+1,none⟩) hgl).trans e1
      replace e2:=(hb.out.cell (p:=⟨gm,i * 6+2,none⟩) hgl).trans e2
      replace e3:=(hb.out.cell (p:=⟨gm,i * 6+3,none⟩) hgl).trans e3
      replace e4:=(hb.out.cell (p:=⟨gm,i * 6+4,none⟩) hgl).trans e4
      replace e5:=(hb.out.cell (p:=⟨gm,i * 6+5,none⟩) hgl).trans e5
      injection hform with hao _ hcap
      subst hao hcap
      have hst:=findH_at (nm:=nm) (ds:=ds) i x hxm
      rw [hs.out] at hst
      have k1:=(hb.out.cell (p:=⟨b1,0,none⟩) l1).trans G1.out
      have k2:=(hb.out.cell (p:=⟨b2,0,none⟩) l2).trans G2.out
      have HC:Hid (Calls Tryz.prog 269 #[.agg #[.string x.nm,.string x.ds,.int .i64 x.fl,.int .i64 x.lo,.int .i64 x.st,.slice va vn vcap],.pointer (some ⟨b1,0,none⟩),.pointer (some ⟨b2,0,none⟩)] wr fun e w'=>e=.returned (.bool ((x.nm.toList == nm.toList)&&(x.ds.toList == ds.toList)))∧Below wr.heap.size wr w'):=isM_any x.nm x.ds nm ds x.fl x.lo x.st (.slice va vn vcap) b1 b2 wr k1 k2 (Nat.lt_of_lt_of_le l1 hb.out.size) (Nat.lt_of_lt_of_le l2 hb.out.size)
      generalize ((x.nm.toList == nm.toList)&&(x.ds.toList == ds.toList))=q at *
      clear hs HA hx hxm k1 k2 hat hrow HV hlq
      cases q with
      | true =>
        have HZ:Hid (findH nm ds ms 0=(i:Int)):=by rw [Hid,hst];rfl
        clear hst
        go_wp2_with (go_at_call 269;refine (HC.out).mono ?_;rintro e w1 ⟨rfl,hb1⟩)
        go_ret
        exact ⟨ret_int HZ.out.symm,Below.step hb.out hb1⟩
      | false =>
        have HZ:Hid (findH nm ds (ms.drop (i+1)) (i+1)=findH nm ds ms 0):=by rw [Hid,hst];rfl
        clear hst
        go_wp2_with (go_at_call 269;refine (HC.out).mono ?_;rintro e w1 ⟨rfl,hb1⟩;have hb2:Hid (Below W.heap.size W w1):=Below.step hb.out hb1;clear hb1)
        go_roundw
        case rel=>exact ⟨i+1,by go_num,by omega,hb2,HZ⟩
        case measure=>simp [intOf];omega
    · have e:i=N:=by omega
      subst e
      have HZ:Hid (findH nm ds ms 0=-1):=by rw [Hid,← hs.out,List.drop_of_length_le (by rw [← HM1.out,List.length_map,HN1.out];exact Nat.le_refl _)];rfl
      clear hs HA
      go_wp2
      go_ret
      exact ⟨ret_int HZ.out.symm,hb.out⟩
set_option maxHeartbeats 1000000 in
theorem findH_any (cn cs:ByteArray) (vi:Value) (cf cl:Int) (vm:Value) (N0:Nat) (qm:List (HM×Value)) (nm ds:ByteArray) (W:World) (h:W.ownsRow N0 81 6 vm qm.length (flatH qm)) (hv:∀ x∈qm,∃ a n c,x.2=.slice a n c) (hn:qm.length≤1000000) :
    Calls Tryz.prog 215 #[.agg #[.string cn,.string cs,vi,.int .i64 cf,.int .i64 cl,vm],.string nm,.string ds] W fun e w'=>e=.returned (.int .i64 (findH nm ds (qm.map Prod.fst) 0))∧Below W.heap.size W w':=by
  have H:Hid (∀ w b1 b2,Below W.heap.size W w→w.cell? ⟨b1,0,none⟩=some (.string nm)→w.cell? ⟨b2,0,none⟩=some (.string ds)→b1<w.heap.size→b2<w.heap.size→Calls Tryz.prog 268 #[vm,.func (.func 269) #[] #[.pointer (some ⟨b1,0,none⟩),.pointer (some ⟨b2,0,none⟩)]] w fun e w'=>e=.returned (.int .i64 (findH nm ds (qm.map Prod.fst) 0))∧Below w.heap.size w w'):=fun w b1 b2 hb g1 g2 l1 l2=>idxH_any nm ds vm N0 qm w b1 b2 (rowBelow h hb) hv hn g1 g2 l1 l2
  have hB:Hid (∀ o1 o2 o3,Below W.heap.size W (((W.alloc o1).alloc o2).alloc o3)):=fun o1 o2 o3=>(((Below.refl _ _).alloc (Nat.le_refl _) _).alloc (by simp) _).alloc (by simp;omega) _
  obtain ⟨ao,cap,rfl⟩:=ownv h
  generalize findH nm ds (qm.map Prod.fst) 0=Z at *
  generalize qm.length=M at *
  clear h hv hn
  go_enter Tryz.func215,Tryz.ntmps215
  go_wp2_with (go_at_call 268;(refine (H.out _ (W.heap.size+1) (W.heap.size+1+1) (hB.out _ _ _) ?_ ?_ ?_ ?_).mono ?_;simp [go_sem];simp [go_sem];simp [go_sem];simp [go_sem];rintro e w1 ⟨rfl,hb1⟩))
  go_ret
  exact ⟨rfl,Below.step (hB.out _ _ _) hb1⟩
def fndI (ps:List Plc) (c:Int) (nm ds:ByteArray):Int×Int:=match plcI ps c with
  | none=>(0,3)
  | some q=>if findH nm ds q.c.ms 0<0 then (0,6) else (findH nm ds q.c.ms 0,0)
set_option maxHeartbeats 1000000 in
theorem find_yes {b:Nat} {ps:List Plc} {W:World} (h:WAt b ps W) (k:Nat) (q:Plc) (hq:ps[k]?=some q) (hB:PlcB q) (nm ds:ByteArray):Calls Tryz.prog 209 #[.pointer (some ⟨b,0,none⟩),.int .i64 (k:Int),.string nm,.string ds] W fun e w'=>e=.returned (if findH nm ds q.c.ms 0<0 then .tuple #[.int .i64 0,.int .i64 6] else .tuple #[.int .i64 (findH nm ds q.c.ms 0),.int .i64 0])∧Below W.heap.size W w':=by
  have HX:Hid (∀ w:World,Below W.heap.size W w→Calls Tryz.prog 128 #[.pointer (some ⟨b,0,none⟩),.int .i64 (k:Int)] w fun e w'=>e=.returned (.bool true)∧w'=w):=fun w hb=>by
    have:=has_c (h.below hb) (k:Int)
    rw [plcI_nat,hq] at this
    exact this
  obtain ⟨N,mb,vp,pv,h⟩:=h
  have hkl:=(List.getElem?_eq_some_iff.1 hq).1
  obtain ⟨g,cap,p,rfl,hpl,hcell⟩:=h.at hq
  have b0:=cell_of_row W b 0 _ _ _ h.hb
  simp only [List.getElem?_toArray,List.getElem?_cons_zero] at b0
  obtain ⟨qm,hqm,hoc⟩:=hpl.own
  obtain ⟨ai,ci,hvi⟩:=ownv hoc.ifs
  obtain ⟨am,cm,hvm⟩:=ownv hoc.ms
  have c0:W.cell? ⟨g,k * 8,none⟩=some (.string q.c.nm):=by rw [← hpl.nm];exact hcell 0 (by omega)
  have c1:W.cell? ⟨g,k * 8+1,none⟩=some (.string q.c.su):=by rw [← hpl.su];exact hcell 1 (by omega)
  have c2:W.cell? ⟨g,k * 8+2,none⟩=some (.slice ai q.c.ni ci):=by rw [← hvi];exact hcell 2 (by omega)
  have c3:W.cell? ⟨g,k * 8+3,none⟩=some (.int .i64 q.c.fl):=by rw [← hpl.fl];exact hcell 3 (by omega)
  have c4:W.cell? ⟨g,k * 8+4,none⟩=some (.int .i64 q.c.ld):=by rw [← hpl.ld];exact hcell 4 (by omega)
  have c5:W.cell? ⟨g,k * 8+5,none⟩=some (.slice am qm.length cm):=by rw [← hvm];exact hcell 5 (by omega)
  have hlen:qm.length=q.c.ms.length:=by rw [← hqm];simp
  have HC:Hid (∀ w:World,Below W.heap.size W w→Calls Tryz.prog 215 #[.agg #[.string q.c.nm,.string q.c.su,.slice ai q.c.ni ci,.int .i64 q.c.fl,.int .i64 q.c.ld,.slice am qm.length cm],.string nm,.string ds] w fun e w'=>e=.returned (.int .i64 (findH nm ds q.c.ms 0))∧Below W.heap.size W w'):=by
    intro w hb
    rw [← hqm]
    refine (findH_any q.c.nm q.c.su _ q.c.fl q.c.ld _ N qm nm ds w (by rw [← hvm];exact rowBelow hoc.ms hb) (fun x hx=>?_) (by rw [hlen];exact hB.ms)).mono fun e w' zz=>⟨zz.1,bstep hb zz.2⟩
    obtain ⟨a,c,e⟩:=ownv (hoc.cod x hx)
    exact ⟨a,_,c,e⟩
  have hkI:(k:Int)<(ps.length:Int):=by omega
  generalize findH nm ds q.c.ms 0=Z at *
  generalize qm.length=M at *
  clear hcell hpl hq h hB hoc hvi hvm hqm hlen
  by_cases hz:Z<0
  · rw [if_pos hz]
    go_enter Tryz.func209,Tryz.ntmps209
    go_wp2_with (first
      | (go_at_call 128;refine (HX.out _ (by repeat (first|exact Below.refl _ _|refine Below.setCell ?_ (by simp;try omega) _|refine Below.alloc ?_ (by simp;try omega) _|refine Below.drew ?_))).mono ?_;rintro e w9 ⟨rfl,hw9⟩;rw [hw9];clear hw9 w9)
      | (go_at_call 215;refine (HC.out _ (by repeat (first|exact Below.refl _ _|refine Below.setCell ?_ (by simp;try omega) _|refine Below.alloc ?_ (by simp;try omega) _|refine Below.drew ?_))).mono ?_;rintro e w1 ⟨rfl,hb⟩;have B1:Hid (Below W.heap.size W w1):=hb;clear hb HC))
    exact bodyPost_ret (results_tmp2 rfl _ _ _) rfl ⟨rfl,B1.out⟩
  · rw [if_neg hz]
    go_enter Tryz.func209,Tryz.ntmps209
    go_wp2_with (first
      | (go_at_call 128;refine (HX.out _ (by repeat (first|exact Below.refl _ _|refine Below.setCell ?_ (by simp;try omega) _|refine Below.alloc ?_ (by simp;try omega) _|refine Below.drew ?_))).mono ?_;rintro e w9 ⟨rfl,hw9⟩;rw [hw9];clear hw9 w9)
      | (go_at_call 215;refine (HC.out _ (by repeat (first|exact Below.refl _ _|refine Below.setCell ?_ (by simp;try omega) _|refine Below.alloc ?_ (by simp;try omega) _|refine Below.drew ?_))).mono ?_;rintro e w1 ⟨rfl,hb⟩;have B1:Hid (Below W.heap.size W w1):=hb;clear hb HC))
    exact bodyPost_ret (results_tmp2 rfl _ _ _) rfl ⟨rfl,B1.out⟩
theorem find_no {b:Nat} {ps:List Plc} {W:World} (h:WAt b ps W) (c:Int) (hq:plcI ps c=none) (nm ds:ByteArray):Calls Tryz.prog 209 #[.pointer (some ⟨b,0,none⟩),.int .i64 c,.string nm,.string ds] W fun e w'=>e=.returned (.tuple #[.int .i64 0,.int .i64 3])∧Below W.heap.size W w':=by
  have HX:Hid (∀ w:World,Below W.heap.size W w→Calls Tryz.prog 128 #[.pointer (some ⟨b,0,none⟩),.int .i64 c] w fun e w'=>e=.returned (.bool false)∧w'=w):=fun w hb=>by
    have:=has_c (h.below hb) c
    rw [hq] at this
    exact this
  clear h hq
  go_enter Tryz.func209,Tryz.ntmps209
  go_wp2_with (go_at_call 128;refine (HX.out _ (by repeat (first|exact Below.refl _ _|refine Below.setCell ?_ (by simp;try omega) _|refine Below.alloc ?_ (by simp;try omega) _|refine Below.drew ?_))).mono ?_;rintro e w9 ⟨rfl,hw9⟩;rw [hw9];clear hw9 w9)
  exact bodyPost_ret (results_tmp2 rfl _ _ _) rfl ⟨rfl,(by repeat (first|exact Below.refl _ _|refine Below.setCell ?_ (by simp;try omega) _|refine Below.alloc ?_ (by simp;try omega) _|refine Below.drew ?_))⟩
theorem find_c {b:Nat} {ps:List Plc} {W:World} (h:WAt b ps W) (hB:∀ q∈ps,PlcB q) (c:Int) (nm ds:ByteArray):Calls Tryz.prog 209 #[.pointer (some ⟨b,0,none⟩),.int .i64 c,.string nm,.string ds] W fun e w'=>e=.returned (.tuple #[.int .i64 (fndI ps c nm ds).1,.int .i64 (fndI ps c nm ds).2])∧Below W.heap.size W w':=by
  rcases plcI_cases ps c with ⟨h1,h2⟩|⟨k,p,rfl,h2,h1⟩
  · have e:fndI ps c nm ds=(0,3):=by rw [fndI,h1]
    rw [e];exact find_no h c h1 nm ds
  · have e:fndI ps k nm ds=if findH nm ds p.c.ms 0<0 then (0,6) else (findH nm ds p.c.ms 0,0):=by rw [fndI,h1]
    rw [e]
    refine (find_yes h k p h2 (hB p (List.mem_of_getElem? h2)) nm ds).mono ?_
    rintro e w' ⟨rfl,hb⟩
    refine ⟨?_,hb⟩
    by_cases hz:findH nm ds p.c.ms 0<0
    · rw [if_pos hz,if_pos hz]
    · rw [if_neg hz,if_neg hz]
theorem findM_H (nm ds:ByteArray):∀ (l:List Mth) (k:Nat),findM nm ds l k=findH nm ds (l.map hmOf) k
  | [],_=>rfl
  | m::r,k=>by
    rw [findM,List.map_cons,findH,findM_H nm ds r (k+1)]
    rfl
set_option maxHeartbeats 1000000 in
theorem rFind_c {b:Nat} {cs:List Cls} {ps:List Plc} {W:World} (h:RAt b cs W) (ht:TwW cs ps) (x:Int) (nm ds:ByteArray):Calls Tryz.prog 118 #[.pointer (some ⟨b,0,none⟩),.int .i64 x,.string nm,.string ds] W fun e w'=>e=.returned (.tuple #[.int .i64 (fndI ps x nm ds).1,.int .i64 (fndI ps x nm ds).2])∧Below W.heap.size W w':=by
  have HI:Hid (Calls Tryz.prog 76 #[.pointer (some ⟨b,0,none⟩),.int .i64 x] W fun e w'=>e=.returned (.bool (plcI ps x).isSome)∧w'=W):=rIn_t h ht x
  rcases ht.tw.clsI x with ⟨h1,h2⟩|⟨k,c,q,rfl,hc,hq,hcq,h1,h2⟩
  · have e:fndI ps x nm ds=(0,3):=by rw [fndI,h2]
    rw [e]
    rw [h2] at HI
    clear h ht h1 h2 e
    go_enter Tryz.func118,Tryz.ntmps118
    go_wp2_with (go_at_call 76;refine HI.out.mono ?_;rintro e w9 ⟨rfl,hw9⟩;rw [hw9];clear hw9 w9)
    exact bodyPost_ret (results_tmp2 rfl _ _ _) rfl ⟨rfl,Below.refl _ _⟩
  · have e:fndI ps k nm ds=if findM nm ds c.ms 0<0 then (0,6) else (findM nm ds c.ms 0,0):=by
      rw [fndI,h2]
      simp only
      have:q.c.ms=c.ms.map hmOf:=by rw [hcq];rfl
      rw [this,← findM_H]
    rw [e]
    rw [h2] at HI
    simp only [Option.isSome_some] at HI
    obtain ⟨g,cap,vi,vm,b0,hlt,hgl,c0,c1,c2,c3,c4,c5,hIs,hMs⟩:=RAt.cells h hc
    obtain ⟨ai,ci,rfl⟩:=strs_slice hIs
    have HF:Hid (∀ cn cu cf cl,Calls Tryz.prog 194 #[.agg #[.string cn,.string cu,.slice ai c.ifs.length ci,.int .i64 cf,.int .i64 cl,vm],.string nm,.string ds] W fun e w'=>e=.returned (.int .i64 (findM nm ds c.ms 0))∧Below W.heap.size W w'):=fun cn cu cf cl=>rFind_any cn cu _ cf cl vm c.ms nm ds W hMs
    obtain ⟨am,cm,rfl⟩:=mths_slice hMs
    have hkI:(k:Int)<(cs.length:Int):=by have:=(List.getElem?_eq_some_iff.1 hc).1;omega
    generalize findM nm ds c.ms 0=F at *
    clear h ht h1 h2 e hc hq hcq hIs hMs
    by_cases hF:F<0
    · rw [if_pos hF]
      go_enter Tryz.func118,Tryz.ntmps118
      go_wp2_with (first
        | (go_at_call 76;refine HI.out.mono ?_;rintro e w9 ⟨rfl,hw9⟩;rw [hw9];clear hw9 w9)
        | (go_at_call 194;refine (HF.out _ _ _ _).mono ?_;rintro e w1 ⟨rfl,hb⟩;have B1:Hid (Below W.heap.size W w1):=hb;clear hb HF))
      exact bodyPost_ret (results_tmp2 rfl _ _ _) rfl ⟨rfl,B1.out⟩
    · rw [if_neg hF]
      have hF2:0≤F:=by omega
      go_enter Tryz.func118,Tryz.ntmps118
      go_wp2_with (first
        | (go_at_call 76;refine HI.out.mono ?_;rintro e w9 ⟨rfl,hw9⟩;rw [hw9];clear hw9 w9)
        | (go_at_call 194;refine (HF.out _ _ _ _).mono ?_;rintro e w1 ⟨rfl,hb⟩;have B1:Hid (Below W.heap.size W w1):=hb;clear hb HF))
      exact bodyPost_ret (results_tmp2 rfl _ _ _) rfl ⟨rfl,B1.out⟩
def flatD (l:List (Int×Int)):List Value:=l.flatMap fun p=>[.int .i64 p.1,.int .i64 p.2]
theorem flatD_app (a b:List (Int×Int)):flatD (a++b)=flatD a++flatD b:=by rw [flatD,List.flatMap_append];rfl
theorem flatD_at (l:List (Int×Int)) (k:Nat) (p:Int×Int) (h:l[k]?=some p):(flatD l)[k * 2]?=some (.int .i64 p.1)∧(flatD l)[k * 2+1]?=some (.int .i64 p.2):=by
  induction l generalizing k with
  | nil=>simp at h
  | cons u ts ih =>
    have e:flatD (u::ts)=[.int .i64 u.1,.int .i64 u.2]++flatD ts:=by simp [flatD]
    rw [e]
    cases k with
    | zero=>simp at h;subst h;simp
    | succ k =>
      simp at h
      obtain ⟨h1,h2⟩:=ih k h
      rw [List.getElem?_append_right (by simp;omega),List.getElem?_append_right (by simp;omega)]
      constructor
      · rw [← h1];congr 1;simp;omega
      · rw [← h2];congr 1;simp;omega
theorem Tryz.hinfoD:(Tryz.prog.info? 24).map (fun i=>(i.zero,i.size,i.bytes))=some (some (.agg #[.int .i64 0,.int .i64 0]),2,16):=by kernel_rfl
theorem rowD_cells {w:World} {N:Nat} {l:List (Int×Int)} {g cap:Nat} (h:w.ownsRow N 24 2 (.slice (some ⟨g,0,none⟩) l.length cap) l.length (flatD l)) {i:Nat} {x:Int×Int} (hx:l[i]?=some x):w.cell? ⟨g,i * 2,none⟩=some (.int .i64 x.1)∧w.cell? ⟨g,i * 2+1,none⟩=some (.int .i64 x.2)∧g<w.heap.size:=by
  have hi:=(List.getElem?_eq_some_iff.1 hx).1
  obtain ⟨h1,h2⟩:=flatD_at l i x hx
  have c0:w.cell? ⟨g,i * 2,none⟩=some (.int .i64 x.1):=(h.cellAt (i * 2) (by omega)).trans h1
  exact ⟨c0,(h.cellAt (i * 2+1) (by omega)).trans h2,World.block_lt_of_cell? w _ c0⟩
theorem wld_wj (l:List Cls) (hl:∀ c∈l,ClsW c):WI (wld l)∧WJ (wld l):=wld_ind (P:=fun ps=>WI ps∧WJ ps) ⟨wi3,wj3⟩ (fun _ c h hc=>⟨h.1.define c hc,WJ.define h.1 h.2 c hc⟩) l hl
theorem extI_nat {ps:List Plc} {a b:Nat} (ha:a<ps.length) (hb:b<ps.length):extI ps (a:Int) (b:Int)=extB (ps.map nd) a b:=by
  rw [extI,plcI_nat,plcI_nat,List.getElem?_eq_getElem ha,List.getElem?_eq_getElem hb];rfl
theorem halloc2 (w:World) {n:Nat} (o:Obj) (hn:w.heap.size=n):(w.alloc o).heap[n]?=some o:=by subst hn;exact halloc1 w o
def idE (x:(Int×Int)×Int):Value:=.tuple #[.agg #[.int .i64 x.1.1,.int .i64 x.1.2],.int .i64 x.2]
theorem hkeep {w:World} {n:Nat} {x o:Obj} (h:w.heap[n]?=some x):(w.alloc o).heap[n]?=some x:=by
  have hb:Below w.heap.size w (w.alloc o):=(Below.refl _ w).alloc (Nat.le_refl _) _
  exact (hb.block n (Array.getElem?_eq_some_iff.1 h).1).trans h
theorem RAt.meth {b:Nat} {cs:List Cls} {ps:List Plc} {w:World} (h:RAt b cs w) (ht:TwW cs ps) {k:Nat} {i:Int} {x:HM} (hx:methI ps (k:Int) i=some x):∃ (g cap bk n cm j:Nat) (ac:Option Addr) (cc:Nat),i=(j:Int)∧w.cell? ⟨b,0,none⟩=some (.slice (some ⟨g,0,none⟩) cs.length cap)∧b<w.heap.size∧g<w.heap.size∧(k:Int)<(cs.length:Int)∧w.cell? ⟨g,k * 6+5,none⟩=some (.slice (some ⟨bk,0,none⟩) n cm)∧bk<w.heap.size∧(j:Int)<(n:Int)∧w.cell? ⟨bk,j * 6,none⟩=some (.string x.nm)∧w.cell? ⟨bk,j * 6+1,none⟩=some (.string x.ds)∧w.cell? ⟨bk,j * 6+2,none⟩=some (.int .i64 x.fl)∧w.cell? ⟨bk,j * 6+3,none⟩=some (.int .i64 x.lo)∧w.cell? ⟨bk,j * 6+4,none⟩=some (.int .i64 x.st)∧w.cell? ⟨bk,j * 6+5,none⟩=some (.slice ac x.n cc)∧Rds w (.slice ac x.n cc) x.n 7 x.xs∧(∀ u∈x.xs,u.oneCell'=true)∧x.n≤1000000:=by
  obtain ⟨k',q,hk,hq,_,hm⟩:=meth_plc hx
  have:k=k':=by omega
  subst this
  obtain ⟨c,hc,hcq⟩:=ht.tw.at' hq
  have hcd:=(ht.wi.pb q (List.mem_of_getElem? hq)).cd
  obtain ⟨N,v,rs,hW,hrc⟩:=h
  have hc2:=hc
  rw [← hrc,List.getElem?_map] at hc2
  cases er:rs[k]? with
  | none=>rw [er] at hc2;cases hc2
  | some r =>
    rw [er] at hc2
    have hrcc:r.c=c:=Option.some.inj hc2
    have hkl:=(List.getElem?_eq_some_iff.1 er).1
    obtain ⟨g,cap,rfl⟩:=Go.Joins.ownsRow_form hW.row (by omega)
    have hat:=(hW.row.cellAt (k * 6+5) (by omega)).trans (flatR_at rs k r er 5 (by omega))
    have b0:=cell_of_row w b 0 _ _ _ hW.hb
    simp only [List.getElem?_toArray,List.getElem?_cons_zero] at b0
    obtain ⟨qm,hqm,ho⟩:=hW.own r (List.mem_of_getElem? er)
    unfold methP at hm
    split at hm
    · rename_i hi
      have hms:q.c.ms=qm.map Prod.fst:=by rw [hqm,hrcc,hcq];rfl
      have hxm:x∈q.c.ms:=List.mem_of_getElem? hm
      rw [hms,List.getElem?_map] at hm
      cases e:qm[i.toNat]? with
      | none=>rw [e] at hm;cases hm
      | some p =>
        rw [e] at hm
        have hpx:p.1=x:=Option.some.inj hm
        have hil:=(List.getElem?_eq_some_iff.1 e).1
        obtain ⟨bk,cm,hvm⟩:=Go.Joins.ownsRow_form ho.ms (by omega)
        have hmr:=ho.ms
        rw [hvm] at hmr
        have hcell:=fun j hj=>(hmr.cellAt (i.toNat * 6+j) (by omega)).trans (flatH_at qm i.toNat p e j hj)
        have hco:=ho.cod p (List.mem_of_getElem? e)
        obtain ⟨ac,cc,hp2⟩:=ownv hco
        have h0:w.cell? ⟨bk,i.toNat * 6,none⟩=some (.string x.nm):=by rw [← hpx];exact hcell 0 (by omega)
        have hgb:=World.block_lt_of_cell? w _ (show w.cell? ⟨g,k * 6+5,none⟩=some r.vm from hat)
        refine ⟨g,cap,bk,qm.length,cm,i.toNat,ac,cc,by omega,?_,(Array.getElem?_eq_some_iff.1 hW.hb).1,hgb,?_,?_,World.block_lt_of_cell? w _ h0,by omega,h0,?_,?_,?_,?_,?_,?_,(hcd x hxm).1,(hcd x hxm).2⟩
        · rw [← hrc,List.length_map];exact b0
        · rw [← hrc,List.length_map];omega
        · rw [← hvm];exact hat
        · rw [← hpx];exact hcell 1 (by omega)
        · rw [← hpx];exact hcell 2 (by omega)
        · rw [← hpx];exact hcell 3 (by omega)
        · rw [← hpx];exact hcell 4 (by omega)
        · have:=hcell 5 (by omega)
          rw [← hpx,← hp2];exact this
        · rw [hp2] at hco
          rw [← hpx]
          exact own_rds hco
    · cases hm
theorem chL_len {ps:List Plc} (hi:WI ps) {k:Nat} (hk:k<ps.length):(chL (ps.map nd) k).length≤1000000:=by
  have:=ch_len hi.wo k (by simpa using hk)
  have:=hi.hi
  omega
end Go.Proofs.YtjlfnelihbdhjaaGreat
