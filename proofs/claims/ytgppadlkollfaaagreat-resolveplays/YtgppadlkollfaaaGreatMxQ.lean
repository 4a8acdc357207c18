import Derived.Test.YtgppadlkollfaaaGreatRfL
import Derived.Test.YtgppadlkollfaaaGreatHrZ
import Derived.Test.YtgppadlkollfaaaGreatWdB
import Derived.Test.YtgppadlkollfaaaGreatOwnL
import Derived.Test.YtgppadlkollfaaaGreatRfF
import Derived.BigQuiet
import Derived.Lib.SliceRun
import Derived.Shelf.RegionOpen
set_option maxRecDepth 100000
namespace Go.Proofs.YtgppadlkollfaaaGreat
open Go.RowKit Go.Maps
set_option maxHeartbeats 4000000 in
theorem rGather_any {b:Nat} {cs:List Cls} {ps:List Plc} {W:World} (h:RAt b cs W) (ht:TwW cs ps) (hJ:WJ ps):∀ (id:Nat),id<ps.length→∀ (w:World) (v:Value) (l:List Nat),Below W.heap.size W w→w.ownsRow W.heap.size 3 1 v l.length (l.map numV)→ClL ps l→Calls Tryz.prog 156 #[.pointer (some ⟨b,0,none⟩),.int .i64 (id:Int),v] w fun e w'=>(∃ v',e=.returned v'∧w'.ownsRow W.heap.size 3 1 v' (takeL l (clO (ps.map nd) id)).length ((takeL l (clO (ps.map nd) id)).map numV))∧Below W.heap.size W w':=by
  intro id
  induction id using Nat.strongRecOn with
  | _ id ih =>
  intro hid w v l hw hrow hcl
  obtain ⟨i0,hi0,hz0,hz1,hz2⟩:=info_parts Tryz.hinfo3
  have hlen:=ht.tw.len
  have h3:=ht.wi.hi
  obtain ⟨c,hc⟩:∃ c,cs[id]?=some c:=⟨_,List.getElem?_eq_getElem (by omega)⟩
  obtain ⟨ks,hk1,hk2,hk3⟩:=ht.ifaces hJ hc
  have hgt:=gath_take (ps:=ps) l id ks hk3
  have HR:Hid (RAt b cs W):=h
  have HTW:Hid (TwW cs ps):=ht
  have HW3:Hid (ps.length≤300):=h3
  have HCC:Hid (cs[id]?=some c):=hc
  have HKS:Hid (∀ (i:Nat) (p:List UInt8),c.ifs[i]?=some p→∃ j,ks[i]?=some j∧nmdI p cs 0=((j:Nat):Int)∧j<id):=hk2
  have HN:Hid (∀ (w':World) (s:ByteArray),Below W.heap.size W w'→Calls Tryz.prog 138 #[.pointer (some ⟨b,0,none⟩),.string s] w' fun e w''=>e=.returned (.int .i64 (nmdI s.toList cs 0))∧w''=w'):=fun w' s hb=>rNamed_c (h.below hb) s (by omega)
  have HIH:Hid (∀ (j:Nat),j<id→∀ (w:World) (v:Value) (l:List Nat),Below W.heap.size W w→w.ownsRow W.heap.size 3 1 v l.length (l.map numV)→ClL ps l→Calls Tryz.prog 156 #[.pointer (some ⟨b,0,none⟩),.int .i64 (j:Int),v] w fun e w'=>(∃ v',e=.returned v'∧w'.ownsRow W.heap.size 3 1 v' (takeL l (clO (ps.map nd) j)).length ((takeL l (clO (ps.map nd) j)).map numV))∧Below W.heap.size W w'):=fun j hj=>ih j hj (by omega)
  have HHA:Hid (∀ (v:Value) (l:List Nat) (p:Nat) (w:World),w.ownsRow W.heap.size 3 1 v l.length (l.map numV)→l.length≤1000000→Calls Tryz.prog 155 #[v,.int .i64 (p:Int)] w fun e w'=>e=.returned (.bool (l.contains p))∧Below w.heap.size w w'):=fun v l p w hr hl=>rHas_any v l p w (own_rds hr) hl
  obtain ⟨n,hn⟩:∃ n,c.ifs.length=n:=⟨_,rfl⟩
  have HNI:Hid (c.ifs.length=n):=hn
  have HKL:Hid (ks.length=n):=hk1.trans hn
  obtain ⟨L,hL⟩:∃ L,cs.length=L:=⟨_,rfl⟩
  have HL:Hid (cs.length=L):=hL
  have hidL:id<L:=by omega
  have hidI:(id:Int)<(L:Int):=by omega
  have HCL:Hid (ClL ps l):=hcl
  have HRW:Hid (w.ownsRow W.heap.size 3 1 v l.length (l.map numV)):=hrow
  have HBW:Hid (Below W.heap.size W w):=hw
  have hnb:n≤1000000:=by
    obtain ⟨q,hq,hqc⟩:=ht.tw.at hc
    have h1:=(ht.wi.pb q (List.mem_of_getElem? hq)).ni
    rw [hqc] at h1
    rw [← hn];exact h1
  obtain ⟨va0,vn0,rfl⟩:=ownv hrow
  by_cases h0:id=0
  · have hks:ks=[]:=by
      cases hcs:c.ifs with
      | nil=>exact List.length_eq_zero_iff.1 (by rw [hk1,hcs];rfl)
      | cons p r =>
        obtain ⟨j,_,_,hj⟩:=hk2 0 p (by rw [hcs];rfl)
        omega
    have hz:clO (ps.map nd) id=[]:=by
      obtain ⟨n0,h1,_,h2,_⟩:=ht.wi.wo.top
      rw [h0,clO,h1];exact h2
    have HX1:Hid (takeL l (clO (ps.map nd) id)=l):=by rw [Hid,hz];rfl
    have hn0:n=0:=by rw [← HKL.out,hks];rfl
    subst hn0
    subst h0
    obtain ⟨g,cap,vi,vm,b0,hlt0,hgl,c0,c1,c2,c3,c4,c5,hst,_⟩:=(h.below hw).cells hc
    rw [hL] at b0
    obtain ⟨ao,icap,rfl,_,_,_⟩:=hst
    rw [hn] at c2
    have hL0:(0:Int)<(L:Int):=by omega
    clear hlen h3 hc hk1 hk2 hk3 hgt h ht hJ ih hn hL hcl hrow hw hks hz HIH HHA HN HKS c0 c1 c3 c4 c5
    go_enter Tryz.func156,Tryz.ntmps156
    go_wp2
    go_loopw [2,7] (fun lv iv wr=>lv=.slice va0 l.length vn0∧iv=.int .i64 0∧wr=w) (fun _ _ _=>0)
    case atStart=>exact ⟨rfl,rfl,rfl⟩
    case round =>
      obtain ⟨rfl,rfl,rfl⟩:=hrel
      go_wp2
      refine bodyPost_ret (results_tmp rfl _ _ _) rfl ⟨⟨.slice va0 l.length vn0,rfl,?_⟩,HBW.out⟩
      rw [HX1.out];exact HRW.out
  · obtain ⟨l1,hl1⟩:∃ l1,l1=takeL l (clO (ps.map nd) (spO (ps.map nd) id)):=⟨_,rfl⟩
    have HX1:Hid (ks.foldl (gathF (ps.map Plc.cl)) l1=takeL l (clO (ps.map nd) id)):=by rw [Hid,hl1];exact hgt.symm
    have hidp:id<(ps.map nd).length:=by rw [List.length_map];exact hid
    have hsl:=ht.wi.wo.spLt hidp (by omega)
    have hsu:=ht.super hc (by omega)
    have HCL1:Hid (ClL ps l1):=by rw [Hid,hl1];exact hcl.take ht.wi _ (by omega)
    have HS1:Hid (∀ w',Below W.heap.size W w'→Calls Tryz.prog 138 #[.pointer (some ⟨b,0,none⟩),.string c.su] w' fun e w''=>e=.returned (.int .i64 ((spO (ps.map nd) id:Nat):Int))∧w''=w'):=fun w' hb=>by rw [← hsu];exact HN.out w' c.su hb
    have HS2:Hid (Calls Tryz.prog 156 #[.pointer (some ⟨b,0,none⟩),.int .i64 ((spO (ps.map nd) id:Nat):Int),.slice va0 l.length vn0] w fun e w'=>(∃ v',e=.returned v'∧w'.ownsRow W.heap.size 3 1 v' l1.length (l1.map numV))∧Below W.heap.size W w'):=by rw [hl1];exact HIH.out _ hsl w _ l hw hrow hcl
    obtain ⟨g0,cap0,vi0,vm0,b00,hlt00,hgl0,_,c10,_,_,_,_,_,_⟩:=(h.below hw).cells hc
    rw [hL] at b00
    generalize spO (ps.map nd) id=sp at *
    have h0I:¬ (id:Int)=0:=by omega
    clear hlen h3 hc hk1 hk2 hk3 hgt h ht hJ ih hn hL hcl hrow hw hl1 hsu
    go_enter Tryz.func156,Tryz.ntmps156
    go_wp2_with (first
      | (go_at_call 138;refine (HS1.out _ HBW.out).mono ?_;rintro e w9 ⟨rfl,hw9⟩;rw [hw9];clear hw9 w9 HS1)
      | (go_at_call 156;refine HS2.out.mono ?_;rintro e w1 ⟨⟨v1,rfl,ho⟩,hb⟩;obtain ⟨va1,vn1,rfl⟩:=ownv ho;have O1:Hid (w1.ownsRow W.heap.size 3 1 (.slice va1 l1.length vn1) l1.length (l1.map numV)):=ho;have B1:Hid (Below W.heap.size W w1):=hb;clear hb ho HS2))
    go_loopw [2,7] (fun lv iv wr=>∃ (i:Nat),iv=.int .i64 (i:Int)∧i≤n∧Hid (wr.ownsRow W.heap.size 3 1 lv ((ks.take i).foldl (gathF (ps.map Plc.cl)) l1).length (((ks.take i).foldl (gathF (ps.map Plc.cl)) l1).map numV))∧Hid (ClL ps ((ks.take i).foldl (gathF (ps.map Plc.cl)) l1))∧Hid (Below W.heap.size W wr)) (fun _ iv _=>n - (intOf iv).toNat)
    case atStart=>exact ⟨0,rfl,Nat.zero_le _,O1,HCL1,B1⟩
    case round =>
      obtain ⟨i,rfl,hi,hO,hC,hB⟩:=hrel
      obtain ⟨g,cap,vi,vm,b0,hlt0,hgl,c0,c1,c2,c3,c4,c5,hst,_⟩:=(HR.out.below hB.out).cells HCC.out
      rw [HL.out] at b0
      obtain ⟨ao,icap,rfl,hq1,hq2,hq3⟩:=hst
      rw [HNI.out] at c2 hq1
      have HQ3:Hid _:=hq3
      clear c0 c1 c3 c4 c5 hq3
      by_cases hlt:i<n
      · have hltI:(i:Int)<(n:Int):=by omega
        obtain ⟨p,hp⟩:∃ p,c.ifs[i]?=some p:=⟨_,List.getElem?_eq_getElem (by rw [HNI.out];exact hlt)⟩
        obtain ⟨k,hk,hkn,hkl⟩:=HKS.out i p hp
        obtain ⟨bk,o,rfl,hbk,hcs⟩:=HQ3.out (fun e=>by rw [e] at hp;simp at hp)
        have hce:=hcs i p hp
        have hfold:(ks.take (i+1)).foldl (gathF (ps.map Plc.cl)) l1=gathF (ps.map Plc.cl) ((ks.take i).foldl (gathF (ps.map Plc.cl)) l1) k:=by
          rw [List.take_add_one,hk,List.foldl_append];rfl
        have HN1:Hid (Calls Tryz.prog 138 #[.pointer (some ⟨b,0,none⟩),.string ⟨p.toArray⟩] wr fun e w''=>e=.returned (.int .i64 (k:Int))∧w''=wr):=by
          have:=HN.out wr ⟨p.toArray⟩ hB.out
          rw [show (ByteArray.mk p.toArray).toList=p from by rw [Lib.toList_data],hkn] at this
          exact this
        obtain ⟨Lc,hLc⟩:∃ Lc,(ks.take i).foldl (gathF (ps.map Plc.cl)) l1=Lc:=⟨_,rfl⟩
        rw [hLc] at hO hC hfold
        have HFO:Hid _:=hfold
        have hLb:Lc.length≤300:=Nat.le_trans hC.out.len HW3.out
        have HA1:Hid (∀ (v:Value),wr.ownsRow W.heap.size 3 1 v Lc.length (Lc.map numV)→Calls Tryz.prog 155 #[v,.int .i64 (k:Int)] wr fun e w'=>e=.returned (.bool (Lc.contains k))∧Below wr.heap.size wr w'):=fun v hr=>HHA.out v Lc k wr hr (by omega)
        have HG1:Hid (∀ (w:World) (v:Value),Below W.heap.size W w→w.ownsRow W.heap.size 3 1 v Lc.length (Lc.map numV)→Calls Tryz.prog 156 #[.pointer (some ⟨b,0,none⟩),.int .i64 (k:Int),v] w fun e w'=>(∃ v',e=.returned v'∧w'.ownsRow W.heap.size 3 1 v' (takeL Lc (clO (ps.map nd) k)).length ((takeL Lc (clO (ps.map nd) k)).map numV))∧Below W.heap.size W w'):=fun w v hb hr=>HIH.out k hkl w v Lc hb hr hC.out
        have HCN:Hid (ClL ps (gathF (ps.map Plc.cl) Lc k)):=hC.out.gathF HTW.out.wi k (by omega)
        have HG2:Hid (Lc.contains k=true→gathF (ps.map Plc.cl) Lc k=Lc):=fun he=>gathF_yes hC.out (by simpa using he)
        have HG3:Hid (Lc.contains k=false→gathF (ps.map Plc.cl) Lc k=takeL Lc (clO (ps.map nd) k)++[k]∧(takeL Lc (clO (ps.map nd) k)).length≤300):=fun he=>⟨gathF_no HTW.out.wi (by simpa using he),Nat.le_trans (hC.out.take HTW.out.wi k (by omega)).len HW3.out⟩
        obtain ⟨va,vn,rfl⟩:=ownv hO.out
        clear hcs hp hk hkn hfold hLc HX1 HN HIH HHA HQ3
        cases hz:Lc.contains k with
        | true =>
          rw [hz] at HA1
          have he:=HG2.out hz
          rw [he] at HFO HCN
          clear HG1 HG2 HG3 hz he
          go_wp2_with (first
            | (go_at_call 138;refine HN1.out.mono ?_;rintro e w9 ⟨rfl,hw9⟩;rw [hw9];clear hw9 w9 HN1)
            | (go_at_call 155;refine (HA1.out _ hO.out).mono ?_;rintro e w2 ⟨rfl,hb⟩;have O2:Hid (w2.ownsRow W.heap.size 3 1 (.slice va Lc.length vn) Lc.length (Lc.map numV)):=rowBelow hO.out hb;have B2:Hid (Below W.heap.size W w2):=bstep hB.out hb;clear hb HA1))
          go_roundw
          case rel=>exact ⟨i+1,by go_num,by omega,by rw [HFO.out];exact O2,by rw [HFO.out];exact HCN,B2⟩
          case measure=>simp [intOf];omega
        | false =>
          rw [hz] at HA1
          obtain ⟨he,hlb⟩:=HG3.out hz
          rw [he] at HFO HCN
          generalize takeL Lc (clO (ps.map nd) k)=T at *
          clear HG2 HG3 hz he
          go_wp2_with (first
            | (go_at_call 138;refine HN1.out.mono ?_;rintro e w9 ⟨rfl,hw9⟩;rw [hw9];clear hw9 w9 HN1)
            | (go_at_call 155;refine (HA1.out _ hO.out).mono ?_;rintro e w2 ⟨rfl,hb⟩;have O2:Hid (w2.ownsRow W.heap.size 3 1 (.slice va Lc.length vn) Lc.length (Lc.map numV)):=rowBelow hO.out hb;have B2:Hid (Below W.heap.size W w2):=bstep hB.out hb;clear hb HA1)
            | (go_at_call 156;refine (HG1.out _ _ B2.out O2.out).mono ?_;rintro e w3 ⟨⟨v3,rfl,ho⟩,hb⟩;obtain ⟨va3,vn3,rfl⟩:=ownv ho;have O3:Hid (w3.ownsRow W.heap.size 3 1 (.slice va3 T.length vn3) T.length (T.map numV)):=ho;have B3:Hid (Below W.heap.size W w3):=hb;clear hb ho HG1)
            | (at_builtin;refine wpList_append_own _ rfl _ _ 82 rfl W.heap.size 3 i0 (.int .i64 0) 1 8 Tryz.underlying82 hi0 hz0 hz1 hz2 rfl (by decide) (.slice va3 T.length vn3) T.length (T.map numV) rfl (O3.out.alloc _) ⟨w3.heap.size,0,none⟩ 1 1 [.int .i64 (k:Int)] rfl rfl ?c1 ?c2 ?c3 ?c4 ?c5 ?_))
          case c1=>intro jj u hj;rw [addr_add];cases jj with
            | zero=>simp at hj;subst hj;simp [go_sem]
            | succ jj=>simp at hj
          case c2=>intro u hu;simp at hu;subst hu;rfl
          case c3=>unfold maxLen;omega
          case c4=>omega
          case c5=>have:=B3.out.size;simp;omega
          intro v' w4 hown hgrow _
          obtain ⟨va4,vn4,rfl⟩:=ownv hown
          have B4:Hid (Below W.heap.size W w4):=by
            have hb1:Below W.heap.size W (w3.alloc (.cells #[.int .i64 (k:Int)] 3)):=B3.out.alloc B3.out.size _
            refine hb1.grown hgrow hb1.size (fun x hx=>?_)
            have:=(O3.out.lt x hx).1
            omega
          have O4:Hid (w4.ownsRow W.heap.size 3 1 (.slice va4 (T.length+1) vn4) (T++[k]).length ((T++[k]).map numV)):=by
            rw [Hid,List.length_append,List.map_append];exact hown
          clear hown hgrow
          go_wp2
          go_roundw
          case rel=>exact ⟨i+1,by go_num,by omega,by rw [HFO.out];exact O4,by rw [HFO.out];exact HCN,B4⟩
          case measure=>simp [intOf];omega
      · have e:i=n:=by omega
        have HT:Hid ((ks.take i).foldl (gathF (ps.map Plc.cl)) l1=takeL l (clO (ps.map nd) id)):=by
          rw [Hid,e,← HKL.out,List.take_of_length_le (Nat.le_refl _)]
          exact HX1.out
        rw [HT.out] at hO
        subst e
        obtain ⟨va,vn,rfl⟩:=ownv hO.out
        clear HT HX1
        go_wp2
        refine bodyPost_ret (results_tmp rfl _ _ _) rfl ⟨⟨_,rfl,?_⟩,hB.out⟩
        exact hO.out
theorem rIn_t {b:Nat} {cs:List Cls} {ps:List Plc} {W:World} (h:RAt b cs W) (ht:TwW cs ps) (i:Int):Calls Tryz.prog 80 #[.pointer (some ⟨b,0,none⟩),.int .i64 i] W fun e w'=>e=.returned (.bool (plcI ps i).isSome)∧w'=W:=by
  have:=rIn_c h i
  rcases ht.tw.clsI i with ⟨h1,h2⟩|⟨k,c,q,rfl,_,_,_,h1,h2⟩
  · rw [h1] at this;rw [h2];exact this
  · rw [h1] at this;rw [h2];exact this
set_option maxHeartbeats 1000000 in
theorem rExtends_c {b:Nat} {cs:List Cls} {ps:List Plc} {W:World} (h:RAt b cs W) (ht:TwW cs ps) (hJ:WJ ps) (x y:Int):Calls Tryz.prog 84 #[.pointer (some ⟨b,0,none⟩),.int .i64 x,.int .i64 y] W fun e w'=>e=.returned (.bool (extI ps x y))∧Below W.heap.size W w':=by
  have HI:Hid (∀ i z w,Below W.heap.size W w→(plcI ps i).isSome=z→Calls Tryz.prog 80 #[.pointer (some ⟨b,0,none⟩),.int .i64 i] w fun e w'=>e=.returned (.bool z)∧w'=w):=fun i z w hb hz=>by rw [← hz];exact rIn_t (h.below hb) ht i
  rcases plcI_cases ps x with ⟨h1,_⟩|⟨k,p,rfl,h2,h1⟩
  · have e:extI ps x y=false:=by rw [extI,h1];rfl
    rw [e]
    have HX:Hid (∀ i w,Below W.heap.size W w→i=x→Calls Tryz.prog 80 #[.pointer (some ⟨b,0,none⟩),.int .i64 i] w fun e w'=>e=.returned (.bool false)∧w'=w):=fun i w hb hi=>by rw [hi];exact HI.out x false w hb (by rw [h1];rfl)
    clear h ht hJ HI h1 e
    go_enter Tryz.func84,Tryz.ntmps84
    go_wp2_with (go_at_call 80;refine (HX.out _ _ (Below.refl _ _) (by rfl)).mono ?_;rintro e w9 ⟨rfl,hw9⟩;rw [hw9];clear hw9 w9)
    exact bodyPost_ret (results_tmp rfl _ _ _) rfl ⟨rfl,Below.refl _ _⟩
  · have HX:Hid (∀ i w,Below W.heap.size W w→i=(k:Int)→Calls Tryz.prog 80 #[.pointer (some ⟨b,0,none⟩),.int .i64 i] w fun e w'=>e=.returned (.bool true)∧w'=w):=fun i w hb hi=>by rw [hi];exact HI.out k true w hb (by rw [h1];rfl)
    rcases plcI_cases ps y with ⟨g1,_⟩|⟨j,q,rfl,g2,g1⟩
    · have e:extI ps k y=false:=by rw [extI,h1,g1];rfl
      rw [e]
      have HY:Hid (∀ i w,Below W.heap.size W w→i=y→Calls Tryz.prog 80 #[.pointer (some ⟨b,0,none⟩),.int .i64 i] w fun e w'=>e=.returned (.bool false)∧w'=w):=fun i w hb hi=>by rw [hi];exact HI.out y false w hb (by rw [g1];rfl)
      clear h ht hJ HI h1 g1 e
      go_enter Tryz.func84,Tryz.ntmps84
      go_wp2_with (first
        | (go_at_call 80;refine (HX.out _ _ (Below.refl _ _) (by rfl)).mono ?_;rintro e w9 ⟨rfl,hw9⟩;rw [hw9];clear hw9 w9)
        | (go_at_call 80;refine (HY.out _ _ (Below.refl _ _) (by rfl)).mono ?_;rintro e w9 ⟨rfl,hw9⟩;rw [hw9];clear hw9 w9))
      exact bodyPost_ret (results_tmp rfl _ _ _) rfl ⟨rfl,Below.refl _ _⟩
    · have hkl:=(List.getElem?_eq_some_iff.1 h2).1
      have e:extI ps k j=((chL (ps.map nd) k).contains j||(clO (ps.map nd) k).contains j):=by rw [extI,h1,g1];rfl
      rw [e]
      have HY:Hid (∀ i w,Below W.heap.size W w→i=(j:Int)→Calls Tryz.prog 80 #[.pointer (some ⟨b,0,none⟩),.int .i64 i] w fun e w'=>e=.returned (.bool true)∧w'=w):=fun i w hb hi=>by rw [hi];exact HI.out j true w hb (by rw [g1];rfl)
      have HC:Hid (Calls Tryz.prog 121 #[.pointer (some ⟨b,0,none⟩),.int .i64 (k:Int)] W fun e w'=>(∃ v,e=.returned (.tuple #[v,.int .i64 0])∧w'.ownsRow W.heap.size 3 1 v (chL (ps.map nd) k).length ((chL (ps.map nd) k).map numV))∧Below W.heap.size W w'):=rChain_yes h ht k hkl
      have hcb:(chL (ps.map nd) k).length≤1000000:=by
        have hkn:k<(ps.map nd).length:=by rw [List.length_map];exact hkl
        have:=nodup_lt_len (k+1) _ (ch_nodup ht.wi.wo k hkn) (fun i hi=>Nat.lt_succ_of_le (ch_le ht.wi.wo k hkn i hi))
        have:=ht.wi.hi
        omega
      have hclb:(clO (ps.map nd) k).length≤1000000:=by
        have:=nodup_lt_len k _ (cl_nodup ht.wi.wo k) (fun i hi=>(cl_facts ht.wi.wo hi).1)
        have:=ht.wi.hi
        omega
      have HG:Hid (∀ w,Below W.heap.size W w→Calls Tryz.prog 156 #[.pointer (some ⟨b,0,none⟩),.int .i64 (k:Int),.slice none 0 0] w fun e w'=>(∃ v',e=.returned v'∧w'.ownsRow W.heap.size 3 1 v' (clO (ps.map nd) k).length ((clO (ps.map nd) k).map numV))∧Below W.heap.size W w'):=fun w hb=>by
        have:=rGather_any h ht hJ k hkl w (.slice none 0 0) [] hb (World.ownsRow_nil _ _ _ _) (ClL.nil ps)
        rw [take_nil _ (cl_nodup ht.wi.wo k)] at this
        exact this
      have HH1:Hid (∀ (v:Value) (w:World),w.ownsRow W.heap.size 3 1 v (chL (ps.map nd) k).length ((chL (ps.map nd) k).map numV)→Calls Tryz.prog 155 #[v,.int .i64 (j:Int)] w fun e w'=>e=.returned (.bool ((chL (ps.map nd) k).contains j))∧Below w.heap.size w w'):=fun v w hr=>rHas_any v _ j w (own_rds hr) hcb
      have HH2:Hid (∀ (v:Value) (w:World),w.ownsRow W.heap.size 3 1 v (clO (ps.map nd) k).length ((clO (ps.map nd) k).map numV)→Calls Tryz.prog 155 #[v,.int .i64 (j:Int)] w fun e w'=>e=.returned (.bool ((clO (ps.map nd) k).contains j))∧Below w.heap.size w w'):=fun v w hr=>rHas_any v _ j w (own_rds hr) hclb
      generalize (chL (ps.map nd) k).contains j=z1 at *
      generalize (clO (ps.map nd) k).contains j=z2 at *
      generalize chL (ps.map nd) k=C at *
      generalize clO (ps.map nd) k=G at *
      clear h ht hJ HI h1 h2 g1 g2 e hcb hclb hkl
      cases z1
      all_goals
        go_enter Tryz.func84,Tryz.ntmps84
        go_wp2_with (first
          | (go_at_call 80;refine (HX.out _ _ (Below.refl _ _) (by rfl)).mono ?_;rintro e w9 ⟨rfl,hw9⟩;rw [hw9];clear hw9 w9)
          | (go_at_call 80;refine (HY.out _ _ (Below.refl _ _) (by rfl)).mono ?_;rintro e w9 ⟨rfl,hw9⟩;rw [hw9];clear hw9 w9)
          | (go_at_call 121;refine HC.out.mono ?_;rintro e w1 ⟨⟨v1,rfl,ho⟩,hb⟩;obtain ⟨va1,vn1,rfl⟩:=ownv ho;have O1:Hid (w1.ownsRow W.heap.size 3 1 (.slice va1 C.length vn1) C.length (C.map numV)):=ho;have B1:Hid (Below W.heap.size W w1):=hb;clear hb ho HC)
          | (go_at_call 155;refine (HH1.out _ _ O1.out).mono ?_;rintro e w2 ⟨rfl,hb⟩;have B2:Hid (Below W.heap.size W w2):=bstep B1.out hb;clear hb HH1 O1)
          | (go_at_call 156;refine (HG.out _ B2.out).mono ?_;rintro e w3 ⟨⟨v3,rfl,ho⟩,hb⟩;obtain ⟨va3,vn3,rfl⟩:=ownv ho;have O3:Hid (w3.ownsRow W.heap.size 3 1 (.slice va3 G.length vn3) G.length (G.map numV)):=ho;have B3:Hid (Below W.heap.size W w3):=hb;clear hb ho HG)
          | (go_at_call 155;refine (HH2.out _ _ O3.out).mono ?_;rintro e w4 ⟨rfl,hb⟩;have B4:Hid (Below W.heap.size W w4):=bstep B3.out hb;clear hb HH2 O3))
        first
          | exact bodyPost_ret (results_tmp rfl _ _ _) rfl ⟨rfl,B4.out⟩
          | exact bodyPost_ret (results_tmp rfl _ _ _) rfl ⟨rfl,B2.out⟩
def findH (nm ds:ByteArray):List HM→Nat→Int
  | [],_=>-1
  | m::r,k=>if (m.nm.toList == nm.toList)&&(m.ds.toList == ds.toList) then (k:Int) else findH nm ds r (k+1)
theorem findH_at {l:List HM} {nm ds:ByteArray} (k:Nat) (x:HM) (h:l[k]?=some x):findH nm ds (l.drop k) k=if (x.nm.toList == nm.toList)&&(x.ds.toList == ds.toList) then (k:Int) else findH nm ds (l.drop (k+1)) (k+1):=by
  obtain ⟨h1,h2⟩:=List.getElem?_eq_some_iff.1 h
  rw [List.drop_eq_getElem_cons h1,h2,findH]
theorem findH_range (nm ds:ByteArray):∀ (l:List HM) (k:Nat),findH nm ds l k=-1∨∃ (j:Nat) (m:HM),findH nm ds l k=((k+j:Nat):Int)∧l[j]?=some m∧m.nm.toList=nm.toList∧m.ds.toList=ds.toList
  | [],_=>.inl rfl
  | m::r,k=>by
    rw [findH]
    cases e:(m.nm.toList == nm.toList)&&(m.ds.toList == ds.toList) with
    | true =>
      simp only [Bool.and_eq_true,beq_iff_eq] at e
      exact .inr ⟨0,m,by simp,rfl,e.1,e.2⟩
    | false =>
      rcases findH_range nm ds r (k+1) with h|⟨j,x,h,hj⟩
      · exact .inl (by simpa using h)
      · exact .inr ⟨j+1,x,by simp only [Bool.false_eq_true,if_false];rw [h];congr 1;omega,by rw [List.getElem?_cons_succ];exact hj⟩
set_option maxHeartbeats 4000000 in
theorem idxH_any (nm ds:ByteArray) (vm:Value) (N0:Nat) (qm:List (HM×Value)) (W:World) (b1 b2:Nat) (h:W.ownsRow N0 47 6 vm qm.length (flatH qm)) (hv:∀ x∈qm,∃ a n c,x.2=.slice a n c) (hn:qm.length≤1000000) (g1:W.cell? ⟨b1,0,none⟩=some (.string nm)) (g2:W.cell? ⟨b2,0,none⟩=some (.string ds)) (l1:b1<W.heap.size) (l2:b2<W.heap.size) :
    Calls Tryz.prog 190 #[vm,.func (.func 191) #[] #[.pointer (some ⟨b1,0,none⟩),.pointer (some ⟨b2,0,none⟩)]] W fun e w'=>e=.returned (.int .i64 (findH nm ds (qm.map Prod.fst) 0))∧Below W.heap.size W w':=by
  obtain ⟨ao,cap,rfl⟩:=ownv h
  obtain ⟨N,hN⟩:∃ N,qm.length=N:=⟨_,rfl⟩
  obtain ⟨ms,hms⟩:∃ ms,qm.map Prod.fst=ms:=⟨_,rfl⟩
  have HA:Hid (W.ownsRow N0 47 6 (.slice ao qm.length cap) qm.length (flatH qm)):=h
  have HN1:Hid (qm.length=N):=hN
  have HM1:Hid (qm.map Prod.fst=ms):=hms
  have HV:Hid (∀ x∈qm,∃ a n c,x.2=.slice a n c):=hv
  have G1:Hid _:=g1
  have G2:Hid _:=g2
  rw [hms]
  rw [hN] at hn ⊢
  clear hN hms h hv g1 g2
  go_enter Tryz.func190,Tryz.ntmps190
  go_wp2
  go_loopw [8] (fun iv wr=>∃ i:Nat,iv=.int .i64 i∧i≤N∧Hid (Below W.heap.size W wr)∧Hid (findH nm ds (ms.drop i) i=findH nm ds ms 0)) (fun iv _=>N - (intOf iv).toNat)
  case atStart=>exact ⟨0,rfl,Nat.zero_le _,Below.refl _ _,rfl⟩
  case round =>
    obtain ⟨i,rfl,hi,hb,hs⟩:=hrel
    by_cases hlt:i<N
    · have hlq:i<qm.length:=by rw [HN1.out];exact hlt
      obtain ⟨⟨x,vc⟩,hx⟩:∃ x,qm[i]?=some x:=⟨_,List.getElem?_eq_getElem hlq⟩
      have hxm:ms[i]?=some x:=by rw [← HM1.out,List.getElem?_map,hx];rfl
      obtain ⟨gm,cm,hform⟩:=Go.Joins.ownsRow_form HA.out (by omega)
      have hrow:=HA.out
      rw [hform] at hrow
      obtain ⟨va,vn,vcap,hvc⟩:=HV.out _ (List.mem_of_getElem? hx)
      simp only at hvc
      subst hvc
      have hat:=fun jj hj=>(hrow.cellAt (i * 6+jj) (by omega)).trans (flatH_at qm i _ hx jj hj)
      have e0:W.cell? ⟨gm,i * 6,none⟩=some (.string x.nm):=hat 0 (by omega)
      have e1:W.cell? ⟨gm,i * 6+1,none⟩=some (.string x.ds):=hat 1 (by omega)
      have e2:W.cell? ⟨gm,i * 6+2,none⟩=some (.int .i64 x.fl):=hat 2 (by omega)
      have e3:W.cell? ⟨gm,i * 6+3,none⟩=some (.int .i64 x.lo):=hat 3 (by omega)
      have e4:W.cell? ⟨gm,i * 6+4,none⟩=some (.int .i64 x.st):=hat 4 (by omega)
      have e5:W.cell? ⟨gm,i * 6+5,none⟩=some (.slice va vn vcap):=hat 5 (by omega)
      have hgl:gm<W.heap.size:=World.block_lt_of_cell? W _ e0
      replace e0:=(hb.out.cell (p:=⟨gm,i * 6,none⟩) hgl).trans e0
      replace e1:=(hb.out.cell (p:=⟨gm,i * 6+1,none⟩) hgl).trans e1
      replace e2:=(hb.out.cell (p:=⟨gm,i * 6+2,none⟩) hgl).trans e2
      replace e3:=(hb.out.cell (p:=⟨gm,i * 6+3,none⟩) hgl).trans e3
      replace e4:=(hb.out.cell (p:=⟨gm,i * 6+4,none⟩) hgl).trans e4
      replace e5:=(hb.out.cell (p:=⟨gm,i * 6+5,none⟩) hgl).trans e5
      injection hform with hao _ hcap
      subst hao hcap
      have hst:=findH_at (nm:=nm) (ds:=ds) i x hxm
      rw [hs.out] at hst
      have k1:=(hb.out.cell (p:=⟨b1,0,none⟩) l1).trans G1.out
      have k2:=(hb.out.cell (p:=⟨b2,0,none⟩) l2).trans G2.out
      have HC:Hid (Calls Tryz.prog 191 #[.agg #[.string x.nm,.string x.ds,.int .i64 x.fl,.int .i64 x.lo,.int .i64 x.st,.slice va vn vcap],.pointer (some ⟨b1,0,none⟩),.pointer (some ⟨b2,0,none⟩)] wr fun e w'=>e=.returned (.bool ((x.nm.toList == nm.toList)&&(x.ds.toList == ds.toList)))∧Below wr.heap.size wr w'):=isM_any x.nm x.ds nm ds x.fl x.lo x.st (.slice va vn vcap) b1 b2 wr k1 k2 (Nat.lt_of_lt_of_le l1 hb.out.size) (Nat.lt_of_lt_of_le l2 hb.out.size)
      generalize ((x.nm.toList == nm.toList)&&(x.ds.toList == ds.toList))=q at *
      clear hs HA hx hxm k1 k2 hat hrow HV hlq
      cases q with
      | true =>
        have HZ:Hid (findH nm ds ms 0=(i:Int)):=by rw [Hid,hst];rfl
        clear hst
        go_wp2_with (go_at_call 191;refine (HC.out).mono ?_;rintro e w1 ⟨rfl,hb1⟩)
        go_ret
        exact ⟨ret_int HZ.out.symm,Below.step hb.out hb1⟩
      | false =>
        have HZ:Hid (findH nm ds (ms.drop (i+1)) (i+1)=findH nm ds ms 0):=by rw [Hid,hst];rfl
        clear hst
        go_wp2_with (go_at_call 191;refine (HC.out).mono ?_;rintro e w1 ⟨rfl,hb1⟩;have hb2:Hid (Below W.heap.size W w1):=Below.step hb.out hb1;clear hb1)
        go_roundw
        case rel=>exact ⟨i+1,by go_num,by omega,hb2,HZ⟩
        case measure=>simp [intOf];omega
    · have e:i=N:=by omega
      subst e
      have HZ:Hid (findH nm ds ms 0=-1):=by rw [Hid,← hs.out,List.drop_of_length_le (by rw [← HM1.out,List.length_map,HN1.out];exact Nat.le_refl _)];rfl
      clear hs HA
      go_wp2
      go_ret
      exact ⟨ret_int HZ.out.symm,hb.out⟩
set_option maxHeartbeats 1000000 in
theorem findH_any (cn cs:ByteArray) (vi:Value) (cf cl:Int) (vm:Value) (N0:Nat) (qm:List (HM×Value)) (nm ds:ByteArray) (W:World) (h:W.ownsRow N0 47 6 vm qm.length (flatH qm)) (hv:∀ x∈qm,∃ a n c,x.2=.slice a n c) (hn:qm.length≤1000000) :
    Calls Tryz.prog 133 #[.agg #[.string cn,.string cs,vi,.int .i64 cf,.int .i64 cl,vm],.string nm,.string ds] W fun e w'=>e=.returned (.int .i64 (findH nm ds (qm.map Prod.fst) 0))∧Below W.heap.size W w':=by
  have H:Hid (∀ w b1 b2,Below W.heap.size W w→w.cell? ⟨b1,0,none⟩=some (.string nm)→w.cell? ⟨b2,0,none⟩=some (.string ds)→b1<w.heap.size→b2<w.heap.size→Calls Tryz.prog 190 #[vm,.func (.func 191) #[] #[.pointer (some ⟨b1,0,none⟩),.pointer (some ⟨b2,0,none⟩)]] w fun e w'=>e=.returned (.int .i64 (findH nm ds (qm.map Prod.fst) 0))∧Below w.heap.size w w'):=fun w b1 b2 hb g1 g2 l1 l2=>idxH_any nm ds vm N0 qm w b1 b2 (rowBelow h hb) hv hn g1 g2 l1 l2
  have hB:Hid (∀ o1 o2 o3,Below W.heap.size W (((W.alloc o1).alloc o2).alloc o3)):=fun o1 o2 o3=>(((Below.refl _ _).alloc (Nat.le_refl _) _).alloc (by simp) _).alloc (by simp;omega) _
  obtain ⟨ao,cap,rfl⟩:=ownv h
  generalize findH nm ds (qm.map Prod.fst) 0=Z at *
  generalize qm.length=M at *
  clear h hv hn
  go_enter Tryz.func133,Tryz.ntmps133
  go_wp2_with (go_at_call 190;(refine (H.out _ (W.heap.size+1) (W.heap.size+1+1) (hB.out _ _ _) ?_ ?_ ?_ ?_).mono ?_;simp [go_sem];simp [go_sem];simp [go_sem];simp [go_sem];rintro e w1 ⟨rfl,hb1⟩))
  go_ret
  exact ⟨rfl,Below.step (hB.out _ _ _) hb1⟩
def fndI (ps:List Plc) (c:Int) (nm ds:ByteArray):Int×Int:=match plcI ps c with
  | none=>(0,3)
  | some q=>if findH nm ds q.c.ms 0<0 then (0,6) else (findH nm ds q.c.ms 0,0)
set_option maxHeartbeats 1000000 in
theorem find_yes {b:Nat} {ps:List Plc} {W:World} (h:WAt b ps W) (k:Nat) (q:Plc) (hq:ps[k]?=some q) (hB:PlcB q) (nm ds:ByteArray):Calls Tryz.prog 62 #[.pointer (some ⟨b,0,none⟩),.int .i64 (k:Int),.string nm,.string ds] W fun e w'=>e=.returned (if findH nm ds q.c.ms 0<0 then .tuple #[.int .i64 0,.int .i64 6] else .tuple #[.int .i64 (findH nm ds q.c.ms 0),.int .i64 0])∧Below W.heap.size W w':=by
  have HX:Hid (∀ w:World,Below W.heap.size W w→Calls Tryz.prog 96 #[.pointer (some ⟨b,0,none⟩),.int .i64 (k:Int)] w fun e w'=>e=.returned (.bool true)∧w'=w):=fun w hb=>by
    have:=has_c (h.below hb) (k:Int)
    rw [plcI_nat,hq] at this
    exact this
  obtain ⟨N,mb,vp,pv,h⟩:=h
  have hkl:=(List.getElem?_eq_some_iff.1 hq).1
  obtain ⟨g,cap,p,rfl,hpl,hcell⟩:=h.at hq
  have b0:=cell_of_row W b 0 _ _ _ h.hb
  simp only [List.getElem?_toArray,List.getElem?_cons_zero] at b0
  obtain ⟨qm,hqm,hoc⟩:=hpl.own
  obtain ⟨ai,ci,hvi⟩:=ownv hoc.ifs
  obtain ⟨am,cm,hvm⟩:=ownv hoc.ms
  have c0:W.cell? ⟨g,k * 8,none⟩=some (.string q.c.nm):=by rw [← hpl.nm];exact hcell 0 (by omega)
  have c1:W.cell? ⟨g,k * 8+1,none⟩=some (.string q.c.su):=by rw [← hpl.su];exact hcell 1 (by omega)
  have c2:W.cell? ⟨g,k * 8+2,none⟩=some (.slice ai q.c.ni ci):=by rw [← hvi];exact hcell 2 (by omega)
  have c3:W.cell? ⟨g,k * 8+3,none⟩=some (.int .i64 q.c.fl):=by rw [← hpl.fl];exact hcell 3 (by omega)
  have c4:W.cell? ⟨g,k * 8+4,none⟩=some (.int .i64 q.c.ld):=by rw [← hpl.ld];exact hcell 4 (by omega)
  have c5:W.cell? ⟨g,k * 8+5,none⟩=some (.slice am qm.length cm):=by rw [← hvm];exact hcell 5 (by omega)
  have hlen:qm.length=q.c.ms.length:=by rw [← hqm];simp
  have HC:Hid (∀ w:World,Below W.heap.size W w→Calls Tryz.prog 133 #[.agg #[.string q.c.nm,.string q.c.su,.slice ai q.c.ni ci,.int .i64 q.c.fl,.int .i64 q.c.ld,.slice am qm.length cm],.string nm,.string ds] w fun e w'=>e=.returned (.int .i64 (findH nm ds q.c.ms 0))∧Below W.heap.size W w'):=by
    intro w hb
    rw [← hqm]
    refine (findH_any q.c.nm q.c.su _ q.c.fl q.c.ld _ N qm nm ds w (by rw [← hvm];exact rowBelow hoc.ms hb) (fun x hx=>?_) (by rw [hlen];exact hB.ms)).mono fun e w' zz=>⟨zz.1,bstep hb zz.2⟩
    obtain ⟨a,c,e⟩:=ownv (hoc.cod x hx)
    exact ⟨a,_,c,e⟩
  have hkI:(k:Int)<(ps.length:Int):=by omega
  generalize findH nm ds q.c.ms 0=Z at *
  generalize qm.length=M at *
  clear hcell hpl hq h hB hoc hvi hvm hqm hlen
  by_cases hz:Z<0
  · rw [if_pos hz]
    go_enter Tryz.func62,Tryz.ntmps62
    go_wp2_with (first
      | (go_at_call 96;refine (HX.out _ (by repeat (first|exact Below.refl _ _|refine Below.setCell ?_ (by simp;try omega) _|refine Below.alloc ?_ (by simp;try omega) _|refine Below.drew ?_))).mono ?_;rintro e w9 ⟨rfl,hw9⟩;rw [hw9];clear hw9 w9)
      | (go_at_call 133;refine (HC.out _ (by repeat (first|exact Below.refl _ _|refine Below.setCell ?_ (by simp;try omega) _|refine Below.alloc ?_ (by simp;try omega) _|refine Below.drew ?_))).mono ?_;rintro e w1 ⟨rfl,hb⟩;have B1:Hid (Below W.heap.size W w1):=hb;clear hb HC))
    exact bodyPost_ret (results_tmp2 rfl _ _ _) rfl ⟨rfl,B1.out⟩
  · rw [if_neg hz]
    go_enter Tryz.func62,Tryz.ntmps62
    go_wp2_with (first
      | (go_at_call 96;refine (HX.out _ (by repeat (first|exact Below.refl _ _|refine Below.setCell ?_ (by simp;try omega) _|refine Below.alloc ?_ (by simp;try omega) _|refine Below.drew ?_))).mono ?_;rintro e w9 ⟨rfl,hw9⟩;rw [hw9];clear hw9 w9)
      | (go_at_call 133;refine (HC.out _ (by repeat (first|exact Below.refl _ _|refine Below.setCell ?_ (by simp;try omega) _|refine Below.alloc ?_ (by simp;try omega) _|refine Below.drew ?_))).mono ?_;rintro e w1 ⟨rfl,hb⟩;have B1:Hid (Below W.heap.size W w1):=hb;clear hb HC))
    exact bodyPost_ret (results_tmp2 rfl _ _ _) rfl ⟨rfl,B1.out⟩
theorem find_no {b:Nat} {ps:List Plc} {W:World} (h:WAt b ps W) (c:Int) (hq:plcI ps c=none) (nm ds:ByteArray):Calls Tryz.prog 62 #[.pointer (some ⟨b,0,none⟩),.int .i64 c,.string nm,.string ds] W fun e w'=>e=.returned (.tuple #[.int .i64 0,.int .i64 3])∧Below W.heap.size W w':=by
  have HX:Hid (∀ w:World,Below W.heap.size W w→Calls Tryz.prog 96 #[.pointer (some ⟨b,0,none⟩),.int .i64 c] w fun e w'=>e=.returned (.bool false)∧w'=w):=fun w hb=>by
    have:=has_c (h.below hb) c
    rw [hq] at this
    exact this
  clear h hq
  go_enter Tryz.func62,Tryz.ntmps62
  go_wp2_with (go_at_call 96;refine (HX.out _ (by repeat (first|exact Below.refl _ _|refine Below.setCell ?_ (by simp;try omega) _|refine Below.alloc ?_ (by simp;try omega) _|refine Below.drew ?_))).mono ?_;rintro e w9 ⟨rfl,hw9⟩;rw [hw9];clear hw9 w9)
  exact bodyPost_ret (results_tmp2 rfl _ _ _) rfl ⟨rfl,(by repeat (first|exact Below.refl _ _|refine Below.setCell ?_ (by simp;try omega) _|refine Below.alloc ?_ (by simp;try omega) _|refine Below.drew ?_))⟩
theorem find_c {b:Nat} {ps:List Plc} {W:World} (h:WAt b ps W) (hB:∀ q∈ps,PlcB q) (c:Int) (nm ds:ByteArray):Calls Tryz.prog 62 #[.pointer (some ⟨b,0,none⟩),.int .i64 c,.string nm,.string ds] W fun e w'=>e=.returned (.tuple #[.int .i64 (fndI ps c nm ds).1,.int .i64 (fndI ps c nm ds).2])∧Below W.heap.size W w':=by
  rcases plcI_cases ps c with ⟨h1,h2⟩|⟨k,p,rfl,h2,h1⟩
  · have e:fndI ps c nm ds=(0,3):=by rw [fndI,h1]
    rw [e];exact find_no h c h1 nm ds
  · have e:fndI ps k nm ds=if findH nm ds p.c.ms 0<0 then (0,6) else (findH nm ds p.c.ms 0,0):=by rw [fndI,h1]
    rw [e]
    refine (find_yes h k p h2 (hB p (List.mem_of_getElem? h2)) nm ds).mono ?_
    rintro e w' ⟨rfl,hb⟩
    refine ⟨?_,hb⟩
    by_cases hz:findH nm ds p.c.ms 0<0
    · rw [if_pos hz,if_pos hz]
    · rw [if_neg hz,if_neg hz]
def hasS (ps:List Plc) (c i fl:Int):Bool:=match methI ps c i with
  | some m=>hasI m.fl fl
  | none=>false
set_option maxHeartbeats 1000000 in
theorem hasS_c {b:Nat} {ps:List Plc} {W:World} (h:WAt b ps W) (hB:∀ q∈ps,PlcB q) (c i fl:Int):Calls Tryz.prog 101 #[.pointer (some ⟨b,0,none⟩),.agg #[.int .i64 c,.int .i64 i],.int .i64 fl] W fun e w'=>e=.returned (.bool (hasS ps c i fl))∧Below W.heap.size W w':=by
  have HM:Hid (∀ w,Below W.heap.size W w→Calls Tryz.prog 32 #[.pointer (some ⟨b,0,none⟩),.agg #[.int .i64 c,.int .i64 i]] w fun e w'=>MthR w.heap.size (methI ps c i) e w'∧Below w.heap.size w w'):=fun w hb=>method_c (h.below hb) hB c i
  have HR:Hid (hasS ps c i fl=match methI ps c i with|some m=>hasI m.fl fl|none=>false):=rfl
  generalize hasS ps c i fl=R at *
  generalize methI ps c i=M at *
  clear h hB
  cases M with
  | none =>
    have hR:R=false:=HR.out
    subst hR
    go_enter Tryz.func101,Tryz.ntmps101
    go_wp2_with (go_at_call 32;refine (HM.out _ (by repeat (first|exact Below.refl _ _|refine Below.setCell ?_ (by simp;try omega) _|refine Below.alloc ?_ (by simp;try omega) _|refine Below.drew ?_))).mono ?_;rintro e w1 ⟨hr,hb⟩;have hr2:e=.returned noM:=hr;subst hr2;rw [noM];have B1:Hid (Below W.heap.size W w1):=bstep (by repeat (first|exact Below.refl _ _|refine Below.setCell ?_ (by simp;try omega) _|refine Below.alloc ?_ (by simp;try omega) _|refine Below.drew ?_)) hb;clear hb HM hr)
    exact bodyPost_ret (v:=.bool false) (by simp [results,Tryz.results101,go_sem]) rfl ⟨rfl,B1.out.alloc B1.out.size _⟩
  | some m =>
    have hR:R=(bits .and .i64 m.fl fl != 0):=HR.out
    cases hq:(bits .and .i64 m.fl fl != 0) with
    | true =>
      rw [hq] at hR
      subst hR
      clear HR
      go_enter Tryz.func101,Tryz.ntmps101
      go_wp2_with (go_at_call 32;refine (HM.out _ (by repeat (first|exact Below.refl _ _|refine Below.setCell ?_ (by simp;try omega) _|refine Below.alloc ?_ (by simp;try omega) _|refine Below.drew ?_))).mono ?_;rintro e w1 ⟨⟨v,hr,ho⟩,hb⟩;subst hr;obtain ⟨a',c',rfl⟩:=ownv ho;have B1:Hid (Below W.heap.size W w1):=bstep (by repeat (first|exact Below.refl _ _|refine Below.setCell ?_ (by simp;try omega) _|refine Below.alloc ?_ (by simp;try omega) _|refine Below.drew ?_)) hb;clear hb HM ho)
      exact bodyPost_ret (v:=.bool true) (by simp [results,Tryz.results101,go_sem, *]) rfl ⟨rfl,B1.out.alloc B1.out.size _⟩
    | false =>
      rw [hq] at hR
      subst hR
      clear HR
      go_enter Tryz.func101,Tryz.ntmps101
      go_wp2_with (go_at_call 32;refine (HM.out _ (by repeat (first|exact Below.refl _ _|refine Below.setCell ?_ (by simp;try omega) _|refine Below.alloc ?_ (by simp;try omega) _|refine Below.drew ?_))).mono ?_;rintro e w1 ⟨⟨v,hr,ho⟩,hb⟩;subst hr;obtain ⟨a',c',rfl⟩:=ownv ho;have B1:Hid (Below W.heap.size W w1):=bstep (by repeat (first|exact Below.refl _ _|refine Below.setCell ?_ (by simp;try omega) _|refine Below.alloc ?_ (by simp;try omega) _|refine Below.drew ?_)) hb;clear hb HM ho)
      exact bodyPost_ret (v:=.bool false) (by simp [results,Tryz.results101,go_sem, *]) rfl ⟨rfl,B1.out.alloc B1.out.size _⟩
theorem findM_H (nm ds:ByteArray):∀ (l:List Mth) (k:Nat),findM nm ds l k=findH nm ds (l.map hmOf) k
  | [],_=>rfl
  | m::r,k=>by
    rw [findM,List.map_cons,findH,findM_H nm ds r (k+1)]
    rfl
set_option maxHeartbeats 1000000 in
theorem rFind_c {b:Nat} {cs:List Cls} {ps:List Plc} {W:World} (h:RAt b cs W) (ht:TwW cs ps) (x:Int) (nm ds:ByteArray):Calls Tryz.prog 103 #[.pointer (some ⟨b,0,none⟩),.int .i64 x,.string nm,.string ds] W fun e w'=>e=.returned (.tuple #[.int .i64 (fndI ps x nm ds).1,.int .i64 (fndI ps x nm ds).2])∧Below W.heap.size W w':=by
  have HI:Hid (Calls Tryz.prog 80 #[.pointer (some ⟨b,0,none⟩),.int .i64 x] W fun e w'=>e=.returned (.bool (plcI ps x).isSome)∧w'=W):=rIn_t h ht x
  rcases ht.tw.clsI x with ⟨h1,h2⟩|⟨k,c,q,rfl,hc,hq,hcq,h1,h2⟩
  · have e:fndI ps x nm ds=(0,3):=by rw [fndI,h2]
    rw [e]
    rw [h2] at HI
    clear h ht h1 h2 e
    go_enter Tryz.func103,Tryz.ntmps103
    go_wp2_with (go_at_call 80;refine HI.out.mono ?_;rintro e w9 ⟨rfl,hw9⟩;rw [hw9];clear hw9 w9)
    exact bodyPost_ret (results_tmp2 rfl _ _ _) rfl ⟨rfl,Below.refl _ _⟩
  · have e:fndI ps k nm ds=if findM nm ds c.ms 0<0 then (0,6) else (findM nm ds c.ms 0,0):=by
      rw [fndI,h2]
      simp only
      have:q.c.ms=c.ms.map hmOf:=by rw [hcq];rfl
      rw [this,← findM_H]
    rw [e]
    rw [h2] at HI
    simp only [Option.isSome_some] at HI
    obtain ⟨g,cap,vi,vm,b0,hlt,hgl,c0,c1,c2,c3,c4,c5,hIs,hMs⟩:=RAt.cells h hc
    obtain ⟨ai,ci,rfl⟩:=strs_slice hIs
    have HF:Hid (∀ cn cu cf cl,Calls Tryz.prog 172 #[.agg #[.string cn,.string cu,.slice ai c.ifs.length ci,.int .i64 cf,.int .i64 cl,vm],.string nm,.string ds] W fun e w'=>e=.returned (.int .i64 (findM nm ds c.ms 0))∧Below W.heap.size W w'):=fun cn cu cf cl=>rFind_any cn cu _ cf cl vm c.ms nm ds W hMs
    obtain ⟨am,cm,rfl⟩:=mths_slice hMs
    have hkI:(k:Int)<(cs.length:Int):=by have:=(List.getElem?_eq_some_iff.1 hc).1;omega
    generalize findM nm ds c.ms 0=F at *
    clear h ht h1 h2 e hc hq hcq hIs hMs
    by_cases hF:F<0
    · rw [if_pos hF]
      go_enter Tryz.func103,Tryz.ntmps103
      go_wp2_with (first
        | (go_at_call 80;refine HI.out.mono ?_;rintro e w9 ⟨rfl,hw9⟩;rw [hw9];clear hw9 w9)
        | (go_at_call 172;refine (HF.out _ _ _ _).mono ?_;rintro e w1 ⟨rfl,hb⟩;have B1:Hid (Below W.heap.size W w1):=hb;clear hb HF))
      exact bodyPost_ret (results_tmp2 rfl _ _ _) rfl ⟨rfl,B1.out⟩
    · rw [if_neg hF]
      have hF2:0≤F:=by omega
      go_enter Tryz.func103,Tryz.ntmps103
      go_wp2_with (first
        | (go_at_call 80;refine HI.out.mono ?_;rintro e w9 ⟨rfl,hw9⟩;rw [hw9];clear hw9 w9)
        | (go_at_call 172;refine (HF.out _ _ _ _).mono ?_;rintro e w1 ⟨rfl,hb⟩;have B1:Hid (Below W.heap.size W w1):=hb;clear hb HF))
      exact bodyPost_ret (results_tmp2 rfl _ _ _) rfl ⟨rfl,B1.out⟩
theorem rClosure_yes {b:Nat} {cs:List Cls} {ps:List Plc} {W:World} (h:RAt b cs W) (ht:TwW cs ps) (hJ:WJ ps) (k:Nat) (q:Plc) (hq:ps[k]?=some q):Calls Tryz.prog 102 #[.pointer (some ⟨b,0,none⟩),.int .i64 (k:Int)] W fun e w'=>(∃ v,e=.returned (.tuple #[v,.int .i64 0])∧w'.ownsRow W.heap.size 3 1 v q.cl.length (q.cl.map numV))∧Below W.heap.size W w':=by
  have hkl:=(List.getElem?_eq_some_iff.1 hq).1
  have hcl:clO (ps.map nd) k=q.cl:=by rw [clO,nd_at' hq];rfl
  have HI:Hid (Calls Tryz.prog 80 #[.pointer (some ⟨b,0,none⟩),.int .i64 (k:Int)] W fun e w'=>e=.returned (.bool true)∧w'=W):=(rIn_t h ht k).mono fun e w' zz=>⟨by rw [zz.1,plcI_nat,hq];rfl,zz.2⟩
  have HG:Hid (∀ w,Below W.heap.size W w→Calls Tryz.prog 156 #[.pointer (some ⟨b,0,none⟩),.int .i64 (k:Int),.slice none 0 0] w fun e w'=>(∃ v',e=.returned v'∧w'.ownsRow W.heap.size 3 1 v' q.cl.length (q.cl.map numV))∧Below W.heap.size W w'):=fun w hb=>by
    have:=rGather_any h ht hJ k hkl w (.slice none 0 0) [] hb (World.ownsRow_nil _ _ _ _) (ClL.nil ps)
    rw [take_nil _ (cl_nodup ht.wi.wo k),hcl] at this
    exact this
  generalize q.cl.length=n at *
  generalize q.cl.map numV=xs at *
  clear h ht hJ hq hkl hcl
  go_enter Tryz.func102,Tryz.ntmps102
  go_wp2_with (first
    | (go_at_call 80;refine HI.out.mono ?_;rintro e w9 ⟨rfl,hw9⟩;rw [hw9];clear hw9 w9)
    | (go_at_call 156;refine (HG.out _ (Below.refl _ _)).mono ?_;rintro e w1 ⟨⟨v,rfl,ho⟩,hb⟩;obtain ⟨a1,c1,rfl⟩:=ownv ho;have O1:Hid (w1.ownsRow W.heap.size 3 1 (.slice a1 n c1) n xs):=ho;have B1:Hid (Below W.heap.size W w1):=hb;clear ho hb HG))
  exact bodyPost_ret (results_tmp2 rfl _ _ _) rfl ⟨⟨_,rfl,O1.out⟩,B1.out⟩
def cand1 (ps:List Plc) (nm ds:ByteArray) (i:Nat):List (Int×Int) :=
  if (fndI ps i nm ds).2=0∧hasS ps i (fndI ps i nm ds).1 10=false then [((i:Int),(fndI ps i nm ds).1)] else []
def candL (ps:List Plc) (nm ds:ByteArray) (cl:List Nat):List (Int×Int):=cl.flatMap (cand1 ps nm ds)
theorem candL_app (ps:List Plc) (nm ds:ByteArray) (a b:List Nat):candL ps nm ds (a++b)=candL ps nm ds a++candL ps nm ds b:=by
  rw [candL,List.flatMap_append];rfl
theorem candL_take {ps:List Plc} {nm ds:ByteArray} {cl:List Nat} {k i:Nat} (h:cl[k]?=some i):candL ps nm ds (cl.take (k+1))=candL ps nm ds (cl.take k)++cand1 ps nm ds i:=by
  rw [List.take_add_one,h,candL_app]
  congr 1
  show List.flatMap (cand1 ps nm ds) [i]=_
  simp
theorem cand1_len (ps:List Plc) (nm ds:ByteArray) (i:Nat):(cand1 ps nm ds i).length≤1:=by
  rw [cand1];split <;> simp
theorem candL_len (ps:List Plc) (nm ds:ByteArray) (cl:List Nat):(candL ps nm ds cl).length≤cl.length:=by
  induction cl with
  | nil=>exact Nat.le_refl _
  | cons i r ih =>
    have:=cand1_len ps nm ds i
    have e:candL ps nm ds (i::r)=cand1 ps nm ds i++candL ps nm ds r:=by rw [candL,List.flatMap_cons];rfl
    rw [e,List.length_append,List.length_cons];omega
def flatD (l:List (Int×Int)):List Value:=l.flatMap fun p=>[.int .i64 p.1,.int .i64 p.2]
theorem flatD_length (l:List (Int×Int)):(flatD l).length=l.length * 2:=by
  induction l with
  | nil=>rfl
  | cons t ts ih=>simp only [flatD,List.flatMap_cons,List.length_append] at *;rw [ih];simp;omega
theorem flatD_app (a b:List (Int×Int)):flatD (a++b)=flatD a++flatD b:=by rw [flatD,List.flatMap_append];rfl
theorem flatD_at (l:List (Int×Int)) (k:Nat) (p:Int×Int) (h:l[k]?=some p):(flatD l)[k * 2]?=some (.int .i64 p.1)∧(flatD l)[k * 2+1]?=some (.int .i64 p.2):=by
  induction l generalizing k with
  | nil=>simp at h
  | cons u ts ih =>
    have e:flatD (u::ts)=[.int .i64 u.1,.int .i64 u.2]++flatD ts:=by simp [flatD]
    rw [e]
    cases k with
    | zero=>simp at h;subst h;simp
    | succ k =>
      simp at h
      obtain ⟨h1,h2⟩:=ih k h
      rw [List.getElem?_append_right (by simp;omega),List.getElem?_append_right (by simp;omega)]
      constructor
      · rw [← h1];congr 1;simp;omega
      · rw [← h2];congr 1;simp;omega
theorem flatD_one (l:List (Int×Int)):∀ u∈flatD l,u.oneCell'=true:=by
  intro u hu
  rw [flatD,List.mem_flatMap] at hu
  obtain ⟨p,_,hp⟩:=hu
  simp at hp
  rcases hp with rfl|rfl <;> rfl
theorem Tryz.hinfoD:(Tryz.prog.info? 38).map (fun i=>(i.zero,i.size,i.bytes))=some (some (.agg #[.int .i64 0,.int .i64 0]),2,16):=by kernel_rfl
set_option maxHeartbeats 4000000 in
theorem cand_yes {b:Nat} {ps:List Plc} {W:World} (h:WAt b ps W) (hpb:∀ q∈ps,PlcB q) (hlen:ps.length≤300) (k:Nat) (q:Plc) (hq:ps[k]?=some q) (nm ds:ByteArray):Calls Tryz.prog 37 #[.pointer (some ⟨b,0,none⟩),.int .i64 (k:Int),.string nm,.string ds] W fun e w'=>(∃ v,e=.returned (.tuple #[v,.int .i64 0])∧w'.ownsRow W.heap.size 38 2 v (candL ps nm ds q.cl).length (flatD (candL ps nm ds q.cl)))∧Below W.heap.size W w':=by
  obtain ⟨i0,hi0,hz0,hz1,hz2⟩:=info_parts Tryz.hinfoD
  have HW0:Hid (WAt b ps W):=h
  have HPB:Hid (∀ q∈ps,PlcB q):=hpb
  obtain ⟨K,hK⟩:∃ K,q.cl.length=K:=⟨_,rfl⟩
  have HK:Hid (q.cl.length=K):=hK
  have hKb:K≤300:=by
    obtain ⟨N,mb,vp,pv,h⟩:=h
    have hwf:=h.wf q (List.mem_of_getElem? hq)
    have:=nodup_lt_len _ _ hwf.2 hwf.1
    omega
  have HC:Hid (∀ w,Below W.heap.size W w→Calls Tryz.prog 100 #[.pointer (some ⟨b,0,none⟩),.int .i64 (k:Int)] w fun e w'=>∃ v,e=.returned (.tuple #[v,.int .i64 0])∧w'.ownsRow w.heap.size 3 1 v q.cl.length (q.cl.map numV)∧Below w.heap.size w w'):=fun w hb=>by
    obtain ⟨N,mb,vp,pv,h⟩:=h.below hb
    exact closure_yes N b mb ps vp pv k q w h hq hlen
  clear h hpb hq hK
  go_enter Tryz.func37,Tryz.ntmps37
  go_wp2_with (first
    | (go_at_call 100;refine (HC.out _ (Below.refl _ _)).mono ?_;rintro e w1 ⟨v,rfl,ho,hb⟩;rw [HK.out] at ho;obtain ⟨ca,cc,rfl⟩:=ownv ho;have O1:Hid (w1.ownsRow W.heap.size 3 1 (.slice ca K cc) K (q.cl.map numV)):=ho;have B1:Hid (Below W.heap.size W w1):=hb;have HW1:Hid (WAt b ps w1):=HW0.out.below hb;clear ho hb HC))
  go_loopw [12,31] (fun sv kv wr=>∃ (j:Nat),kv=.int .i64 j∧j≤K∧Hid (wr.ownsRow w1.heap.size 38 2 sv (candL ps nm ds (q.cl.take j)).length (flatD (candL ps nm ds (q.cl.take j))))∧Hid (Below w1.heap.size w1 wr)) (fun _ kv _=>K - (intOf kv).toNat)
  case atStart=>exact ⟨0,rfl,Nat.zero_le _,World.ownsRow_nil _ _ _ _,Below.refl _ _⟩
  case round =>
    obtain ⟨j,rfl,hj,hO,hB⟩:=hrel
    by_cases hlt:j<K
    · have hjl:j<q.cl.length:=by rw [HK.out];exact hlt
      obtain ⟨i,hi⟩:∃ i,q.cl[j]?=some i:=⟨_,List.getElem?_eq_getElem hjl⟩
      obtain ⟨g,c2,hform⟩:=Go.Joins.ownsRow_form O1.out (by omega)
      have hce:w1.cell? ⟨g,j,none⟩=some (.int .i64 (i:Int)):=by
        have hrow:=O1.out
        rw [hform] at hrow
        rw [hrow.cellAt j (by omega),List.getElem?_map,hi];rfl
      injection hform with hca _ hcc
      subst hca hcc
      have hgl:g<w1.heap.size:=World.block_lt_of_cell? w1 _ hce
      have hcr:=(hB.out.cell (p:=⟨g,j,none⟩) hgl).trans hce
      have hst:=candL_take (ps:=ps) (nm:=nm) (ds:=ds) hi
      have hal:(candL ps nm ds (q.cl.take j)).length≤300:=by
        have:=candL_len ps nm ds (q.cl.take j)
        rw [List.length_take] at this
        omega
      have HF:Hid (Calls Tryz.prog 62 #[.pointer (some ⟨b,0,none⟩),.int .i64 (i:Int),.string nm,.string ds] wr fun e w'=>e=.returned (.tuple #[.int .i64 (fndI ps i nm ds).1,.int .i64 (fndI ps i nm ds).2])∧Below wr.heap.size wr w'):=find_c (HW1.out.below hB.out) HPB.out i nm ds
      have HS:Hid (∀ w,Below w1.heap.size w1 w→Calls Tryz.prog 101 #[.pointer (some ⟨b,0,none⟩),.agg #[.int .i64 (i:Int),.int .i64 (fndI ps i nm ds).1],.int .i64 10] w fun e w'=>e=.returned (.bool (hasS ps i (fndI ps i nm ds).1 10))∧Below w.heap.size w w'):=fun w hb=>hasS_c (HW1.out.below hb) HPB.out i _ 10
      rw [cand1] at hst
      obtain ⟨L,hL⟩:∃ L,candL ps nm ds (q.cl.take j)=L:=⟨_,rfl⟩
      rw [hL] at hst hal hO
      obtain ⟨va,vn,rfl⟩:=ownv hO.out
      generalize fndI ps i nm ds=F at *
      obtain ⟨F1,F2⟩:=F
      simp only at hst HF HS
      generalize hasS ps i F1 10=S at *
      clear hce hi hjl hL
      have HST:Hid _:=hst
      clear hst
      by_cases hF:F2=0
      · subst hF
        cases S with
        | true =>
          have hst2:candL ps nm ds (List.take (j+1) q.cl)=L:=by rw [HST.out,if_neg (by simp)];simp
          clear HST
          go_wp2_with (first
            | (go_at_call 62;refine HF.out.mono ?_;rintro e w2 ⟨rfl,hb⟩;have B2:Hid (Below w1.heap.size w1 w2):=bstep hB.out hb;have O2:Hid (w2.ownsRow w1.heap.size 38 2 (.slice va L.length vn) L.length (flatD L)):=rowBelow hO.out hb;clear hb HF)
            | (go_at_call 101;refine (HS.out _ (B2.out.alloc B2.out.size _)).mono ?_;rintro e w3 ⟨rfl,hb⟩;have B3:Hid (Below w1.heap.size w1 w3):=bstep (B2.out.alloc B2.out.size _) hb;have O3:Hid (w3.ownsRow w1.heap.size 38 2 (.slice va L.length vn) L.length (flatD L)):=rowBelow (O2.out.alloc _) hb;clear hb HS))
          refine ⟨⟨j+1,by simp,by omega,?_,B3⟩,by simp [intOf];omega⟩
          rw [hst2];exact O3
        | false =>
          have hst2:candL ps nm ds (List.take (j+1) q.cl)=L++[((i:Int),F1)]:=by rw [HST.out,if_pos ⟨rfl,rfl⟩]
          clear HST
          go_wp2_with (first
            | (go_at_call 62;refine HF.out.mono ?_;rintro e w2 ⟨rfl,hb⟩;have B2:Hid (Below w1.heap.size w1 w2):=bstep hB.out hb;have O2:Hid (w2.ownsRow w1.heap.size 38 2 (.slice va L.length vn) L.length (flatD L)):=rowBelow hO.out hb;clear hb HF)
            | (go_at_call 101;refine (HS.out _ (B2.out.alloc B2.out.size _)).mono ?_;rintro e w3 ⟨rfl,hb⟩;have B3:Hid (Below w1.heap.size w1 w3):=bstep (B2.out.alloc B2.out.size _) hb;have O3:Hid (w3.ownsRow w1.heap.size 38 2 (.slice va L.length vn) L.length (flatD L)):=rowBelow (O2.out.alloc _) hb;have m0:w3.cell? ⟨w2.heap.size,0,none⟩=some (.int .i64 (i:Int)):=(hb.cell (p:=⟨w2.heap.size,0,none⟩) (by simp)).trans (by simp [go_sem]);have m1:w3.cell? ⟨w2.heap.size,1,none⟩=some (.int .i64 F1):=(hb.cell (p:=⟨w2.heap.size,1,none⟩) (by simp)).trans (by simp [go_sem]);clear hb HS)
            | (at_builtin;refine wpList_append_own _ rfl _ _ 53 rfl w1.heap.size 38 i0 (.agg #[.int .i64 0,.int .i64 0]) 2 16 Tryz.underlying53 hi0 hz0 hz1 hz2 rfl (by decide) (.slice va L.length vn) L.length (flatD L) rfl (O3.out.alloc _) ⟨w3.heap.size,0,none⟩ 1 1 [.int .i64 (i:Int),.int .i64 F1] rfl rfl ?c1 ?c2 ?c3 ?c4 ?c5 ?_))
          case c1=>intro jj u hj;rw [addr_add];match jj,hj with
            | 0,hj=>simp at hj;subst hj;simp [go_sem]
            | 1,hj=>simp at hj;subst hj;simp [go_sem]
            | (jj+2),hj=>simp at hj
          case c2=>intro u hu;simp at hu;rcases hu with rfl|rfl <;> rfl
          case c3=>unfold maxLen;omega
          case c4=>omega
          case c5=>have:=B3.out.size;simp;omega
          intro v' w4 hown hgrow _
          obtain ⟨va2,vn2,rfl⟩:=ownv hown
          have B4:Hid (Below w1.heap.size w1 w4):=by
            have hb1:Below w1.heap.size w1 (w3.alloc (.cells #[.int .i64 (i:Int),.int .i64 F1] 38)):=B3.out.alloc B3.out.size _
            refine hb1.grown hgrow hb1.size (fun x hx=>?_)
            have:=(O3.out.lt x hx).1
            omega
          have O4:Hid (w4.ownsRow w1.heap.size 38 2 (.slice va2 (L.length+1) vn2) (L++[((i:Int),F1)]).length (flatD (L++[((i:Int),F1)]))):=by
            rw [Hid,List.length_append,flatD_app];exact hown
          go_wp2
          refine ⟨⟨j+1,by simp,by omega,?_,B4⟩,by simp [intOf];omega⟩
          rw [hst2];exact O4
      · have hst2:candL ps nm ds (List.take (j+1) q.cl)=L:=by rw [HST.out,if_neg (fun h=>hF h.1)];simp
        clear HST
        go_wp2_with (first
          | (go_at_call 62;refine HF.out.mono ?_;rintro e w2 ⟨rfl,hb⟩;have B2:Hid (Below w1.heap.size w1 w2):=bstep hB.out hb;have O2:Hid (w2.ownsRow w1.heap.size 38 2 (.slice va L.length vn) L.length (flatD L)):=rowBelow hO.out hb;clear hb HF))
        refine ⟨⟨j+1,by simp,by omega,?_,B2.out.alloc B2.out.size _⟩,by simp [intOf];omega⟩
        rw [hst2];exact O2.out.alloc _
    · have e:j=K:=by omega
      subst e
      have HE:Hid (candL ps nm ds (q.cl.take j)=candL ps nm ds q.cl):=by rw [Hid,List.take_of_length_le (by rw [HK.out];exact Nat.le_refl _)]
      rw [HE.out] at hO
      obtain ⟨va,vn,rfl⟩:=ownv hO.out
      go_wp2
      exact bodyPost_ret (results_tmp2 rfl _ _ _) rfl ⟨⟨_,rfl,Go.Joins.ownsRow_le hO.out B1.out.size⟩,B1.out.trans (hB.out.mono B1.out.size)⟩
theorem fnd_meth {ps:List Plc} {c:Int} {nm ds:ByteArray} (h:(fndI ps c nm ds).2=0):∃ x,methI ps c (fndI ps c nm ds).1=some x:=by
  rcases plcI_cases ps c with ⟨h1,h2⟩|⟨k,q,rfl,h2,h1⟩
  · rw [fndI,h1] at h;exact absurd h (by show ¬ (3:Int)=0;decide)
  · have e:fndI ps k nm ds=if findH nm ds q.c.ms 0<0 then (0,6) else (findH nm ds q.c.ms 0,0):=by rw [fndI,h1]
    rw [e] at h ⊢
    rcases findH_range nm ds q.c.ms 0 with e2|⟨j,x,e2,hj,hn,hd⟩
    · rw [e2,if_pos (by decide)] at h;exact absurd h (by decide)
    · rw [e2,if_neg (by omega)]
      refine ⟨x,?_⟩
      rw [methI,h1]
      show methP q ((0+j:Nat):Int)=some x
      rw [methP,if_pos (Int.natCast_nonneg _)]
      simpa using hj
theorem has10 (f:Int):hasI f 10=(hasI f 2||hasI f 8):=by
  have e10:bits .and .i64 f 10=IntKind.wrap .i64 (((BitVec.ofInt 64 f).toNat &&& 10:Nat):Int):=rfl
  have e2:bits .and .i64 f 2=IntKind.wrap .i64 (((BitVec.ofInt 64 f).toNat &&& 2:Nat):Int):=rfl
  have e8:bits .and .i64 f 8=IntKind.wrap .i64 (((BitVec.ofInt 64 f).toNat &&& 8:Nat):Int):=rfl
  have h:(BitVec.ofInt 64 f).toNat &&& 10=((BitVec.ofInt 64 f).toNat &&& 2) ||| ((BitVec.ofInt 64 f).toNat &&& 8):=by
    rw [← Nat.and_or_distrib_left];rfl
  unfold hasI
  rw [e10,e2,e8,h]
  have h2:(BitVec.ofInt 64 f).toNat &&& 2≤2:=Nat.and_le_right
  have h2':((BitVec.ofInt 64 f).toNat &&& 2) &&& 2=(BitVec.ofInt 64 f).toNat &&& 2:=by rw [Nat.and_assoc,Nat.and_self]
  have h8:(BitVec.ofInt 64 f).toNat &&& 8≤8:=Nat.and_le_right
  have h8':((BitVec.ofInt 64 f).toNat &&& 8) &&& 8=(BitVec.ofInt 64 f).toNat &&& 8:=by rw [Nat.and_assoc,Nat.and_self]
  generalize (BitVec.ofInt 64 f).toNat &&& 2=a at *
  generalize (BitVec.ofInt 64 f).toNat &&& 8=b at *
  have ha:a=0∨a=2:=by
    have:a=0∨a=1∨a=2:=by omega
    rcases this with rfl|rfl|rfl
    · exact .inl rfl
    · exact absurd h2' (by decide)
    · exact .inr rfl
  have hb:b=0∨b=8:=by
    have:b=0∨b=1∨b=2∨b=3∨b=4∨b=5∨b=6∨b=7∨b=8:=by omega
    rcases this with rfl|rfl|rfl|rfl|rfl|rfl|rfl|rfl|rfl
    · exact .inl rfl
    all_goals first|exact .inr rfl|exact absurd h8' (by decide)
  rcases ha with rfl|rfl <;> rcases hb with rfl|rfl <;> decide
theorem RAt.flag {b:Nat} {cs:List Cls} {ps:List Plc} {w:World} (h:RAt b cs w) (ht:TwW cs ps) {k:Nat} {i:Int} {x:HM} (hx:methI ps (k:Int) i=some x):∃ (g cap bk o n cm j:Nat),i=(j:Int)∧w.cell? ⟨b,0,none⟩=some (.slice (some ⟨g,0,none⟩) cs.length cap)∧b<w.heap.size∧g<w.heap.size∧(k:Int)<(cs.length:Int)∧w.cell? ⟨g,k * 6+5,none⟩=some (.slice (some ⟨bk,o,none⟩) n cm)∧bk<w.heap.size∧(j:Int)<(n:Int)∧w.cell? ⟨bk,o+j * 6+2,none⟩=some (.int .i64 x.fl):=by
  obtain ⟨k',q,hk,hq,_,hm⟩:=meth_plc hx
  have:k=k':=by omega
  subst this
  obtain ⟨c,hc,hcq⟩:=ht.tw.at' hq
  obtain ⟨g,cap,vi,vm,b0,hlt,hgl,c0,c1,c2,c3,c4,c5,hIs,hMs⟩:=RAt.cells h hc
  unfold methP at hm
  split at hm
  · rename_i hi
    have hms:q.c.ms=c.ms.map hmOf:=by rw [hcq];rfl
    rw [hms,List.getElem?_map] at hm
    cases e:c.ms[i.toNat]? with
    | none=>rw [e] at hm;cases hm
    | some m =>
      rw [e] at hm
      cases hm
      have hil:=(List.getElem?_eq_some_iff.1 e).1
      obtain ⟨ao,cm,rfl,h1,h2,h3⟩:=hMs
      obtain ⟨bk,o,rfl,hbk,hat⟩:=h3 (by intro h0;rw [h0] at hil;simp at hil)
      have hM:=hat i.toNat m e
      have hkl:=(List.getElem?_eq_some_iff.1 hc).1
      exact ⟨g,cap,bk,o,c.ms.length,cm,i.toNat,by omega,b0,hlt,hgl,by omega,c5,hbk,by omega,hM.2.2.1⟩
  · cases hm
set_option maxHeartbeats 4000000 in
theorem rCand_yes {b:Nat} {cs:List Cls} {ps:List Plc} {W:World} (h:RAt b cs W) (ht:TwW cs ps) (hJ:WJ ps) (k:Nat) (q:Plc) (hq:ps[k]?=some q) (nm ds:ByteArray):Calls Tryz.prog 38 #[.pointer (some ⟨b,0,none⟩),.int .i64 (k:Int),.string nm,.string ds] W fun e w'=>(∃ v,e=.returned (.tuple #[v,.int .i64 0])∧w'.ownsRow W.heap.size 38 2 v (candL ps nm ds q.cl).length (flatD (candL ps nm ds q.cl)))∧Below W.heap.size W w':=by
  obtain ⟨i0,hi0,hz0,hz1,hz2⟩:=info_parts Tryz.hinfoD
  have HW0:Hid (RAt b cs W):=h
  have HTW:Hid (TwW cs ps):=ht
  obtain ⟨K,hK⟩:∃ K,q.cl.length=K:=⟨_,rfl⟩
  have HK:Hid (q.cl.length=K):=hK
  have hKb:K≤300:=by
    have:=nodup_lt_len k q.cl (by have:=cl_nodup ht.wi.wo k;rw [clO,nd_at' hq] at this;exact this) (fun i hi=>(cl_facts ht.wi.wo (a:=k) (by rw [clO,nd_at' hq];exact hi)).1)
    have:=ht.wi.hi
    have:=(List.getElem?_eq_some_iff.1 hq).1
    omega
  have HC:Hid (∀ w,Below W.heap.size W w→Calls Tryz.prog 102 #[.pointer (some ⟨b,0,none⟩),.int .i64 (k:Int)] w fun e w'=>(∃ v,e=.returned (.tuple #[v,.int .i64 0])∧w'.ownsRow w.heap.size 3 1 v q.cl.length (q.cl.map numV))∧Below w.heap.size w w'):=fun w hb=>rClosure_yes (h.below hb) ht hJ k q hq
  clear h ht hJ hq hK
  go_enter Tryz.func38,Tryz.ntmps38
  go_wp2_with (first
    | (go_at_call 102;refine (HC.out _ (Below.refl _ _)).mono ?_;rintro e w1 ⟨⟨v,rfl,ho⟩,hb⟩;rw [HK.out] at ho;obtain ⟨ca,cc,rfl⟩:=ownv ho;have O1:Hid (w1.ownsRow W.heap.size 3 1 (.slice ca K cc) K (q.cl.map numV)):=ho;have B1:Hid (Below W.heap.size W w1):=hb;have HW1:Hid (RAt b cs w1):=HW0.out.below hb;clear ho hb HC))
  go_loopw [12,13] (fun sv kv wr=>∃ (j:Nat),kv=.int .i64 j∧j≤K∧Hid (wr.ownsRow w1.heap.size 38 2 sv (candL ps nm ds (q.cl.take j)).length (flatD (candL ps nm ds (q.cl.take j))))∧Hid (Below w1.heap.size w1 wr)) (fun _ kv _=>K - (intOf kv).toNat)
  case atStart=>exact ⟨0,rfl,Nat.zero_le _,World.ownsRow_nil _ _ _ _,Below.refl _ _⟩
  case round =>
    obtain ⟨j,rfl,hj,hO,hB⟩:=hrel
    by_cases hlt:j<K
    · have hjl:j<q.cl.length:=by rw [HK.out];exact hlt
      obtain ⟨i,hi⟩:∃ i,q.cl[j]?=some i:=⟨_,List.getElem?_eq_getElem hjl⟩
      obtain ⟨g,c2,hform⟩:=Go.Joins.ownsRow_form O1.out (by omega)
      have hce:w1.cell? ⟨g,j,none⟩=some (.int .i64 (i:Int)):=by
        have hrow:=O1.out
        rw [hform] at hrow
        rw [hrow.cellAt j (by omega),List.getElem?_map,hi];rfl
      injection hform with hca _ hcc
      subst hca hcc
      have hgl:g<w1.heap.size:=World.block_lt_of_cell? w1 _ hce
      have hcr:=(hB.out.cell (p:=⟨g,j,none⟩) hgl).trans hce
      have hgr:g<wr.heap.size:=Nat.lt_of_lt_of_le hgl hB.out.size
      have hst:=candL_take (ps:=ps) (nm:=nm) (ds:=ds) hi
      have hal:(candL ps nm ds (q.cl.take j)).length≤300:=by
        have:=candL_len ps nm ds (q.cl.take j)
        rw [List.length_take] at this
        omega
      have HRr:Hid (RAt b cs wr):=HW1.out.below hB.out
      have HF:Hid (Calls Tryz.prog 103 #[.pointer (some ⟨b,0,none⟩),.int .i64 (i:Int),.string nm,.string ds] wr fun e w'=>e=.returned (.tuple #[.int .i64 (fndI ps i nm ds).1,.int .i64 (fndI ps i nm ds).2])∧Below wr.heap.size wr w'):=rFind_c HRr.out HTW.out i nm ds
      have hfl:(fndI ps i nm ds).2=0→∃ x,methI ps (i:Int) (fndI ps i nm ds).1=some x∧hasS ps i (fndI ps i nm ds).1 10=(hasI x.fl 2||hasI x.fl 8):=fun h0=>by
        obtain ⟨x,hx⟩:=fnd_meth h0
        exact ⟨x,hx,by rw [hasS,hx];exact has10 _⟩
      rw [cand1] at hst
      obtain ⟨L,hL⟩:∃ L,candL ps nm ds (q.cl.take j)=L:=⟨_,rfl⟩
      rw [hL] at hst hal hO
      obtain ⟨va,vn,rfl⟩:=ownv hO.out
      generalize fndI ps i nm ds=F at *
      obtain ⟨F1,F2⟩:=F
      simp only at hst HF hfl
      generalize hasS ps i F1 10=S at *
      clear hce hi hjl hL
      have HST:Hid (candL ps nm ds (List.take (j+1) q.cl)=L++if F2=0∧S=false then [((i:Int),F1)] else []):=hst
      clear hst
      by_cases hF:F2=0
      · subst hF
        obtain ⟨x,hx,hS⟩:=hfl rfl
        have H2:Hid (∀ w:World,Calls Tryz.prog 85 #[.int .i64 x.fl,.int .i64 2] w fun e w'=>e=.returned (.bool (hasI x.fl 2))∧w'=w):=has_any x.fl 2
        have H8:Hid (∀ w:World,Calls Tryz.prog 85 #[.int .i64 x.fl,.int .i64 8] w fun e w'=>e=.returned (.bool (hasI x.fl 8))∧w'=w):=has_any x.fl 8
        have HFL:Hid (∀ w,RAt b cs w→∃ (g cap bk o n cm j:Nat),F1=(j:Int)∧w.cell? ⟨b,0,none⟩=some (.slice (some ⟨g,0,none⟩) cs.length cap)∧b<w.heap.size∧g<w.heap.size∧(i:Int)<(cs.length:Int)∧w.cell? ⟨g,i * 6+5,none⟩=some (.slice (some ⟨bk,o,none⟩) n cm)∧bk<w.heap.size∧(j:Int)<(n:Int)∧w.cell? ⟨bk,o+j * 6+2,none⟩=some (.int .i64 x.fl)):=fun w hw=>hw.flag HTW.out hx
        generalize x.fl=fl at *
        generalize hasI fl 2=z2 at *
        generalize hasI fl 8=z8 at *
        clear hx hfl
        go_wp2_with (first
          | (go_at_call 103;refine HF.out.mono ?_;rintro e w2 ⟨rfl,hb⟩;have B2:Hid (Below w1.heap.size w1 w2):=bstep hB.out hb;have O2:Hid (w2.ownsRow w1.heap.size 38 2 (.slice va L.length vn) L.length (flatD L)):=rowBelow hO.out hb;have hcr2:w2.cell? ⟨g,j,none⟩=some (.int .i64 (i:Int)):=(hb.cell (p:=⟨g,j,none⟩) hgr).trans hcr;have HR2:Hid (RAt b cs w2):=HRr.out.below hb;clear hb HF hcr))
        obtain ⟨g9,cap9,bk9,o9,n9,cm9,j9,rfl,c91,c92,c93,c94,c95,c96,c97,c98⟩:=HFL.out _ HR2.out
        go_region
        have O3:Hid (w2.drew.ownsRow w1.heap.size 38 2 (.slice va L.length vn) L.length (flatD L)):=rowBelow O2.out ((Below.refl _ _).drew)
        have B3:Hid (Below w1.heap.size w1 w2.drew):=B2.out.drew
        have hcr3:w2.drew.cell? ⟨g,j,none⟩=some (.int .i64 (i:Int)):=(((Below.refl w2.heap.size w2).drew).cell (p:=⟨g,j,none⟩) (World.block_lt_of_cell? w2 _ hcr2)).trans hcr2
        have hgl3:g<w2.drew.heap.size:=World.block_lt_of_cell? _ _ hcr3
        generalize w2.drew=w3 at *
        have hgn3:¬ g=w3.heap.size:=by omega
        clear c91 c92 c93 c94 c95 c96 c97 c98 O2 B2 hcr2 HR2 HFL HRr
        cases z2 with
        | true =>
          have hst2:candL ps nm ds (List.take (j+1) q.cl)=L:=by rw [HST.out,hS,if_neg (by simp)];simp
          clear HST
          go_wp2_with (first
            | (go_at_call 85;refine (H2.out _).mono ?_;rintro e w9 ⟨rfl,hw9⟩;rw [hw9];clear hw9 w9))
          refine ⟨⟨j+1,by simp,by omega,?_,B3⟩,by simp [intOf];omega⟩
          rw [hst2];exact O3
        | false=>cases z8 with
          | true =>
            have hst2:candL ps nm ds (List.take (j+1) q.cl)=L:=by rw [HST.out,hS,if_neg (by simp)];simp
            clear HST
            go_wp2_with (first
              | (go_at_call 85;refine (H2.out _).mono ?_;rintro e w9 ⟨rfl,hw9⟩;rw [hw9];clear hw9 w9 H2)
              | (go_at_call 85;refine (H8.out _).mono ?_;rintro e w9 ⟨rfl,hw9⟩;rw [hw9];clear hw9 w9))
            refine ⟨⟨j+1,by simp,by omega,?_,B3⟩,by simp [intOf];omega⟩
            rw [hst2];exact O3
          | false =>
            have hst2:candL ps nm ds (List.take (j+1) q.cl)=L++[((i:Int),(j9:Int))]:=by rw [HST.out,hS,if_pos (by simp)]
            clear HST
            go_wp2_with (first
              | (go_at_call 85;refine (H2.out _).mono ?_;rintro e w9 ⟨rfl,hw9⟩;rw [hw9];clear hw9 w9 H2)
              | (go_at_call 85;refine (H8.out _).mono ?_;rintro e w9 ⟨rfl,hw9⟩;rw [hw9];clear hw9 w9)
              | (at_builtin;refine wpList_append_own _ rfl _ _ 53 rfl w1.heap.size 38 i0 (.agg #[.int .i64 0,.int .i64 0]) 2 16 Tryz.underlying53 hi0 hz0 hz1 hz2 rfl (by decide) (.slice va L.length vn) L.length (flatD L) rfl (O3.out.alloc _) ⟨w3.heap.size,0,none⟩ 1 1 [.int .i64 (i:Int),.int .i64 (j9:Int)] rfl rfl ?c1 ?c2 ?c3 ?c4 ?c5 ?_))
            case c1=>intro jj u hj;rw [addr_add];match jj,hj with
              | 0,hj=>simp at hj;subst hj;simp [go_sem]
              | 1,hj=>simp at hj;subst hj;simp [go_sem]
              | (jj+2),hj=>simp at hj
            case c2=>intro u hu;simp at hu;rcases hu with rfl|rfl <;> rfl
            case c3=>unfold maxLen;omega
            case c4=>omega
            case c5=>have:=B3.out.size;simp;omega
            intro v' w4 hown hgrow _
            obtain ⟨va2,vn2,rfl⟩:=ownv hown
            have B4:Hid (Below w1.heap.size w1 w4):=by
              have hb1:Below w1.heap.size w1 (w3.alloc (.cells #[.int .i64 (i:Int),.int .i64 (j9:Int)] 38)):=B3.out.alloc B3.out.size _
              refine hb1.grown hgrow hb1.size (fun x hx=>?_)
              have:=(O3.out.lt x hx).1
              omega
            have O4:Hid (w4.ownsRow w1.heap.size 38 2 (.slice va2 (L.length+1) vn2) (L++[((i:Int),(j9:Int))]).length (flatD (L++[((i:Int),(j9:Int))]))):=by
              rw [Hid,List.length_append,flatD_app];exact hown
            go_wp2
            refine ⟨⟨j+1,by simp,by omega,?_,B4⟩,by simp [intOf];omega⟩
            rw [hst2];exact O4
      · have hst2:candL ps nm ds (List.take (j+1) q.cl)=L:=by rw [HST.out,if_neg (fun h=>hF h.1)];simp
        clear HST hfl
        go_wp2_with (first
          | (go_at_call 103;refine HF.out.mono ?_;rintro e w2 ⟨rfl,hb⟩;have B2:Hid (Below w1.heap.size w1 w2):=bstep hB.out hb;have O2:Hid (w2.ownsRow w1.heap.size 38 2 (.slice va L.length vn) L.length (flatD L)):=rowBelow hO.out hb;clear hb HF))
        refine ⟨⟨j+1,by simp,by omega,?_,B2⟩,by simp [intOf];omega⟩
        rw [hst2];exact O2
    · have e:j=K:=by omega
      subst e
      have HE:Hid (candL ps nm ds (q.cl.take j)=candL ps nm ds q.cl):=by rw [Hid,List.take_of_length_le (by rw [HK.out];exact Nat.le_refl _)]
      rw [HE.out] at hO
      obtain ⟨va,vn,rfl⟩:=ownv hO.out
      go_wp2
      exact bodyPost_ret (results_tmp2 rfl _ _ _) rfl ⟨⟨_,rfl,Go.Joins.ownsRow_le hO.out B1.out.size⟩,B1.out.trans (hB.out.mono B1.out.size)⟩
def idxP (p:Int×Int→Bool):List (Int×Int)→Nat→Int
  | [],_=>-1
  | m::r,k=>if p m then (k:Int) else idxP p r (k+1)
theorem idxP_at {p:Int×Int→Bool} {l:List (Int×Int)} (k:Nat) (x:Int×Int) (h:l[k]?=some x):idxP p (l.drop k) k=if p x then (k:Int) else idxP p (l.drop (k+1)) (k+1):=by
  obtain ⟨h1,h2⟩:=List.getElem?_eq_some_iff.1 h
  rw [List.drop_eq_getElem_cons h1,h2,idxP]
theorem idxP_range (p:Int×Int→Bool):∀ (l:List (Int×Int)) (k:Nat),(idxP p l k=-1∧l.any p=false)∨∃ j:Nat,idxP p l k=((k+j:Nat):Int)∧j<l.length∧l.any p=true∧(∀ m∈l.take j,p m=false)∧∃ m,l[j]?=some m∧p m=true
  | [],_=>.inl ⟨rfl,rfl⟩
  | m::r,k=>by
    rw [idxP]
    cases e:p m with
    | true=>exact .inr ⟨0,by simp,by simp,by simp [e],by simp,m,rfl,e⟩
    | false =>
      rcases idxP_range p r (k+1) with ⟨h,h2⟩|⟨j,h,hj,h2,h3,x,h4,h5⟩
      · exact .inl ⟨by simpa using h,by simp [e,h2]⟩
      · refine .inr ⟨j+1,by simp only [Bool.false_eq_true,if_false];rw [h];congr 1;omega,by simp;omega,by simp [h2],?_,x,by rw [List.getElem?_cons_succ];exact h4,h5⟩
        intro y hy
        rw [List.take_succ_cons] at hy
        rcases List.mem_cons.1 hy with rfl|hy
        · exact e
        · exact h3 y hy
def PredD (g:Nat) (cb:Array Value) (p:Int×Int→Bool) (l:List (Int×Int)) (N:Nat) (W:World):Prop:=∀ m∈l,∀ w,Below N W w→Calls Tryz.prog g (#[.agg #[.int .i64 m.1,.int .i64 m.2]]++cb) w fun e w'=>e=.returned (.bool (p m))∧Below w.heap.size w w'
theorem rowD_cells {w:World} {N:Nat} {l:List (Int×Int)} {g cap:Nat} (h:w.ownsRow N 38 2 (.slice (some ⟨g,0,none⟩) l.length cap) l.length (flatD l)) {i:Nat} {x:Int×Int} (hx:l[i]?=some x):w.cell? ⟨g,i * 2,none⟩=some (.int .i64 x.1)∧w.cell? ⟨g,i * 2+1,none⟩=some (.int .i64 x.2)∧g<w.heap.size:=by
  have hi:=(List.getElem?_eq_some_iff.1 hx).1
  obtain ⟨h1,h2⟩:=flatD_at l i x hx
  have c0:w.cell? ⟨g,i * 2,none⟩=some (.int .i64 x.1):=(h.cellAt (i * 2) (by omega)).trans h1
  exact ⟨c0,(h.cellAt (i * 2+1) (by omega)).trans h2,World.block_lt_of_cell? w _ c0⟩
set_option maxHeartbeats 4000000 in
theorem idxD_any (g:Nat) (eg:∀ args w,(callFunc g args).run Tryz.prog w=.ok (.enter g args) w) (cb:Array Value) (p:Int×Int→Bool) (N:Nat) (l:List (Int×Int)) (v:Value) (W:World) (h:W.ownsRow N 38 2 v l.length (flatD l)) (hn:l.length≤1000000) (hp:PredD g cb p l W.heap.size W) :
    Calls Tryz.prog 173 #[v,.func (.func g) #[] cb] W fun e w'=>e=.returned (.int .i64 (idxP p l 0))∧Below W.heap.size W w':=by
  obtain ⟨ao,cap,rfl⟩:=ownv h
  obtain ⟨K,hK⟩:∃ K,l.length=K:=⟨_,rfl⟩
  have HA:Hid (W.ownsRow N 38 2 (.slice ao l.length cap) l.length (flatD l)):=h
  have HK:Hid (l.length=K):=hK
  have HP:Hid (PredD g cb p l W.heap.size W):=hp
  rw [hK] at hn ⊢
  clear hK h hp
  go_enter Tryz.func173,Tryz.ntmps173
  go_wp2
  go_loopw [8] (fun iv wr=>∃ i:Nat,iv=.int .i64 i∧i≤K∧Hid (Below W.heap.size W wr)∧Hid (idxP p (l.drop i) i=idxP p l 0)) (fun iv _=>K - (intOf iv).toNat)
  case atStart=>exact ⟨0,rfl,Nat.zero_le _,Below.refl _ _,rfl⟩
  case round =>
    obtain ⟨i,rfl,hi,hb,hs⟩:=hrel
    by_cases hlt:i<K
    · have hlq:i<l.length:=by rw [HK.out];exact hlt
      obtain ⟨x,hx⟩:∃ x,l[i]?=some x:=⟨_,List.getElem?_eq_getElem hlq⟩
      obtain ⟨gm,cm,hform⟩:=Go.Joins.ownsRow_form HA.out (by omega)
      have hrow:=HA.out
      rw [hform] at hrow
      obtain ⟨e0,e1,hgl⟩:=rowD_cells hrow hx
      replace e0:=(hb.out.cell (p:=⟨gm,i * 2,none⟩) hgl).trans e0
      replace e1:=(hb.out.cell (p:=⟨gm,i * 2+1,none⟩) hgl).trans e1
      injection hform with hao _ hcap
      subst hao hcap
      have hst:=idxP_at (p:=p) i x hx
      rw [hs.out] at hst
      have HC:Hid (Calls Tryz.prog g (#[.agg #[.int .i64 x.1,.int .i64 x.2]]++cb) wr fun e w'=>e=.returned (.bool (p x))∧Below wr.heap.size wr w'):=HP.out x (List.mem_of_getElem? hx) wr hb.out
      generalize p x=q at *
      obtain ⟨x1,x2⟩:=x
      simp only at e0 e1 HC
      clear hs HA hx hrow hlq HP
      cases q with
      | true =>
        have HZ:Hid (idxP p l 0=(i:Int)):=by rw [Hid,hst];rfl
        clear hst
        go_wp2_with (go_at_fn g;refine (HC.out).mono ?_;rintro e w1 ⟨rfl,hb1⟩)
        go_ret
        exact ⟨ret_int HZ.out.symm,Below.step hb.out hb1⟩
      | false =>
        have HZ:Hid (idxP p (l.drop (i+1)) (i+1)=idxP p l 0):=by rw [Hid,hst];rfl
        clear hst
        go_wp2_with (go_at_fn g;refine (HC.out).mono ?_;rintro e w1 ⟨rfl,hb1⟩;have hb2:Hid (Below W.heap.size W w1):=Below.step hb.out hb1;clear hb1)
        go_roundw
        case rel=>exact ⟨i+1,by go_num,by omega,hb2,HZ⟩
        case measure=>simp [intOf];omega
    · have e:i=K:=by omega
      subst e
      have HZ:Hid (idxP p l 0=-1):=by rw [Hid,← hs.out,List.drop_of_length_le (by rw [HK.out];exact Nat.le_refl _)];rfl
      clear hs HA HP
      go_wp2
      go_ret
      exact ⟨ret_int HZ.out.symm,hb.out⟩
theorem conD_any (g:Nat) (eg:∀ args w,(callFunc g args).run Tryz.prog w=.ok (.enter g args) w) (cb:Array Value) (p:Int×Int→Bool) (N:Nat) (l:List (Int×Int)) (v:Value) (W:World) (h:W.ownsRow N 38 2 v l.length (flatD l)) (hn:l.length≤1000000) (hp:PredD g cb p l W.heap.size W) :
    Calls Tryz.prog 107 #[v,.func (.func g) #[] cb] W fun e w'=>e=.returned (.bool (l.any p))∧Below W.heap.size W w':=by
  have HI:Hid (Calls Tryz.prog 173 #[v,.func (.func g) #[] cb] W fun e w'=>e=.returned (.int .i64 (idxP p l 0))∧Below W.heap.size W w'):=idxD_any g eg cb p N l v W h hn hp
  rcases idxP_range p l 0 with ⟨e,e2⟩|⟨j,e,_,e2,_⟩
  · rw [e] at HI
    rw [e2]
    obtain ⟨ao,cap,rfl⟩:=ownv h
    clear h hp e e2
    go_enter Tryz.func107,Tryz.ntmps107
    go_wp2_with (go_at_call 173;refine HI.out.mono ?_;rintro e w1 ⟨rfl,hb⟩;have B1:Hid (Below W.heap.size W w1):=hb;clear hb HI)
    exact bodyPost_ret (results_tmp rfl _ _ _) rfl ⟨rfl,B1.out⟩
  · rw [e,Nat.zero_add] at HI
    rw [e2]
    obtain ⟨ao,cap,rfl⟩:=ownv h
    clear h hp e e2
    go_enter Tryz.func107,Tryz.ntmps107
    go_wp2_with (go_at_call 173;refine HI.out.mono ?_;rintro e w1 ⟨rfl,hb⟩;have B1:Hid (Below W.heap.size W w1):=hb;clear hb HI)
    exact bodyPost_ret (results_tmp rfl _ _ _) rfl ⟨rfl,B1.out⟩
theorem zero2 (n:Nat):(Builtin.zeroCells #[.int .i64 0,.int .i64 0] n).toList=List.replicate (n * 2) (.int .i64 0):=by
  simp only [Builtin.zeroCells,Array.toList_map]
  apply List.ext_getElem
  · simp
  · intro i h1 h2
    simp
    rcases Nat.mod_two_eq_zero_or_one i with h|h <;> simp [h]
theorem run_clear2 (w:World) (ty:TypeId) (b o n c:Nat) (hn:0<n) (hc:∀ j,j<n * 2→(w.cell? ⟨b,o+j,none⟩).isSome=true) (hf:∀ j,w.frozen? ⟨b,o+j,none⟩=false) :
    (Builtin.clear_ #[53] ty #[.slice (some ⟨b,o,none⟩) n c]).run Tryz.prog w=.ok (.tuple #[]) (w.setCells b o (List.replicate (n * 2) (.int .i64 0))):=by
  have hst:=run_storeCells_cells (P:=Tryz.prog) b o (List.replicate (n * 2) (.int .i64 0)) 0 w (by simpa using hc) (by intro j _;simpa using hf j) (by intro v hv';rw [List.eq_of_mem_replicate hv'];rfl)
  simp only [Nat.add_zero] at hst
  have hz:(Value.agg #[.int .i64 0,.int .i64 0]).cells=#[.int .i64 0,.int .i64 0]:=by simp [Value.cells]
  obtain ⟨m,rfl⟩:∃ m,n=m+1:=⟨n - 1,by omega⟩
  simp [Builtin.clear_,run_underlying Tryz.underlying53,Tryz.zeroValue38,hz,zero2,hst]
theorem flatD_take:∀ (R:List (Int×Int)) (i:Nat),(flatD R).take (i * 2)=flatD (R.take i)
  | [],i=>by simp [flatD]
  | x::r,0=>by simp [flatD]
  | x::r,i+1=>by
    have e:flatD (x::r)=.int .i64 x.1::.int .i64 x.2::flatD r:=by simp [flatD]
    have e2:flatD ((x::r).take (i+1))=.int .i64 x.1::.int .i64 x.2::flatD (r.take i):=by simp [flatD]
    rw [e,e2,show (i+1) * 2=i * 2+1+1 by omega,List.take_succ_cons,List.take_succ_cons,flatD_take r i]
theorem flatD_set:∀ (R:List (Int×Int)) (i:Nat) (x:Int×Int),((flatD R).set (i * 2) (.int .i64 x.1)).set (i * 2+1) (.int .i64 x.2)=flatD (R.set i x)
  | [],i,x=>by simp [flatD]
  | y::r,0,x=>by simp [flatD]
  | y::r,i+1,x=>by
    have e:flatD (y::r)=.int .i64 y.1::.int .i64 y.2::flatD r:=by simp [flatD]
    have e2:flatD ((y::r).set (i+1) x)=.int .i64 y.1::.int .i64 y.2::flatD (r.set i x):=by simp [flatD]
    rw [e,e2,show (i+1) * 2=i * 2+1+1 by omega,List.set_cons_succ,List.set_cons_succ,List.set_cons_succ,List.set_cons_succ,flatD_set r i x]
theorem rowD_cut {w:World} {N:Nat} {R:List (Int×Int)} {g cap n i:Nat} (h:w.ownsRow N 38 2 (.slice (some ⟨g,0,none⟩) n cap) n (flatD R)) (hi:i≤n):w.ownsRow N 38 2 (.slice (some ⟨g,0,none⟩) i cap) i (flatD (R.take i)):=by
  have hl:=h.1
  rw [flatD_length] at hl
  refine ⟨by rw [flatD_length,List.length_take];omega,?_⟩
  rcases h.2 with ⟨e,_⟩|⟨g',cap',cur,e,h1,h2,h3,h4,h5,h6⟩
  · simp at e
  · simp only [Value.slice.injEq,Option.some.injEq,Addr.mk.injEq,and_true,true_and] at e
    obtain ⟨rfl,rfl⟩:=e
    refine .inr ⟨g,cap,cur,rfl,h1,h2,by omega,h4,h5,?_⟩
    rw [← flatD_take,← h6,List.take_take,Nat.min_eq_left (by omega)]
theorem rowD_clear {N i g cap:Nat} {xs:List Value}:∀ (vs:List Value) (o:Nat) (w:World),w.ownsRow N 38 2 (.slice (some ⟨g,0,none⟩) i cap) i xs→i * 2≤o→(w.setCells g o vs).ownsRow N 38 2 (.slice (some ⟨g,0,none⟩) i cap) i xs∧w.grownBy (w.setCells g o vs) (some g)
  | [],o,w,h,_=>⟨h,⟨rfl,rfl,rfl,Nat.le_refl _,fun _ _ _=>rfl⟩⟩
  | v::r,o,w,h,ho=>by
    obtain ⟨h1,h2⟩:=h.stored o v
    rw [List.set_eq_of_length_le (by rw [h.1];exact ho)] at h1
    obtain ⟨h3,h4⟩:=rowD_clear r (o+1) _ h1 (by omega)
    exact ⟨h3,h2.trans h4⟩
theorem eqNilD1 (w:World):(binOp .eql 53 (.slice none 0 0) (.slice none 0 0)).run Tryz.prog w=.ok (.bool true) w:=by
  have h:(Op.equalIn (9999+1) 53 (.slice none 0 0) (.slice none 0 0)).run Tryz.prog w=.ok true w:=by
    rw [Op.equalIn]
    simp [run_underlying Tryz.underlying53,go_sem]
  have h2:(Op.equal 53 (.slice none 0 0) (.slice none 0 0)).run Tryz.prog w=.ok true w:=h
  simp [binOp,h2,go_sem]
theorem eqNilD2 (g n cap:Nat) (w:World):(binOp .eql 53 (.slice (some ⟨g,0,none⟩) n cap) (.slice none 0 0)).run Tryz.prog w=.ok (.bool false) w:=by
  have h:(Op.equalIn (9999+1) 53 (.slice (some ⟨g,0,none⟩) n cap) (.slice none 0 0)).run Tryz.prog w=.ok false w:=by
    rw [Op.equalIn]
    simp [run_underlying Tryz.underlying53,go_sem]
  have h2:(Op.equal 53 (.slice (some ⟨g,0,none⟩) n cap) (.slice none 0 0)).run Tryz.prog w=.ok false w:=h
  simp [binOp,h2,go_sem]
set_option maxHeartbeats 1000000 in
theorem cloD_any (N:Nat) (l:List (Int×Int)) (v:Value) (W:World) (h:W.ownsRow N 38 2 v l.length (flatD l)) (hn:l.length≤1000000):Calls Tryz.prog 105 #[v] W fun e w'=>∃ v',e=.returned v'∧w'.ownsRow W.heap.size 38 2 v' l.length (flatD l)∧Below W.heap.size W w':=by
  obtain ⟨i0,hi0,hz0,hz1,hz2⟩:=info_parts Tryz.hinfoD
  have HR:Hid (∀ o,Rdw (W.alloc o) v l.length 2 (flatD l)):=fun o=>.inl (own_rds (h.alloc o))
  rcases h.2 with ⟨rfl,e⟩|⟨g,cap,cur,rfl,_⟩
  · have HE:Hid (W.ownsRow W.heap.size 38 2 (.slice none 0 0) l.length (flatD l)):=by
      have e2:l=[]:=List.length_eq_zero_iff.1 e
      rw [e2];exact World.ownsRow_nil _ _ _ _
    clear h e HR
    have G2:=eqNilD1
    go_enter Tryz.func105,Tryz.ntmps105
    go_wp2
    refine bodyPost_ret (results_tmp rfl _ _ _) rfl ⟨_,rfl,?_,Below.refl _ _⟩
    exact HE.out
  · have HO:Hid (∀ u∈flatD l,u.oneCell'=true):=flatD_one l
    obtain ⟨K,hK⟩:∃ K,l.length=K:=⟨_,rfl⟩
    rw [hK] at hn HR ⊢
    generalize flatD l=xs at *
    clear h hK
    have G2:=eqNilD2 g K cap
    go_enter Tryz.func105,Tryz.ntmps105
    go_wp2_with (at_builtin;refine wpList_append_rdw rfl _ _ 53 rfl W.heap.size 38 i0 (.agg #[.int .i64 0,.int .i64 0]) 2 16 Tryz.underlying53 hi0 hz0 hz1 hz2 rfl (by decide) (.slice (some ⟨W.heap.size,0,none⟩) 0 0) 0 [] rfl (own_empty _ _ rfl _ _ _ (Nat.le_refl _)) (.slice (some ⟨g,0,none⟩) K cap) K xs rfl (HR.out _) HO.out ?c1 ?c2 ?c3 ?_)
    case c1=>unfold maxLen;omega
    case c2=>omega
    case c3=>simp
    intro v' w2 hown hgrow
    obtain ⟨va2,vn2,rfl⟩:=ownv hown
    try simp only [Nat.zero_add] at hown
    try simp only [List.nil_append] at hown
    have B2:Hid (Below W.heap.size W w2):=by
      refine Below.grown (w:=_) ((Below.refl _ W).alloc (Nat.le_refl _) (.cells #[] 38)) hgrow (by simp) (fun x hx=>?_)
      simp [Value.ownBlock] at hx;omega
    have O2:Hid _:=hown
    clear hown hgrow
    go_wp2
    refine bodyPost_ret (results_tmp rfl _ _ _) rfl ⟨_,rfl,?_,B2.out⟩
    exact O2.out
structure DelR (p:Int×Int→Bool) (l R:List (Int×Int)) (i j:Nat):Prop where
  lt:i<j
  le:j≤l.length
  len:R.length=l.length
  pre:R.take i=(l.take j).filter (fun m=>!p m)
  suf:∀ k,j≤k→R[k]?=l[k]?
theorem DelR.start {p:Int×Int→Bool} {l:List (Int×Int)} {j:Nat} {m:Int×Int} (hm:l[j]?=some m) (hp:p m=true) (hl:∀ x∈l.take j,p x=false):DelR p l l j (j+1):=by
  have hj:=(List.getElem?_eq_some_iff.1 hm).1
  refine ⟨by omega,by omega,rfl,?_,fun _ _=>rfl⟩
  rw [List.take_add_one,hm,List.filter_append]
  have e1:(l.take j).filter (fun m=>!p m)=l.take j:=List.filter_eq_self.2 (fun x hx=>by rw [hl x hx];rfl)
  rw [e1];simp [hp]
theorem DelR.keep {p:Int×Int→Bool} {l R:List (Int×Int)} {i j:Nat} {x:Int×Int} (h:DelR p l R i j) (hx:l[j]?=some x) (hp:p x=false):DelR p l (R.set i x) (i+1) (j+1):=by
  have hj:=(List.getElem?_eq_some_iff.1 hx).1
  have h1:=h.lt
  have h2:=h.len
  refine ⟨by omega,by omega,by rw [List.length_set];exact h2,?_,fun k hk=>?_⟩
  · rw [List.take_add_one,List.take_add_one,hx,List.filter_append,← h.pre,List.getElem?_set_self (by omega),List.take_set_of_le (Nat.le_refl _)]
    simp [hp]
  · rw [List.getElem?_set_ne (by omega)];exact h.suf k (by omega)
theorem DelR.skip {p:Int×Int→Bool} {l R:List (Int×Int)} {i j:Nat} {x:Int×Int} (h:DelR p l R i j) (hx:l[j]?=some x) (hp:p x=true):DelR p l R i (j+1):=by
  have hj:=(List.getElem?_eq_some_iff.1 hx).1
  have h1:=h.lt
  refine ⟨by omega,by omega,h.len,?_,fun k hk=>h.suf k (by omega)⟩
  rw [List.take_add_one,hx,List.filter_append,← h.pre]
  simp [hp]
set_option maxHeartbeats 4000000 in
theorem delD_any (g:Nat) (eg:∀ args w,(callFunc g args).run Tryz.prog w=.ok (.enter g args) w) (cb:Array Value) (p:Int×Int→Bool) (N:Nat) (l:List (Int×Int)) (v:Value) (W:World) (h:W.ownsRow N 38 2 v l.length (flatD l)) (hN:N≤W.heap.size) (hn:l.length≤1000000) (hp:PredD g cb p l N W) :
    Calls Tryz.prog 104 #[v,.func (.func g) #[] cb] W fun e w'=>∃ v',e=.returned v'∧w'.ownsRow N 38 2 v' (l.filter (fun m=>!p m)).length (flatD (l.filter (fun m=>!p m)))∧Below N W w':=by
  have HI:Hid (Calls Tryz.prog 173 #[v,.func (.func g) #[] cb] W fun e w'=>e=.returned (.int .i64 (idxP p l 0))∧Below W.heap.size W w'):=idxD_any g eg cb p N l v W h hn (fun m hm w hb=>hp m hm w (hb.mono hN))
  rcases idxP_range p l 0 with ⟨e1,e2⟩|⟨j0,e1,hj0,e2,hpre,m0,hm0,hpm⟩
  · rw [e1] at HI
    have e3:l.filter (fun m=>!p m)=l:=List.filter_eq_self.2 (fun x hx=>by
      rw [List.any_eq_false] at e2
      have:=e2 x hx
      simpa using this)
    rw [e3]
    have HA:Hid (W.ownsRow N 38 2 v l.length (flatD l)):=h
    obtain ⟨ao,cap,rfl⟩:=ownv h
    clear h hp e1 e2 e3
    go_enter Tryz.func104,Tryz.ntmps104
    go_wp2_with (go_at_call 173;refine HI.out.mono ?_;rintro e w1 ⟨rfl,hb⟩;have B1:Hid (Below W.heap.size W w1):=hb;clear hb HI)
    refine bodyPost_ret (results_tmp rfl _ _ _) rfl ⟨_,rfl,?_,B1.out.mono hN⟩
    exact rowBelow HA.out B1.out
  · rw [e1,Nat.zero_add] at HI
    obtain ⟨gm,cap,hform⟩:=Go.Joins.ownsRow_form h (by omega)
    subst hform
    have HA:Hid (W.ownsRow N 38 2 (.slice (some ⟨gm,0,none⟩) l.length cap) l.length (flatD l)):=h
    have hcap:l.length≤cap:=by
      rcases h.2 with ⟨e,_⟩|⟨g',cap',cur,e,_,_,h3,_⟩
      · simp at e
      · simp only [Value.slice.injEq,Option.some.injEq,Addr.mk.injEq,and_true,true_and] at e
        obtain ⟨rfl,rfl⟩:=e
        exact h3
    have hgN:N≤gm:=(h.lt gm rfl).1
    have HP:Hid (PredD g cb p l N W):=hp
    have HD0:Hid (DelR p l l j0 (j0+1)):=DelR.start hm0 hpm hpre
    obtain ⟨K,hK⟩:∃ K,l.length=K:=⟨_,rfl⟩
    have HK:Hid (l.length=K):=hK
    rw [hK] at hn hj0 hcap HI ⊢
    clear h hp e1 e2 hpre hm0 hpm hK
    have hne:((j0:Int) == -1)=false:=beq_eq_false_iff_ne.2 (by omega)
    go_enter Tryz.func104,Tryz.ntmps104
    go_wp2_with (go_at_call 173;refine HI.out.mono ?_;rintro e w1 ⟨rfl,hb⟩;have B1:Hid (Below W.heap.size W w1):=hb;clear hb HI)
    go_loopw [5,6] (fun iv jv wr=>∃ (i j:Nat) (R:List (Int×Int)),iv=.int .i64 i∧jv=.int .i64 j∧i<j∧j≤K∧Hid (DelR p l R i j)∧Hid (wr.ownsRow N 38 2 (.slice (some ⟨gm,0,none⟩) K cap) K (flatD R))∧Hid (Below N W wr)) (fun _ jv _=>K - (intOf jv).toNat)
    case atStart=>exact ⟨j0,j0+1,l,rfl,by go_num,by omega,by omega,HD0,by have:=rowBelow HA.out B1.out;rw [HK.out] at this;exact this,B1.out.mono hN⟩
    case round =>
      obtain ⟨i,j,R,rfl,rfl,hij,hjK,hD,hO,hB⟩:=hrel
      have hRK:R.length=K:=hD.out.len.trans HK.out
      have hrow:wr.ownsRow N 38 2 (.slice (some ⟨gm,0,none⟩) R.length cap) R.length (flatD R):=by rw [hRK];exact hO.out
      obtain ⟨y,hy⟩:∃ y,R[i]?=some y:=⟨_,List.getElem?_eq_getElem (by omega)⟩
      by_cases hlt:j<K
      · obtain ⟨x,hx⟩:∃ x,l[j]?=some x:=⟨_,List.getElem?_eq_getElem (by rw [HK.out];exact hlt)⟩
        obtain ⟨e0,e1,hgl⟩:=rowD_cells hrow ((hD.out.suf j (Nat.le_refl _)).trans hx)
        obtain ⟨y0,y1,_⟩:=rowD_cells hrow hy
        obtain ⟨cur,hcur⟩:=row_cur hrow
        have HX:Hid (l[j]?=some x):=hx
        have HC:Hid (∀ w,Below N W w→Calls Tryz.prog g (#[.agg #[.int .i64 x.1,.int .i64 x.2]]++cb) w fun e w'=>e=.returned (.bool (p x))∧Below w.heap.size w w'):=fun w hb=>HP.out x (List.mem_of_getElem? hx) w hb
        have Y0:Hid (wr.cell? ⟨gm,i * 2,none⟩=some (.int .i64 y.1)):=y0
        have Y1:Hid (wr.cell? ⟨gm,i * 2+1,none⟩=some (.int .i64 y.2)):=y1
        have HCU:Hid (wr.heap[gm]?=some (.cells cur 38 (0,0))):=hcur
        have hiK:(i:Int)<(K:Int):=by omega
        have hjI:(j:Int)<(K:Int):=by omega
        have hNw:N≤wr.heap.size:=Nat.le_trans hN hB.out.size
        have hnw:¬ gm=wr.heap.size:=by omega
        obtain ⟨q,hq⟩:∃ q,p x=q:=⟨_,rfl⟩
        have HQ:Hid (p x=q):=hq
        rw [hq] at HC
        clear hx hrow hy y0 y1 hcur hq HP HA HD0 B1
        obtain ⟨x1,x2⟩:=x
        simp only at e0 e1 HC
        cases q with
        | false =>
          go_wp2_with (go_at_fn g;refine (HC.out _ (hB.out.alloc hNw _)).mono ?_;rintro e w1 ⟨rfl,hb⟩;have O1:Hid (w1.ownsRow N 38 2 (.slice (some ⟨gm,0,none⟩) K cap) K (flatD R)):=rowBelow (hO.out.alloc _) hb;have B1:Hid (Below N W w1):=(hB.out.alloc hNw _).trans (hb.mono (by simp;omega));have m0:w1.cell? ⟨wr.heap.size,0,none⟩=some (.int .i64 x1):=(hb.cell (p:=⟨wr.heap.size,0,none⟩) (by simp)).trans (by simp [go_sem]);have m1:w1.cell? ⟨wr.heap.size,1,none⟩=some (.int .i64 x2):=(hb.cell (p:=⟨wr.heap.size,1,none⟩) (by simp)).trans (by simp [go_sem]);have z0:w1.cell? ⟨gm,i * 2,none⟩=some (.int .i64 y.1):=(hb.cell (p:=⟨gm,i * 2,none⟩) (by simp;omega)).trans (Lib.cell?_alloc_some _ Y0.out);have z1:w1.cell? ⟨gm,i * 2+1,none⟩=some (.int .i64 y.2):=(hb.cell (p:=⟨gm,i * 2+1,none⟩) (by simp;omega)).trans (Lib.cell?_alloc_some _ Y1.out);have hcu:w1.heap[gm]?=some (.cells cur 38 (0,0)):=(hb.block gm (by simp;omega)).trans ((((Below.refl _ wr).alloc (Nat.le_refl _) _).block gm hgl).trans HCU.out);have f0:=frozen_of_row w1 gm (i * 2) _ _ hcu;have f1:=frozen_of_row w1 gm (i * 2+1) _ _ hcu;clear hb hcu HC e0 e1 Y0 Y1 HCU)
          have O2:Hid (((w1.setCell ⟨gm,i * 2,none⟩ (.int .i64 x1)).setCell ⟨gm,i * 2+1,none⟩ (.int .i64 x2)).ownsRow N 38 2 (.slice (some ⟨gm,0,none⟩) K cap) K (flatD (R.set i (x1,x2)))):=by
            obtain ⟨s0,_⟩:=O1.out.stored (i * 2) (.int .i64 x1)
            obtain ⟨s1,_⟩:=s0.stored (i * 2+1) (.int .i64 x2)
            rw [flatD_set R i (x1,x2)] at s1
            exact s1
          have B2:Hid (Below N W ((w1.setCell ⟨gm,i * 2,none⟩ (.int .i64 x1)).setCell ⟨gm,i * 2+1,none⟩ (.int .i64 x2))):=(B1.out.setCell hgN _).setCell hgN _
          go_roundw
          case rel=>exact ⟨i+1,j+1,_,by go_num,by go_num,by omega,by omega,hD.out.keep HX.out HQ.out,O2,B2⟩
          case measure=>simp [intOf];omega
        | true =>
          go_wp2_with (go_at_fn g;refine (HC.out _ (hB.out.alloc hNw _)).mono ?_;rintro e w1 ⟨rfl,hb⟩;have O1:Hid (w1.ownsRow N 38 2 (.slice (some ⟨gm,0,none⟩) K cap) K (flatD R)):=rowBelow (hO.out.alloc _) hb;have B1:Hid (Below N W w1):=(hB.out.alloc hNw _).trans (hb.mono (by simp;omega));clear hb HC e0 e1 Y0 Y1 HCU)
          go_roundw
          case rel=>exact ⟨i,j+1,R,rfl,by go_num,by omega,by omega,hD.out.skip HX.out HQ.out,O1,B1⟩
          case measure=>simp [intOf];omega
      · obtain rfl:j=K:=by omega
        have hcl:∀ ty,(Builtin.clear_ #[53] ty #[.slice (some ⟨gm,i * 2,none⟩) (j - i) (cap - i)]).run Tryz.prog wr=.ok (.tuple #[]) (wr.setCells gm (i * 2) (List.replicate ((j - i) * 2) (.int .i64 0))):=fun ty=>by
          obtain ⟨cur,hcur⟩:=row_cur hrow
          refine run_clear2 wr ty gm (i * 2) (j - i) (cap - i) (by omega) (fun t ht=>?_) (fun t=>frozen_of_row wr gm _ _ _ hcur)
          rw [hrow.cellAt (i * 2+t) (by omega),List.getElem?_eq_getElem (by rw [flatD_length];omega)];rfl
        clear hrow hy
        have HF:Hid (l.filter (fun m=>!p m)=R.take i):=by rw [Hid,hD.out.pre,List.take_of_length_le (by rw [HK.out];exact Nat.le_refl _)]
        go_wp2
        refine bodyPost_ret (results_tmp rfl _ _ _) rfl ⟨.slice (some ⟨gm,0,none⟩) i cap,rfl,?_,?_⟩
        · rw [HF.out,List.length_take,hRK,Nat.min_eq_left (by omega)]
          exact (rowD_clear _ _ wr (rowD_cut hO.out (by omega)) (Nat.le_refl _)).1
        · refine hB.out.grown (rowD_clear _ _ wr (rowD_cut hO.out (Nat.le_of_lt hij)) (Nat.le_refl _)).2 (Nat.le_trans hN hB.out.size) (fun x hx=>?_)
          cases hx;exact hgN
theorem wld_wj (l:List Cls) (hl:∀ c∈l,ClsW c):WI (wld l)∧WJ (wld l):=wld_ind (P:=fun ps=>WI ps∧WJ ps) ⟨wi3,wj3⟩ (fun _ c h hc=>⟨h.1.define c hc,WJ.define h.1 h.2 c hc⟩) l hl
theorem cand_mem {ps:List Plc} {nm ds:ByteArray} {cl:List Nat} {m:Int×Int} (h:m∈candL ps nm ds cl):∃ i∈cl,m.1=(i:Int)∧fndI ps i nm ds=(m.2,0)∧hasS ps i m.2 10=false:=by
  rw [candL,List.mem_flatMap] at h
  obtain ⟨i,hi,hm⟩:=h
  rw [cand1] at hm
  split at hm
  next hc =>
    simp only [List.mem_singleton] at hm
    subst hm
    exact ⟨i,hi,rfl,Prod.ext rfl hc.1,hc.2⟩
  next=>simp at hm
def overB (ps:List Plc) (l:List (Int×Int)) (m:Int×Int):Bool:=l.any fun o=>!(o.1 == m.1)&&extI ps o.1 m.1
def maxL (ps:List Plc) (l:List (Int×Int)):List (Int×Int):=l.filter fun m=>!overB ps l m
theorem max_mem {ps:List Plc} {l:List (Int×Int)} {m:Int×Int} (h:m∈maxL ps l):m∈l:=(List.mem_filter.1 h).1
theorem extI_nat {ps:List Plc} {a b:Nat} (ha:a<ps.length) (hb:b<ps.length):extI ps (a:Int) (b:Int)=extB (ps.map nd) a b:=by
  rw [extI,plcI_nat,plcI_nat,List.getElem?_eq_getElem ha,List.getElem?_eq_getElem hb];rfl
theorem cand_facts {ps:List Plc} (hW:WI ps) {k:Nat} {q:Plc} (hq:ps[k]?=some q) {nm ds:ByteArray} {m:Int×Int} (h:m∈candL ps nm ds q.cl):(∃ i:Nat,m.1=(i:Int)∧i<ps.length)∧ifcI ps m.1=true∧extI ps (k:Int) m.1=true∧∃ x,methI ps m.1 m.2=some x∧x.nm.toList=nm.toList∧x.ds.toList=ds.toList∧hasI x.fl 10=false:=by
  obtain ⟨i,hi,h1,h2,h3⟩:=cand_mem h
  have hk:=(List.getElem?_eq_some_iff.1 hq).1
  have hcl:i∈clO (ps.map nd) k:=by rw [clO,nd_at' hq];exact hi
  obtain ⟨hlt,_,p,hp,hpi,_⟩:=cl_facts hW.wo hcl
  have hil:i<ps.length:=by omega
  have hpi2:ps[i]?=some ps[i]:=List.getElem?_eq_getElem hil
  have hpn:p=nd ps[i]:=by
    rw [nd_at' hpi2] at hp;exact (Option.some.inj hp).symm
  refine ⟨⟨i,h1,hil⟩,?_,?_,?_⟩
  · rw [h1,ifcI,plcI_nat,hpi2]
    rw [hpn] at hpi;exact hpi
  · rw [h1,extI_nat hk hil,ext_iff];exact .inr hcl
  · rw [fndI,plcI_nat,hpi2] at h2
    simp only at h2
    rcases findH_range nm ds ps[i].c.ms 0 with e|⟨j,x,e,hj,hn,hd⟩
    · rw [e,if_pos (by decide)] at h2
      have:=congrArg Prod.snd h2
      simp at this
    · rw [e,if_neg (by omega)] at h2
      have hm2:m.2=(j:Int):=by have:=congrArg Prod.fst h2;simp at this;omega
      have hme:methI ps m.1 m.2=some x:=by
        rw [methI,h1,hm2,plcI_nat,hpi2]
        show methP ps[i] (j:Int)=some x
        rw [methP,if_pos (Int.natCast_nonneg j)];exact hj
      refine ⟨x,hme,hn,hd,?_⟩
      rw [h1] at hme
      rw [hasS,hme] at h3
      exact h3
def oneL (ps:List Plc) (l:List (Int×Int)):List (Int×Int):=(maxL ps l).filter fun m=>!hasS ps m.1 m.2 1024
def oneV (ps:List Plc) (l:List (Int×Int)):(Int×Int)×Int:=match oneL ps l with
  | []=>((0,0),24)
  | [m]=>(m,0)
  | _=>((0,0),23)
end Go.Proofs.YtgppadlkollfaaaGreat
