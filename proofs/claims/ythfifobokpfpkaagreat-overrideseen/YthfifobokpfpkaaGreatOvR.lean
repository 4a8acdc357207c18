import Derived.Test.YthfifobokpfpkaaGreatRnK
import Derived.Test.YthfifobokpfpkaaGreatGrA
set_option maxRecDepth 100000
namespace Go.Proofs.YthfifobokpfpkaaGreat
open Go.RowKit Go.Maps
theorem all_over {ps:List Plc} {r y:Int×Int} (h:y∈(alvE ps r).1):(ovrI ps y r).1=true:=by
  rw [alvE] at h
  split at h
  · obtain ⟨k,hk,rfl⟩:=List.mem_map.1 h
    have:=(List.mem_filter.1 hk).2
    rw [ovC,Bool.and_eq_true] at this
    exact this.2
  · cases h
theorem ovr_ok {ps:List Plc} {c a:Int×Int} (h:(ovrI ps c a).1=true):ovrI ps c a=(true,0):=by
  rw [ovrI] at h ⊢
  split at h
  · exact Prod.ext h rfl
  · cases h
theorem all_rise (ps:List Plc) (a:Int×Int):(alvE ps a).1.Pairwise fun x y=>x.1<y.1:=by
  rw [alvE]
  split
  · rw [List.pairwise_map]
    have h:(List.range ps.length).Pairwise (· < ·):=List.pairwise_lt_range
    refine (h.filter _).imp fun h=>?_
    show (_:Int)<(_:Int)
    simp only [gK]
    omega
  · exact List.Pairwise.nil
theorem alv_cls {ps:List Plc} {a:Int×Int} {m:HM} (ha:methI ps a.1 a.2=some m) {c:Nat} (hc:c<ps.length):((∃ y∈(alvE ps a).1,y.1=(c:Int))↔ovC ps m.nm m.ds a c=true)∧∀ y∈(alvE ps a).1,y.1=(c:Int)→y=gK ps m.nm m.ds c:=by
  have e:(alvE ps a).1=(allK ps m.nm m.ds a).map (gK ps m.nm m.ds):=by rw [alvE,ha]
  rw [e]
  constructor
  · constructor
    · rintro ⟨y,hy,h1⟩
      obtain ⟨k,hk,rfl⟩:=List.mem_map.1 hy
      have:k=c:=by simp only [gK] at h1;omega
      subst this
      exact (List.mem_filter.1 hk).2
    · intro h
      exact ⟨_,List.mem_map.2 ⟨c,List.mem_filter.2 ⟨List.mem_range.2 hc,h⟩,rfl⟩,rfl⟩
  · intro y hy h1
    obtain ⟨k,hk,rfl⟩:=List.mem_map.1 hy
    have:k=c:=by simp only [gK] at h1;omega
    subst this
    rfl
theorem all_priv {ps:List Plc} (hW:WI ps) (hU:UnqM ps) (hS:SndM ps) {a:Int×Int} {m:HM} (ha:methI ps a.1 a.2=some m) (h2:hasI m.fl 2=true) (h8:stB m.fl=false):(alvE ps a).1=[a]:=by
  obtain ⟨k,q,hk,hq,_,_⟩:=meth_plc ha
  have e:(alvE ps a).1=(allK ps m.nm m.ds a).map (gK ps m.nm m.ds):=by rw [alvE,ha]
  obtain ⟨x,n,hc⟩:=hS.meth ha
  rw [e,← all_canon hW hU ha hk,gthL,askL,List.foldl_cons]
  have h1:gth1 ps a [] a=[a]:=by
    rw [gth1,stI,ha]
    simp only [h8,eqI_iff.2 rfl]
    rfl
  rw [h1]
  exact gth_priv ha h8 (priv_open hc h2).1 _ (nsk_ne ps _ _ _ _)
theorem open_over {ps:List Plc} (hW:WI ps) (hU:UnqM ps) {a:Int×Int} {m:HM} (ha:methI ps a.1 a.2=some m) (h5:openI m.fl=1∨openI m.fl=4) (h8:stB m.fl=false) (hin:(m.nm.toList == [60,105,110,105,116,62])=false) {c:Nat} (hif:ifcI ps (c:Int)=false) (hex:extI ps (c:Int) a.1=true) (hF:(fndI ps (c:Int) m.nm m.ds).2=0) {y:HM} (hy:methI ps (c:Int) (fndI ps (c:Int) m.nm m.ds).1=some y) (h10:hasI y.fl 10=false):ovC ps m.nm m.ds a c=true:=by
  have hself:Ov ps a a:=⟨0,rfl,by rw [stI,ha];exact h8⟩
  rw [ovC_iff hW hU ha]
  by_cases hca:(c:Int)=a.1
  · have hf:=hU.fnd ha rfl rfl
    have:gK ps m.nm m.ds c=a:=by
      rw [gK,hca,hf]
    rw [this]
    exact hself
  · refine hself.step ?_
    obtain ⟨hff,_⟩:=fnd_facts hF
    obtain ⟨z,hz,z1,z2⟩:=hff
    simp only at hz
    rw [hy] at hz
    cases hz
    rw [has10c,Bool.or_eq_false_iff] at h10
    have hn2:¬ openI y.fl=2:=by
      intro h
      rw [openI] at h
      split at h
      · cases h
      · split at h
        · cases h
        · split at h
          · rename_i hh;rw [h10.1] at hh;cases hh
          · cases h
    rw [plI]
    have e1:methI ps (gK ps m.nm m.ds c).1 (gK ps m.nm m.ds c).2=some y:=hy
    rw [e1,ha]
    simp only [plnB,freB,bloB,Bool.and_eq_true,beq_iff_eq,Bool.not_eq_true']
    have hst:stB y.fl=false:=h10.2
    refine ⟨⟨⟨⟨⟨⟨⟨hst,?_⟩,h8,hin⟩,z1⟩,z2⟩,⟨?_,hif⟩,hex⟩,?_⟩,?_⟩
    · rw [z1];exact hin
    · simpa [gK] using hca
    · simpa using hn2
    · rw [reaB]
      rcases h5 with h|h <;> rw [h] <;> simp
theorem fir_at {ps:List Plc} (hW:WI ps) (hU:UnqM ps) {a:Int×Int} {m:HM} (ha:methI ps a.1 a.2=some m) {r:Nat} {q:Plc} (hq:ps[r]?=some q) {j c:Nat} (hj:(chL (ps.map nd) r)[j]?=some c) (hno:∀ d∈(chL (ps.map nd) r).take j,ovC ps m.nm m.ds a d=false) (hc:ovC ps m.nm m.ds a c=true):firI ps (r:Int) a=(gK ps m.nm m.ds c,0):=by
  rw [fir_canon hW hU ha hq]
  refine firD_some ?_
  have hs:chL (ps.map nd) r=(chL (ps.map nd) r).take j++c::(chL (ps.map nd) r).drop (j+1):=by
    obtain ⟨h1,h2⟩:=List.getElem?_eq_some_iff.1 hj
    rw [← h2,← List.drop_eq_getElem_cons h1,List.take_append_drop]
  rw [hs,List.find?_append,List.find?_eq_none.2 (fun d hd=>by rw [hno d hd];simp),List.find?_cons,hc]
  rfl
theorem fir_none {ps:List Plc} (hW:WI ps) (hU:UnqM ps) {a:Int×Int} {m:HM} (ha:methI ps a.1 a.2=some m) {r:Nat} {q:Plc} (hq:ps[r]?=some q) (hno:∀ d∈chL (ps.map nd) r,ovC ps m.nm m.ds a d=false):(firI ps (r:Int) a).2=6:=by
  rw [fir_canon hW hU ha hq,firD_none hno]
set_option maxHeartbeats 4000000 in
theorem all_no {b:Nat} {ps:List Plc} {W:World} (h:WAt b ps W) (hi:WI ps) (c i:Int) (hm:methI ps c i=none):Calls Tryz.prog 18 #[.pointer (some ⟨b,0,none⟩),.agg #[.int .i64 c,.int .i64 i]] W fun e w'=>e=.returned (.tuple #[.slice none 0 0,.int .i64 3])∧Below W.heap.size W w':=by
  have HR:Hid (∀ w,Below W.heap.size W w→Calls Tryz.prog 83 #[.pointer (some ⟨b,0,none⟩),.agg #[.int .i64 c,.int .i64 i]] w fun e w'=>e=.returned (.tuple #[.agg #[.string ⟨#[]⟩,.string ⟨#[]⟩,.int .i64 0,.int .i64 0,.int .i64 0,.slice none 0 0,.int .i64 0,.int .i64 0,.pointer none],.int .i64 3])∧Below w.heap.size w w'):=fun w hb=>by
    have:=read_c (h.below hb) hi c i
    rw [hm] at this
    exact this
  clear h hi hm
  go_enter Tryz.func18,Tryz.ntmps18
  go_wp2_with (go_at_call 83;refine (HR.out _ (by repeat (first|exact Below.refl _ _|refine Below.setCell ?_ (by simp;try omega) _|refine Below.alloc ?_ (by simp;try omega) _|refine Below.drew ?_))).mono ?_;rintro e w1 ⟨rfl,hb⟩;have B1:Hid (Below W.heap.size W w1):=bstep (by repeat (first|exact Below.refl _ _|refine Below.setCell ?_ (by simp;try omega) _|refine Below.alloc ?_ (by simp;try omega) _|refine Below.drew ?_)) hb;clear hb HR)
  exact bodyPost_ret (results_tmp2 rfl _ _ _) rfl ⟨rfl,(by repeat (first|refine Below.setCell ?_ (by simp;try omega) _|refine Below.alloc ?_ (by have:=B1.out.size;simp;try omega) _|refine Below.drew ?_|exact B1.out))⟩
set_option maxHeartbeats 8000000 in
theorem all_yes {b:Nat} {ps:List Plc} {W:World} (h:WAt b ps W) (hi:WI ps) (k:Nat) (hk:k<ps.length) (i:Int) (m:HM) (hm:methI ps (k:Int) i=some m) (G:List (Int×Int)) (hG:gthL ps ((k:Int),i) (askL ps m ((k:Int),i) (List.range' (k+1) (ps.length - (k+1))))=G):Calls Tryz.prog 18 #[.pointer (some ⟨b,0,none⟩),.agg #[.int .i64 (k:Int),.int .i64 i]] W fun e w'=>(∃ v,e=.returned (.tuple #[v,.int .i64 0])∧w'.ownsRow W.heap.size 24 2 v G.length (flatD G))∧Below W.heap.size W w':=by
  obtain ⟨i0,hi0,hz0,hz1,hz2⟩:=info_parts Tryz.hinfo3
  obtain ⟨j0,hj0,hy0,hy1,hy2⟩:=info_parts Tryz.hinfoD
  have hP3:=hi.hi
  have hGb:G.length≤301:=by
    rw [← hG]
    refine Nat.le_trans (gthL_len _ _ _) ?_
    have:=nskL_len ps m.nm m.ds ((k:Int),i).1 (List.range' (k+1) (ps.length - (k+1)))
    rw [List.length_range'] at this
    rw [askL,List.length_cons]
    omega
  have HR:Hid (∀ w,Below W.heap.size W w→Calls Tryz.prog 83 #[.pointer (some ⟨b,0,none⟩),.agg #[.int .i64 (k:Int),.int .i64 i]] w fun e w'=>(∃ ma mk mo,e=.returned (.tuple #[.agg #[.string m.nm,.string m.ds,.int .i64 m.fl,.int .i64 m.lo,.int .i64 m.st,.slice ma mk mo,.int .i64 (k:Int),.int .i64 i,.pointer (some ⟨b,0,none⟩)],.int .i64 0]))∧Below w.heap.size w w'):=fun w hb=>by
    have:=read_c (h.below hb) hi (k:Int) i
    rw [hm] at this
    exact this
  have HLn:Hid (∀ w,Below W.heap.size W w→Calls Tryz.prog 29 #[.pointer (some ⟨b,0,none⟩)] w fun e w'=>e=.returned (.int .i64 (ps.length:Int))∧w'=w):=fun w hb=>len_c (h.below hb)
  have HG:Hid (∀ w (x:P9) (v:Value),Below W.heap.size W w→OkP ps x→x.id=((k:Int),i)→(x.nm,x.ds,x.c)=(m.nm,m.ds,(k:Int))→Rds w v (ps.length - (k+1)) 1 ((List.range' (k+1) (ps.length - (k+1))).map numV)→Calls Tryz.prog 84 #[x.agg b,v] w fun e w'=>∃ (L:List P9) (g cap:Nat),e=.returned (.slice (some ⟨g,0,none⟩) L.length cap)∧(∀ y∈L,OkP ps y)∧L.map P9.id=G∧w'.ownsRow w.heap.size 119 9 (.slice (some ⟨g,0,none⟩) L.length cap) L.length (flat9 b L)∧Below w.heap.size w w'):=fun w x v hb ho hid hnd hv=>by
    have:=gth_c (h.below hb) hi x ho v (List.range' (k+1) (ps.length - (k+1))) (by rw [List.length_range'];exact hv) (by rw [List.length_range'];omega)
    simp only [Prod.mk.injEq] at hnd
    rw [hid,hnd.1,hnd.2.1,hnd.2.2] at this
    rw [askL] at hG
    rw [hG] at this
    exact this
  have HM:Hid (methI ps (k:Int) i=some m):=hm
  generalize ps.length=P at *
  clear h hi hm hG
  simp only [P9.agg] at HG
  go_enter Tryz.func18,Tryz.ntmps18
  go_wp2_with (go_at_call 83;refine (HR.out _ (by repeat (first|exact Below.refl _ _|refine Below.setCell ?_ (by simp;try omega) _|refine Below.alloc ?_ (by simp;try omega) _|refine Below.drew ?_))).mono ?_;rintro e w1 ⟨⟨ma,mk,mo,rfl⟩,hb⟩;have abd:=kp2 (n:=W.heap.size) hb (by simp) (halloc1 _ _);obtain ⟨abB,ab0,ab1,abf,abL,abN⟩:=abd;have B1:Hid (Below W.heap.size W w1):=bstep (by repeat (first|exact Below.refl _ _|refine Below.setCell ?_ (by simp;try omega) _|refine Below.alloc ?_ (by simp;try omega) _|refine Below.drew ?_)) hb;clear hb HR)
  obtain ⟨U,hU⟩:∃ U,U=w1.alloc (.cells #[.string m.nm,.string m.ds,.int .i64 m.fl,.int .i64 m.lo,.int .i64 m.st,.slice ma mk mo,.int .i64 (k:Int),.int .i64 i,.pointer (some ⟨b,0,none⟩)] 119):=⟨_,rfl⟩
  have BU:Hid (Below W.heap.size W U):=by rw [hU];exact B1.out.alloc B1.out.size _
  have HX:Hid (U.heap[w1.heap.size]?=some (.cells #[.string m.nm,.string m.ds,.int .i64 m.fl,.int .i64 m.lo,.int .i64 m.st,.slice ma mk mo,.int .i64 (k:Int),.int .i64 i,.pointer (some ⟨b,0,none⟩)] 119 (0,0))):=by rw [hU];exact halloc1 _ _
  have hxl:w1.heap.size<U.heap.size:=by rw [hU];simp
  rw [← hU]
  clear hU abB ab0 ab1 abf abL abN
  go_loopw [8,9] (fun sv kv wr=>∃ n:Nat,kv=.int .i64 ((k+1+n:Nat):Int)∧k+1+n≤P∧Hid (wr.ownsRow U.heap.size 3 1 sv n ((List.range' (k+1) n).map numV))∧Hid (Below U.heap.size U wr)) (fun _ kv _=>P - (intOf kv).toNat)
  case atStart=>exact ⟨0,by go_num,by omega,World.ownsRow_nil _ _ _ _,Below.refl _ _⟩
  case round =>
    obtain ⟨n,rfl,hn,hO,hB⟩:=hrel
    have BWr:Hid (Below W.heap.size W wr):=BU.out.trans (hB.out.mono BU.out.size)
    obtain ⟨va,vn,rfl⟩:=ownv hO.out
    have HL1:Hid (Calls Tryz.prog 29 #[.pointer (some ⟨b,0,none⟩)] wr fun e w'=>e=.returned (.int .i64 (P:Int))∧w'=wr):=HLn.out wr BWr.out
    by_cases hlt:k+1+n<P
    · have hltI:((k+1+n:Nat):Int)<(P:Int):=by omega
      have hst:(List.range' (k+1) (n+1)).map numV=(List.range' (k+1) n).map numV++[numV (k+1+n)]:=by rw [List.range'_1_concat,List.map_append];rfl
      have HST:Hid _:=hst
      obtain ⟨c,hc⟩:∃ c,c=k+1+n:=⟨_,rfl⟩
      rw [← hc] at hltI HST ⊢
      have HC:Hid (c=k+1+n):=hc
      have hc3:c≤300:=by omega
      have hn3:n≤300:=by omega
      generalize (List.range' (k+1) n).map numV=X at *
      clear hst hc
      go_wp2_with (first
        | (go_at_call 29;refine HL1.out.mono ?_;rintro e w9 ⟨rfl,hw9⟩;rw [hw9];clear hw9 w9 HL1)
        | (at_builtin;refine wpList_append_own _ rfl _ _ 40 rfl U.heap.size 3 i0 (.int .i64 0) 1 8 Tryz.underlying40 hi0 hz0 hz1 hz2 rfl (by decide) (.slice va n vn) n X rfl (hO.out.alloc _) ⟨wr.heap.size,0,none⟩ 1 1 [.int .i64 (c:Int)] rfl rfl ?c1 ?c2 ?c3 ?c4 ?c5 ?_))
      case c1=>intro jj u hj;rw [addr_add];cases jj with
        | zero=>simp at hj;subst hj;simp [go_sem]
        | succ jj=>simp at hj
      case c2=>intro u hu;simp at hu;subst hu;rfl
      case c3=>unfold maxLen;omega
      case c4=>omega
      case c5=>have:=hB.out.size;simp;omega
      intro v' w2 hown hgrow _
      obtain ⟨va2,vn2,rfl⟩:=ownv hown
      have B2:Hid (Below U.heap.size U w2):=by
        have hb1:Below U.heap.size U (wr.alloc (.cells #[.int .i64 (c:Int)] 3)):=hB.out.alloc hB.out.size _
        refine hb1.grown hgrow hb1.size (fun x hx=>?_)
        have:=(hO.out.lt x hx).1
        omega
      have O2:Hid (w2.ownsRow U.heap.size 3 1 (.slice va2 (n+1) vn2) (n+1) ((List.range' (k+1) (n+1)).map numV)):=by
        rw [Hid,HST.out];exact hown
      clear hown hgrow
      go_wp2
      go_roundw
      case rel=>exact ⟨n+1,by rw [HC.out];go_num,by have:=HC.out;omega,O2,B2⟩
      case measure=>have:=HC.out;simp [intOf];omega
    · have en:n=P - (k+1):=by omega
      have hltI:¬ ((k+1+n:Nat):Int)<(P:Int):=by omega
      have D1:Hid (Rds wr (.slice va n vn) (P - (k+1)) 1 ((List.range' (k+1) (P - (k+1))).map numV)):=by rw [Hid,← en];exact own_rds hO.out
      obtain ⟨p0,p1,p2,p3,p4,p5,p6,p7,p8,pL⟩:=row9 ((hB.out.block w1.heap.size hxl).trans HX.out)
      have EN:Hid (n=P - (k+1)):=en
      clear en
      go_wp2_with (first
        | (go_at_call 29;refine HL1.out.mono ?_;rintro e w9 ⟨rfl,hw9⟩;rw [hw9];clear hw9 w9 HL1)
        | (go_at_call 84;refine (HG.out wr ⟨m.nm,m.ds,m.fl,m.lo,m.st,ma,mk,mo,(k:Int),i⟩ (.slice va n vn) BWr.out ⟨m,HM.out,rfl,rfl,rfl⟩ rfl rfl D1.out).mono ?_;rintro e w4 ⟨L,g,cap,rfl,hok,hid,ho,hb⟩;have ID4:Hid (L.map P9.id=G):=hid;have O4:Hid (w4.ownsRow wr.heap.size 119 9 (.slice (some ⟨g,0,none⟩) L.length cap) L.length (flat9 b L)):=ho;have B4:Hid (Below W.heap.size W w4):=bstep BWr.out hb;clear hb ho hok hid HG))
      clear p0 p1 p2 p3 p4 p5 p6 p7 p8 pL
      obtain ⟨T,hT⟩:∃ T,L.length=T:=⟨_,rfl⟩
      have HT:Hid (L.length=T):=hT
      have HGT:Hid (G.length=T):=by rw [Hid,← ID4.out,List.length_map];exact hT
      have hT3:T≤301:=by rw [← HGT.out];exact hGb
      rw [hT] at O4 ⊢
      clear hT
      go_loopw [10,39] (fun sv kv wr=>∃ j:Nat,kv=.int .i64 j∧j≤T∧Hid (wr.ownsRow w4.heap.size 24 2 sv j (flatD (G.take j)))∧Hid (Below w4.heap.size w4 wr)) (fun _ kv _=>T - (intOf kv).toNat)
      case atStart=>exact ⟨0,rfl,Nat.zero_le _,World.ownsRow_nil _ _ _ _,Below.refl _ _⟩
      case round =>
        obtain ⟨j,rfl,hj,hOj,hBj⟩:=hrel
        obtain ⟨xa,xc,rfl⟩:=ownv hOj.out
        by_cases hlj:j<T
        · have hjI:(j:Int)<(T:Int):=by omega
          obtain ⟨y,hy⟩:∃ y,L[j]?=some y:=⟨_,List.getElem?_eq_getElem (by rw [HT.out];exact hlj)⟩
          have hgy:G[j]?=some y.id:=by rw [← ID4.out,List.getElem?_map,hy];rfl
          have HTK:Hid (flatD (G.take (j+1))=flatD (G.take j)++[.int .i64 y.c,.int .i64 y.i]):=by
            rw [Hid,List.take_add_one,hgy,Option.toList_some,flatD_app];rfl
          obtain ⟨e0,e1,e2,e3,e4,e5,e6,e7,e8,gL⟩:=row9_cells (rowBelow O4.out hBj.out) hy
          obtain ⟨yn,yd,yf,yl,ys,ya,yk,yo,yc,yi⟩:=y
          simp only at e0 e1 e2 e3 e4 e5 e6 e7 e8 HTK
          generalize flatD (G.take j)=X at hOj HTK
          clear hy hgy
          go_wp2_with (at_builtin;refine wpList_append_own _ rfl _ _ 34 rfl w4.heap.size 24 j0 (.agg #[.int .i64 0,.int .i64 0]) 2 16 Tryz.underlying34 hj0 hy0 hy1 hy2 rfl (by decide) (.slice xa j xc) j X rfl ((hOj.out.alloc _).alloc _) ⟨wr.heap.size+1,0,none⟩ 1 1 [.int .i64 yc,.int .i64 yi] rfl rfl ?c1 ?c2 ?c3 ?c4 ?c5 ?_)
          case c1=>intro jj u hj;rw [addr_add];match jj,hj with
            | 0,hj=>simp at hj;subst hj;simp [go_sem]
            | 1,hj=>simp at hj;subst hj;simp [go_sem]
            | (jj+2),hj=>simp at hj
          case c2=>intro u hu;simp at hu;rcases hu with rfl|rfl <;> rfl
          case c3=>unfold maxLen;omega
          case c4=>omega
          case c5=>have:=hBj.out.size;simp;omega
          intro v' w6 hown hgrow _
          obtain ⟨va2,vn2,rfl⟩:=ownv hown
          have B6:Hid (Below w4.heap.size w4 w6):=by
            refine Below.grown (w:=(wr.alloc (.cells #[.string yn,.string yd,.int .i64 yf,.int .i64 yl,.int .i64 ys,.slice ya yk yo,.int .i64 yc,.int .i64 yi,.pointer (some ⟨b,0,none⟩)] 119)).alloc (.cells #[.int .i64 yc,.int .i64 yi] 24)) ?_ hgrow ?_ (fun x hx=>?_)
            · exact (hBj.out.alloc hBj.out.size _).alloc (by have:=hBj.out.size;simp;omega) _
            · have:=hBj.out.size;simp;omega
            · have:=(hOj.out.lt x hx).1
              omega
          have O6:Hid (w6.ownsRow w4.heap.size 24 2 (.slice va2 (j+1) vn2) (j+1) (flatD (G.take (j+1)))):=by
            rw [Hid,HTK.out];exact hown
          clear hown hgrow
          go_wp2
          go_roundw
          case rel=>exact ⟨j+1,by go_num,by omega,O6,B6⟩
          case measure=>simp [intOf];omega
        · have e:j=T:=by omega
          subst e
          have O9:Hid (wr.ownsRow W.heap.size 24 2 (.slice xa j xc) G.length (flatD G)):=by
            have:=hOj.out
            rw [List.take_of_length_le (by rw [HGT.out];exact Nat.le_refl _)] at this
            rw [Hid,HGT.out]
            exact Go.Joins.ownsRow_le this B4.out.size
          go_wp2
          exact bodyPost_ret (results_tmp2 rfl _ _ _) rfl ⟨⟨_,rfl,O9.out⟩,B4.out.trans (hBj.out.mono B4.out.size)⟩
end Go.Proofs.YthfifobokpfpkaaGreat
